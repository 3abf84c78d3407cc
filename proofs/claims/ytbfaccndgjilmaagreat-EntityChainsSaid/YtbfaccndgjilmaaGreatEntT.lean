/- Plain: a list of entities turned round, with their parents turned round. No condition. -/
import Derived.Test.YtbfaccndgjilmaaGreatEnts
import Derived.Test.YtbfaccndgjilmaaGreatLawP
namespace Go.Proofs.YtbfaccndgjilmaaGreat
def rvE (e : En) : En := ⟨e.u, e.ps.reverse, e.a⟩
def rvL (l : List En) : List En := l.reverse.map rvE
theorem rvE_rvE (e : En) : rvE (rvE e) = e := by unfold rvE; simp
theorem rvL_rvL (l : List En) : rvL (rvL l) = l := by
  unfold rvL
  rw [← List.map_reverse, List.reverse_reverse, List.map_map]
  have : rvE ∘ rvE = id := funext rvE_rvE
  rw [this, List.map_id]
theorem rvL_len (l : List En) : (rvL l).length = l.length := by simp [rvL]
theorem mem_rvL {l : List En} {d : En} : d ∈ rvL l ↔ ∃ e ∈ l, d = rvE e := by
  unfold rvL
  simp only [List.mem_map, List.mem_reverse]
  exact ⟨fun ⟨e, h, k⟩ => ⟨e, h, k.symm⟩, fun ⟨e, h, k⟩ => ⟨e, h, k.symm⟩⟩
theorem sim_rv (l : List En) : Sim l (rvL l) where
  u := by
    have : namesE (rvL l) = (namesE l).reverse := by unfold namesE rvL; rw [List.map_map, ← List.map_reverse]; rfl
    rw [this]
    exact (List.reverse_perm _).symm
  fw := fun e he => ⟨rvE e, mem_rvL.2 ⟨e, he, rfl⟩, rfl, rfl, fun z => by simp [rvE]⟩
  bw := fun d hd => by
    obtain ⟨e, he, rfl⟩ := mem_rvL.1 hd
    exact ⟨e, he, rfl, rfl, fun z => by simp [rvE]⟩
/-- One step of turning round. -/
theorem rvL_step {l : List En} {i : Nat} (hi : i < l.length) : rvL (l.drop i) = rvL (l.drop (i + 1)) ++ [rvE l[i]] := by
  unfold rvL
  rw [List.drop_eq_getElem_cons hi, List.reverse_cons, List.map_append]
  rfl
theorem rv_ps_step {l : List Us} {i : Nat} (hi : i < l.length) : (l.drop i).reverse = (l.drop (i + 1)).reverse ++ [l[i]] := by
  rw [List.drop_eq_getElem_cons hi, List.reverse_cons]
end Go.Proofs.YtbfaccndgjilmaaGreat
