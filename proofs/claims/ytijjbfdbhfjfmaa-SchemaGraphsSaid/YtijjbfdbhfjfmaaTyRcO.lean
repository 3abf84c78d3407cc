/- append of one element as a step of a region that draws its order. No condition. -/
import Derived.Test.YtijjbfdbhfjfmaaOwnG
import Derived.Deep.RegionLawGrows
namespace Go.Proofs.Ytijjbfdbhfjfmaa
open Go.RowKit
/-- append of one element as a step of a region that draws its order. -/
theorem ownR_step2 {α : Type} {e : TypeId} {k : Nat} {enc : α → List Value} {ops : Array Oper} {o : Oper} {a : Act} {w : World} {K : Act → World → Prop} {Q : Exit → Act → World → Prop} {E : Prop} (hgd : o.guard = none) (s x : Operand) (t : TypeId)
    (ho : o.op = .call { callee := .builtin .append, args := #[s, x], argTypes := #[t, t] }) (ht : Try.prog.underlying t = some (.slice e)) {z : Value} {bytes : Nat}
    (hinfo : (Try.prog.info? e).map (fun i => (i.zero, i.size, i.bytes)) = some (some z, k, bytes)) (hz : z.cells.size = k) (hk0 : 0 < k) (hby : bytes ≤ 1000)
    (hk : ∀ x, (enc x).length = k) (h1 : ∀ x, ∀ u ∈ enc x, u.oneCell' = true)
    (B : Nat) (v : Value) (l : List α) (hs : a.eval s = v) (hown : OwnR e k enc B w v l) (y : α) (ad : Addr) (c : Nat) (hx : a.eval x = .slice (some ad) 1 c)
    (hnews : ∀ j u, (enc y)[j]? = some u → w.cell? (ad.add j) = some u) (hlen : l.length ≤ 1000000) (hb : B ≤ w.heap.size)
    (h : ∀ v' w', OwnR e k enc B w' v' (l ++ [y]) → Below B w w' → (∀ b, b < w.heap.size → some b ≠ v.ownBlock → w'.heap[b]? = w.heap[b]?) → (v'.ownBlock = v.ownBlock ∨ ∀ g, v'.ownBlock = some g → w.heap.size ≤ g) → K (a.put o.dst v') w') : if Region.wanted o (yielded ops a.tmps) = true then Oper.wp Try.prog o a w K Q else E := by
  have hw : Region.wanted o (yielded ops a.tmps) = true := by simp [Region.wanted, hgd]
  obtain ⟨i0, hi, hz0, hz1, hz2⟩ := info_parts hinfo
  have hby2 : (l.length + 1) * bytes ≤ 140737488355328 := by
    have := Nat.mul_le_mul (show l.length + 1 ≤ 1000001 by omega) hby
    omega
  have hnl : (enc y).length = 1 * k := by rw [hk, Nat.one_mul]
  have happ : (l ++ [y]).flatMap enc = l.flatMap enc ++ enc y := by simp
  have hlt := World.ownsRow.lt hown
  rcases hown.2 with ⟨rfl, hn⟩ | ⟨g, cap, cur, rfl, hbg, hg, hnc, hcm, hcs, htake⟩
  · have hl : l = [] := List.eq_nil_of_length_eq_zero hn
    subst hl
    refine step_append_grows hgd s x t ho e i0 z k bytes ht hi hz0 hz1 hz2 hz hk0 none 0 0 [] hs (fun _ => ⟨rfl, rfl⟩) (by simp) (fun b hb => by simp at hb) ad 1 c (enc y) hx hnl hnews (h1 y) (by omega) (by unfold maxLen; omega) (by simpa using hby2) fun v' w' r1 r2 => ?_
    have r3 : OwnR e k enc w.heap.size w' v' ([] ++ [y]) := by unfold OwnR; rw [happ]; exact r1
    exact h v' w' (r3.base hb) ((Below.refl _ _).grown r2 hb (by simp)) (fun b hb _ => r2.block b hb (by simp)) (.inr fun g hg => (World.ownsRow.lt r3 g hg).1)
  · by_cases hroom : l.length + 1 ≤ cap
    · rw [if_pos hw]
      obtain ⟨w', hrun, r1, r2⟩ := run_append_fits (P := Try.prog) w B t o.type e i0 k ht hi hz1 g l.length cap (l.flatMap enc) hown ad 1 c (enc y) hnl hnews (h1 y) hroom
      unfold Oper.wp
      simp [execOp, ho, resolve, invoke, builtin, hs, hx, hrun, Result.andThen]
      refine h _ w' ?_ ((Below.refl _ _).grown r2 hb fun k hk => by simp at hk; subst hk; exact hbg) (fun b hb hne => r2.block b hb hne) (.inl rfl)
      unfold OwnR; rw [happ, List.length_append]; exact r1
    · have holds : ∀ b, some (⟨g, 0, none⟩ : Addr) = some b → ∀ j u, (l.flatMap enc)[j]? = some u → w.cell? (b.add j) = some u := fun b hb => by
        simp only [Option.some.injEq] at hb
        subst hb
        exact World.ownsRow.cells hown (g := g) rfl
      refine step_append_grows hgd s x t ho e i0 z k bytes ht hi hz0 hz1 hz2 hz hk0 (some ⟨g, 0, none⟩) l.length cap (l.flatMap enc) hs (fun h => by simp at h) hown.1 holds ad 1 c (enc y) hx hnl hnews (h1 y) (by omega) (by unfold maxLen; omega) hby2 fun v' w' r1 r2 => ?_
      have r3 : OwnR e k enc w.heap.size w' v' (l ++ [y]) := by unfold OwnR; rw [happ, List.length_append]; exact r1
      exact h v' w' (r3.base hb) ((Below.refl _ _).grown r2 hb (by simp)) (fun b hb _ => r2.block b hb (by simp)) (.inr fun g hg => (World.ownsRow.lt r3 g hg).1)
end Go.Proofs.Ytijjbfdbhfjfmaa
