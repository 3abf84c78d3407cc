/- append of one element as a step of a region that draws its order; entities and names appended to rows of the call itself. No condition. -/
import Derived.Test.YtmkillbanmbafaaGreatCanQ
import Derived.Deep.RegionLawGrows
namespace Go.Proofs.YtmkillbanmbafaaGreat
open Go.RowKit Go.Sort
theorem ownR_step2 {α : Type} {e : TypeId} {k : Nat} {enc : α → List Value} {ops : Array Oper} {o : Oper} {a : Act} {w : World} {K : Act → World → Prop} {Q : Exit → Act → World → Prop} {E : Prop} (hgd : o.guard = none) (s x : Operand) (t : TypeId)
    (ho : o.op = .call { callee := .builtin .append, args := #[s, x], argTypes := #[t, t] }) (ht : Tryz.prog.underlying t = some (.slice e)) {z : Value} {bytes : Nat}
    (hinfo : (Tryz.prog.info? e).map (fun i => (i.zero, i.size, i.bytes)) = some (some z, k, bytes)) (hz : z.cells.size = k) (hk0 : 0 < k) (hby : bytes ≤ 1000)
    (hk : ∀ x, (enc x).length = k) (h1 : ∀ x, ∀ u ∈ enc x, u.oneCell' = true)
    (B : Nat) (v : Value) (l : List α) (hs : a.eval s = v) (hown : OwnR e k enc B w v l) (y : α) (ad : Addr) (c : Nat) (hx : a.eval x = .slice (some ad) 1 c)
    (hnews : ∀ j u, (enc y)[j]? = some u → w.cell? (ad.add j) = some u) (hlen : l.length ≤ 1000000) (hb : B ≤ w.heap.size)
    (h : ∀ v' w', OwnR e k enc B w' v' (l ++ [y]) → Below B w w' → (∀ b, b < w.heap.size → some b ≠ v.ownBlock → w'.heap[b]? = w.heap[b]?) → (v'.ownBlock = v.ownBlock ∨ ∀ g, v'.ownBlock = some g → w.heap.size ≤ g) → K (a.put o.dst v') w') : if Region.wanted o (yielded ops a.tmps) = true then Oper.wp Tryz.prog o a w K Q else E := by
  have hw : Region.wanted o (yielded ops a.tmps) = true := by simp [Region.wanted, hgd]
  obtain ⟨i0, hi, hz0, hz1, hz2⟩ := info_parts hinfo
  have hby2 : (l.length + 1) * bytes ≤ 140737488355328 := by
    have := Nat.mul_le_mul (show l.length + 1 ≤ 1000001 by omega) hby
    omega
  have hnl : (enc y).length = 1 * k := by rw [hk, Nat.one_mul]
  have happ : (l ++ [y]).flatMap enc = l.flatMap enc ++ enc y := by simp
  have hlt := World.ownsRow.lt hown
  rcases hown.2 with ⟨rfl, hn⟩ | ⟨g, cap, cur, rfl, hbg, hg, hnc, hcm, hcs, htake⟩
  · have hl : l = [] := List.eq_nil_of_length_eq_zero hn
    subst hl
    refine step_append_grows hgd s x t ho e i0 z k bytes ht hi hz0 hz1 hz2 hz hk0 none 0 0 [] hs (fun _ => ⟨rfl, rfl⟩) (by simp) (fun b hb => by simp at hb) ad 1 c (enc y) hx hnl hnews (h1 y) (by omega) (by unfold maxLen; omega) (by simpa using hby2) fun v' w' r1 r2 => ?_
    have r3 : OwnR e k enc w.heap.size w' v' ([] ++ [y]) := by unfold OwnR; rw [happ]; exact r1
    exact h v' w' (r3.base hb) ((Below.refl _ _).grown r2 hb (by simp)) (fun b hb _ => r2.block b hb (by simp)) (.inr fun g hg => (World.ownsRow.lt r3 g hg).1)
  · by_cases hroom : l.length + 1 ≤ cap
    · rw [if_pos hw]
      obtain ⟨w', hrun, r1, r2⟩ := run_append_fits (P := Tryz.prog) w B t o.type e i0 k ht hi hz1 g l.length cap (l.flatMap enc) hown ad 1 c (enc y) hnl hnews (h1 y) hroom
      unfold Oper.wp
      simp [execOp, ho, resolve, invoke, builtin, hs, hx, hrun, Result.andThen]
      refine h _ w' ?_ ((Below.refl _ _).grown r2 hb fun k hk => by simp at hk; subst hk; exact hbg) (fun b hb hne => r2.block b hb hne) (.inl rfl)
      unfold OwnR; rw [happ, List.length_append]; exact r1
    · have holds : ∀ b, some (⟨g, 0, none⟩ : Addr) = some b → ∀ j u, (l.flatMap enc)[j]? = some u → w.cell? (b.add j) = some u := fun b hb => by
        simp only [Option.some.injEq] at hb
        subst hb
        exact World.ownsRow.cells hown (g := g) rfl
      refine step_append_grows hgd s x t ho e i0 z k bytes ht hi hz0 hz1 hz2 hz hk0 (some ⟨g, 0, none⟩) l.length cap (l.flatMap enc) hs (fun h => by simp at h) hown.1 holds ad 1 c (enc y) hx hnl hnews (h1 y) (by omega) (by unfold maxLen; omega) hby2 fun v' w' r1 r2 => ?_
      have r3 : OwnR e k enc w.heap.size w' v' (l ++ [y]) := by unfold OwnR; rw [happ, List.length_append]; exact r1
      exact h v' w' (r3.base hb) ((Below.refl _ _).grown r2 hb (by simp)) (fun b hb _ => r2.block b hb (by simp)) (.inr fun g hg => (World.ownsRow.lt r3 g hg).1)
/-- Behind an append the elements lie apart from the row still; the new one, whose names lie in newer blocks, too. -/
theorem ee_stepA {B : Nat} {w0 wo wi W w4 : World} {v v2 vp : Value} {ms : List Ee} {y : Ee} (hB : B = w0.heap.size) (L0 : Low w0 wo) (E : ∀ p ∈ ms, EeOk (fun b => some b ≠ v.ownBlock) wo p) (L1 : Low wo wi) (LW : Low wi W) (O : OwnE B wo v ms)
    (hU : OwnU wo.heap.size wi vp y.e.ps) (hvp : vp = y.sh.p) (hR : Rep (fun _ => True) w0 y.e.a y.it y.nm) (k2 : ∀ b, b < W.heap.size → some b ≠ v.ownBlock → w4.heap[b]? = W.heap[b]?) (n2 : v2.ownBlock = v.ownBlock ∨ ∀ g, v2.ownBlock = some g → W.heap.size ≤ g) (h2 : OwnE B w4 v2 (ms ++ [y])) :
    ∀ p ∈ ms ++ [y], EeOk (fun b => some b ≠ v2.ownBlock) w4 p := by
  have hv : ∀ g, v.ownBlock = some g → B ≤ g ∧ g < wo.heap.size := fun g hg => World.ownsRow.lt O g hg
  have s0 := L0.size
  have s1 := L1.size
  have s2 := LW.size
  have key : ∀ b, b < wi.heap.size → some b ≠ v.ownBlock → some b ≠ v2.ownBlock ∧ w4.heap[b]? = wi.heap[b]? := fun b hb hne => by
    refine ⟨?_, (k2 b (by omega) hne).trans (LW.2.2.2 b hb)⟩
    rcases n2 with h | h
    · rw [h]; exact hne
    · intro e
      have := h b e.symm
      omega
  intro p hp
  rcases List.mem_append.1 hp with hp | hp
  · refine EeOk.to (fun b ha hb => ?_) (E p hp)
    obtain ⟨h1, h3⟩ := key b (by omega) ha
    exact ⟨h1, h3.trans (L1.2.2.2 b hb)⟩
  · simp at hp
    subst hp
    subst hvp
    refine ⟨?_, ?_⟩
    · have hI : UsIn (fun b => wo.heap.size ≤ b) wi p.sh.p p.e.ps := OwnR.usIn hU fun g hg => (World.ownsRow.lt hU g hg).1
      refine hI.to fun b ha hb => ?_
      exact key b hb fun e => by have := (hv b e.symm).2; omega
    · refine Rep.to (fun b _ hb => ?_) _ hR
      obtain ⟨h1, h3⟩ := key b (by omega) fun e => by have := (hv b e.symm).1; omega
      exact ⟨h1, (h3.trans (L1.2.2.2 b (by omega))).trans (L0.2.2.2 b hb)⟩
theorem EeOk.any {A : Nat → Prop} {w : World} {q : Ee} (h : EeOk A w q) : EeOk (fun _ => True) w q := h.to fun _ _ _ => ⟨trivial, rfl⟩
end Go.Proofs.YtmkillbanmbafaaGreat
