/- Rows of several cells an element that a call makes itself: gone on with, one by one. No condition. -/
import Derived.Test.YtijjbfdbhfjfmaaLow
import Derived.ArgAppend
namespace Go.Proofs.Ytijjbfdbhfjfmaa
open Go.RowKit
section
variable {α : Type}
/-- The slice holds just these, in a block of the call's own. -/
def OwnR (e : TypeId) (k : Nat) (enc : α → List Value) (B : Nat) (w : World) (v : Value) (l : List α) : Prop := w.ownsRow B e k v l.length (l.flatMap enc)
theorem flat_len {k : Nat} {enc : α → List Value} (hk : ∀ x, (enc x).length = k) (l : List α) : (l.flatMap enc).length = l.length * k := by
  induction l with
  | nil => simp
  | cons x l ih => rw [List.flatMap_cons, List.length_append, hk, ih, List.length_cons, Nat.add_mul]; omega
theorem flat_at {k : Nat} {enc : α → List Value} (hk : ∀ x, (enc x).length = k) : ∀ (l : List α) (j c : Nat) (hj : j < l.length), c < k → (l.flatMap enc)[j * k + c]? = (enc l[j])[c]?
  | [], j, c, hj, _ => absurd hj (Nat.not_lt_zero _)
  | x :: l, 0, c, _, hc => by
    rw [List.flatMap_cons, Nat.zero_mul, Nat.zero_add, List.getElem?_append_left (by rw [hk]; exact hc)]; rfl
  | x :: l, j + 1, c, hj, hc => by
    rw [List.flatMap_cons, List.getElem?_append_right (by rw [hk, Nat.add_mul]; omega), hk, show (j + 1) * k + c - k = j * k + c by rw [Nat.add_mul]; omega, flat_at hk l j c (by simpa using hj) hc]
    simp
theorem OwnR.nil (e : TypeId) (k : Nat) (enc : α → List Value) (B : Nat) (w : World) : OwnR e k enc B w (.slice none 0 0) [] := World.ownsRow_nil _ _ _ _
theorem OwnR.alloc {e : TypeId} {k : Nat} {enc : α → List Value} {B : Nat} {w : World} {v : Value} {l : List α} (h : OwnR e k enc B w v l) (o : Obj) : OwnR e k enc B (w.alloc o) v l := World.ownsRow.alloc h o
/-- The row's block as it was: the row as it was. -/
theorem OwnR.to {e : TypeId} {k : Nat} {enc : α → List Value} {B : Nat} {w w' : World} {v : Value} {l : List α} (h : OwnR e k enc B w v l) (hb : ∀ g, v.ownBlock = some g → w'.heap[g]? = w.heap[g]?) : OwnR e k enc B w' v l := by
  refine ⟨h.1, ?_⟩
  rcases h.2 with hn | ⟨g, cap, cur, rfl, h1, h2, h3⟩
  · exact .inl hn
  · exact .inr ⟨g, cap, cur, rfl, h1, (hb g rfl).trans h2, h3⟩
theorem OwnR.low {e : TypeId} {k : Nat} {enc : α → List Value} {B : Nat} {w w' : World} {v : Value} {l : List α} (h : OwnR e k enc B w v l) (hl : Low w w') : OwnR e k enc B w' v l :=
  h.to fun g hg => hl.2.2.2 g (World.ownsRow.lt h g hg).2
theorem OwnR.base {e : TypeId} {k : Nat} {enc : α → List Value} {B B' : Nat} {w : World} {v : Value} {l : List α} (h : OwnR e k enc B w v l) (hb : B' ≤ B) : OwnR e k enc B' w v l := by
  refine ⟨h.1, ?_⟩
  rcases h.2 with hn | ⟨g, cap, cur, rfl, h1, h2, h3⟩
  · exact .inl hn
  · exact .inr ⟨g, cap, cur, rfl, Nat.le_trans hb h1, h2, h3⟩
theorem OwnR.shape {e : TypeId} {k : Nat} {enc : α → List Value} {B : Nat} {w : World} {v : Value} {l : List α} (h : OwnR e k enc B w v l) : ∃ ao cap, v = .slice ao l.length cap ∧ l.length ≤ cap ∧ cap ≤ 9223372036854775807 ∧ (l = [] ∨ ∃ g, ao = some ⟨g, 0, none⟩ ∧ B ≤ g ∧ g < w.heap.size) := by
  have hlt := World.ownsRow.lt h
  rcases h.2 with ⟨rfl, hn⟩ | ⟨g, cap, cur, rfl, h1, h2, h3, h4, h5⟩
  · exact ⟨none, 0, by rw [hn], by omega, by omega, .inl (List.eq_nil_of_length_eq_zero hn)⟩
  · exact ⟨_, cap, rfl, h3, by unfold maxLen at h4; omega, .inr ⟨g, rfl, h1, (hlt g rfl).2⟩⟩
theorem OwnR.cell {e : TypeId} {k : Nat} {enc : α → List Value} (hk : ∀ x, (enc x).length = k) {B : Nat} {w : World} {g cap n : Nat} {l : List α} (h : OwnR e k enc B w (.slice (some ⟨g, 0, none⟩) n cap) l) (j c : Nat) (hj : j < l.length) (hc : c < k) :
    w.cell? ⟨g, j * k + c, none⟩ = (enc l[j])[c]? := by
  have h1 := World.ownsRow.cells h (g := g) rfl (j * k + c) ((enc l[j])[c]'(by rw [hk]; exact hc)) (by rw [flat_at hk l j c hj hc]; exact List.getElem?_eq_getElem _)
  rw [Addr.add_lit, Nat.zero_add] at h1
  rw [h1, List.getElem?_eq_getElem (by rw [hk]; exact hc)]
theorem OwnR.frozen {e : TypeId} {k : Nat} {enc : α → List Value} {B : Nat} {w : World} {g cap n : Nat} {l : List α} (h : OwnR e k enc B w (.slice (some ⟨g, 0, none⟩) n cap) l) (j : Nat) : w.frozen? ⟨g, j, none⟩ = false := by
  rcases h.2 with ⟨hv, _⟩ | ⟨g', cap', cur, hv, h1, h2, _⟩
  · simp at hv
  · simp only [Value.slice.injEq, Option.some.injEq, Addr.mk.injEq] at hv
    obtain ⟨⟨rfl, -, -⟩, -, -⟩ := hv
    simp [World.frozen?, h2]
/-- append of one element: the row as it was and the element; in the same block, or in a new one. -/
theorem appR {e : TypeId} {k : Nat} {enc : α → List Value} {ops : Array Oper} {rest : List Oper} {o : Oper} {a : Act} {w : World} {Q : Exit → Act → World → Prop} (hgd : o.guard = none) (s x : Operand) (t : TypeId)
    (ho : o.op = .call { callee := .builtin .append, args := #[s, x], argTypes := #[t, t] }) (ht : Try.prog.underlying t = some (.slice e)) {z : Value} {bytes : Nat}
    (hinfo : (Try.prog.info? e).map (fun i => (i.zero, i.size, i.bytes)) = some (some z, k, bytes)) (hz : z.cells.size = k) (hk0 : 0 < k) (hby : bytes ≤ 1000)
    (hk : ∀ x, (enc x).length = k) (h1 : ∀ x, ∀ u ∈ enc x, u.oneCell' = true)
    (B : Nat) (v : Value) (l : List α) (hs : a.eval s = v) (hown : OwnR e k enc B w v l) (y : α) (ad : Addr) (c : Nat) (hx : a.eval x = .slice (some ad) 1 c)
    (hnews : ∀ j u, (enc y)[j]? = some u → w.cell? (ad.add j) = some u) (hlen : l.length ≤ 1000000) (hb : B ≤ w.heap.size)
    (h : ∀ v' w', OwnR e k enc B w' v' (l ++ [y]) → Below B w w' → (∀ b, b < w.heap.size → some b ≠ v.ownBlock → w'.heap[b]? = w.heap[b]?) → (v'.ownBlock = v.ownBlock ∨ ∀ g, v'.ownBlock = some g → w.heap.size ≤ g) → wpList Try.prog ops Q rest (a.put o.dst v') w') :
    wpList Try.prog ops Q (o :: rest) a w := by
  obtain ⟨i0, hi, hz0, hz1, hz2⟩ := info_parts hinfo
  have hby2 : (l.length + 1) * bytes ≤ 140737488355328 := by
    have := Nat.mul_le_mul (show l.length + 1 ≤ 1000001 by omega) hby
    omega
  have hnl : (enc y).length = 1 * k := by rw [hk, Nat.one_mul]
  have happ : (l ++ [y]).flatMap enc = l.flatMap enc ++ enc y := by simp
  have hlt := World.ownsRow.lt hown
  rcases hown.2 with ⟨rfl, hn⟩ | ⟨g, cap, cur, rfl, hbg, hg, hnc, hcm, hcs, htake⟩
  · have hl : l = [] := List.eq_nil_of_length_eq_zero hn
    subst hl
    refine wpList_append_grows w hgd s x t ho e i0 z k bytes ht hi hz0 hz1 hz2 hz hk0 none 0 0 [] hs (fun _ => ⟨rfl, rfl⟩) (by simp) (fun b hb => by simp at hb) ad 1 c (enc y) hx hnl hnews (h1 y) (by omega) (by unfold maxLen; omega) (by simpa using hby2) fun v' w' r1 r2 => ?_
    have r3 : OwnR e k enc w.heap.size w' v' ([] ++ [y]) := by unfold OwnR; rw [happ]; exact r1
    exact h v' w' (r3.base hb) ((Below.refl _ _).grown r2 hb (by simp)) (fun b hb _ => r2.block b hb (by simp)) (.inr fun g hg => (World.ownsRow.lt r3 g hg).1)
  · by_cases hroom : l.length + 1 ≤ cap
    · refine wpList_append_fits w hgd s x t ho B e i0 k ht hi hz1 g l.length cap (l.flatMap enc) hs hown ad 1 c (enc y) hx hnl hnews (h1 y) hroom fun w' r1 r2 => ?_
      refine h _ w' ?_ ((Below.refl _ _).grown r2 hb fun k hk => by simp at hk; subst hk; exact hbg) (fun b hb hne => r2.block b hb hne) (.inl rfl)
      unfold OwnR; rw [happ, List.length_append]; exact r1
    · have holds : ∀ b, some (⟨g, 0, none⟩ : Addr) = some b → ∀ j u, (l.flatMap enc)[j]? = some u → w.cell? (b.add j) = some u := fun b hb => by
        simp only [Option.some.injEq] at hb
        subst hb
        exact World.ownsRow.cells hown (g := g) rfl
      refine wpList_append_grows w hgd s x t ho e i0 z k bytes ht hi hz0 hz1 hz2 hz hk0 (some ⟨g, 0, none⟩) l.length cap (l.flatMap enc) hs (fun h => by simp at h) hown.1 holds ad 1 c (enc y) hx hnl hnews (h1 y) (by omega) (by unfold maxLen; omega) hby2 fun v' w' r1 r2 => ?_
      have r3 : OwnR e k enc w.heap.size w' v' (l ++ [y]) := by unfold OwnR; rw [happ, List.length_append]; exact r1
      exact h v' w' (r3.base hb) ((Below.refl _ _).grown r2 hb (by simp)) (fun b hb _ => r2.block b hb (by simp)) (.inr fun g hg => (World.ownsRow.lt r3 g hg).1)
end
/-- The cells of a new block. -/
theorem newcell_at (w : World) (C : Array Value) (t : TypeId) (n : Nat) (cs : List Value) (hC : C = cs.toArray) {j : Nat} {u : Value} (hj : cs[j]? = some u) (hn : n = w.heap.size := by simp) : (w.alloc (.cells C t)).cell? ((⟨n, 0, none⟩ : Addr).add j) = some u := by
  rw [hn, Addr.add_lit, Nat.zero_add, World.cell?_alloc_mark, hC]
  simpa using hj
end Go.Proofs.Ytijjbfdbhfjfmaa
