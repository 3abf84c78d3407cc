/- The box in which the reference lays its answer down. No condition. -/
import Derived.Test.YtdblkjcimegoeaaRCanP
namespace Go.Proofs.Ytdblkjcimegoeaa
open Go.RowKit Go.Sort
def OutAt (w : World) (r : Nat) (h : Hd) (a b : Value) : Prop := (r < w.heap.size ∧ CellsAt w r 0 (hdc h a b)) ∧ ∀ o, w.frozen? ⟨r, o, none⟩ = false
theorem OutAt.kept {w w' : World} {r : Nat} {h0 : Hd} {a b : Value} {x : Option Nat} (h : OutAt w r h0 a b) (k : KeptBut w w' x) (hr : some r ≠ x) : OutAt w' r h0 a b :=
  ⟨⟨Nat.lt_of_lt_of_le h.1.1 k.2.2.1, fun j v hv => k.cellAt (h.1.2 j v hv) hr⟩, fun o => k.frozenAt (h.2 o) h.1.1 hr⟩
theorem OutAt.low {w w' : World} {r : Nat} {h0 : Hd} {a b : Value} (h : OutAt w r h0 a b) (k : Low w w') : OutAt w' r h0 a b := h.kept (KeptBut.of_low (r := none) k) (by simp)
theorem out_new (w : World) (h : Hd) (a b : Value) (t : TypeId) : OutAt (w.alloc (.cells #[.int .i64 h.k, .bool h.b, .int .i64 h.n, .string h.s, .string h.t, .string h.i, a, b] t)) w.heap.size h a b := by
  refine ⟨⟨by simp, fun j v hv => ?_⟩, fun o => ?_⟩
  · rw [Nat.zero_add, World.cell?_alloc_mark]
    simpa [hdc] using hv
  · simp [go_sem]
theorem OutAt.facts {w : World} {r : Nat} {h0 : Hd} {a b : Value} (h : OutAt w r h0 a b) : (w.cell? ⟨r, 0, none⟩ = some (.int .i64 h0.k) ∧ w.cell? ⟨r, 1, none⟩ = some (.bool h0.b) ∧ w.cell? ⟨r, 2, none⟩ = some (.int .i64 h0.n) ∧ w.cell? ⟨r, 3, none⟩ = some (.string h0.s) ∧
    w.cell? ⟨r, 4, none⟩ = some (.string h0.t) ∧ w.cell? ⟨r, 5, none⟩ = some (.string h0.i) ∧ w.cell? ⟨r, 6, none⟩ = some a ∧ w.cell? ⟨r, 7, none⟩ = some b) ∧ w.frozen? ⟨r, 6, none⟩ = false ∧ w.frozen? ⟨r, 7, none⟩ = false := by
  have h8 := cells8 h.1.2
  simp only [Nat.zero_add] at h8
  exact ⟨h8, h.2 6, h.2 7⟩
theorem OutAt.names {w : World} {r : Nat} {h0 : Hd} {a b : Value} (h : OutAt w r h0 a b) (c : Value) : OutAt (w.setCell ⟨r, 7, none⟩ c) r h0 a c := by
  refine ⟨⟨by simpa using h.1.1, fun j v hv => ?_⟩, fun o => by rw [World.frozen?_setCell]; exact h.2 o⟩
  have hj : j < 8 := by have := (List.getElem?_eq_some_iff.1 hv).1; simpa [hdc] using this
  rw [Nat.zero_add]
  by_cases h7 : j = 7
  · subst h7
    have : v = c := by simpa [hdc] using hv.symm
    subst this
    have hb : (w.cell? ⟨r, 7, none⟩).isSome = true := by rw [h.facts.1.2.2.2.2.2.2.2]; rfl
    exact World.cell?_setCell_same' _ _ _ hb
  · rw [World.cell?_setCell_other _ _ _ _ (by first | (simp; done) | (simp; omega))]
    have := h.1.2 j v (by
      match j, hj, h7 with
      | 0, _, _ => exact hv
      | 1, _, _ => exact hv
      | 2, _, _ => exact hv
      | 3, _, _ => exact hv
      | 4, _, _ => exact hv
      | 5, _, _ => exact hv
      | 6, _, _ => exact hv
      | 7, _, h => exact absurd rfl h)
    rwa [Nat.zero_add] at this
theorem OutAt.items {w : World} {r : Nat} {h0 : Hd} {a b : Value} (h : OutAt w r h0 a b) (c : Value) : OutAt (w.setCell ⟨r, 6, none⟩ c) r h0 c b := by
  refine ⟨⟨by simpa using h.1.1, fun j v hv => ?_⟩, fun o => by rw [World.frozen?_setCell]; exact h.2 o⟩
  have hj : j < 8 := by have := (List.getElem?_eq_some_iff.1 hv).1; simpa [hdc] using this
  rw [Nat.zero_add]
  by_cases h7 : j = 6
  · subst h7
    have : v = c := by simpa [hdc] using hv.symm
    subst this
    have hb : (w.cell? ⟨r, 6, none⟩).isSome = true := by rw [h.facts.1.2.2.2.2.2.2.1]; rfl
    exact World.cell?_setCell_same' _ _ _ hb
  · rw [World.cell?_setCell_other _ _ _ _ (by first | (simp; done) | (simp; omega))]
    have := h.1.2 j v (by
      match j, hj, h7 with
      | 0, _, _ => exact hv
      | 1, _, _ => exact hv
      | 2, _, _ => exact hv
      | 3, _, _ => exact hv
      | 4, _, _ => exact hv
      | 5, _, _ => exact hv
      | 6, _, h => exact absurd rfl h
      | 7, _, _ => exact hv)
    rwa [Nat.zero_add] at this
/-- Where the reference stands: its argument's box, its answer's two boxes, the items as they must be, what is laid down so far. -/
structure OutSt (w W : World) (v : V) (vi vn lv : Value) (ps : List El) (k : Int) (a b : Value) (xs : List El) (ys : List ByteArray) : Prop where
  box : CellsAt W w.heap.size 0 (hdc v.h vi vn)
  res : Res W (w.heap.size + 1)
  out : OutAt W (w.heap.size + 2) { hd0 with k := k } a b
  lrow : OwnV (w.heap.size + 3) W lv ps
  lels : ∀ p ∈ ps, ElOk (fun c => w.heap.size + 3 ≤ c) W p
  its : OwnV (w.heap.size + 3) W a xs
  nms : OwnR 9 1 encN (w.heap.size + 3) W b ys
  sub : ∀ p ∈ xs, p ∈ ps
  low : Low w W
theorem OutSt.grow {w W W' : World} {v : V} {vi vn lv : Value} {ps : List El} {k : Int} {a b : Value} {xs : List El} {ys : List ByteArray} (h : OutSt w W v vi vn lv ps k a b xs ys) (l : Low W W') : OutSt w W' v vi vn lv ps k a b xs ys :=
  ⟨l.cells h.box, h.res.low l, h.out.low l, OwnR.low h.lrow l, fun p hp => Rep.low (h.lels p hp) l, OwnR.low h.its l, OwnR.low h.nms l, h.sub, h.low.trans l⟩
theorem OutSt.put {w W W' : World} {v : V} {vi vn lv : Value} {ps : List El} {k : Int} {a b a' b' : Value} {xs xs' : List El} {ys ys' : List ByteArray} (h : OutSt w W v vi vn lv ps k a b xs ys) (K : KeptBut W W' (some (w.heap.size + 2)))
    (ho : OutAt W' (w.heap.size + 2) { hd0 with k := k } a' b') (hi : OwnV (w.heap.size + 3) W a' xs') (hn : OwnR 9 1 encN (w.heap.size + 3) W b' ys') (hs : ∀ p ∈ xs', p ∈ ps) : OutSt w W' v vi vn lv ps k a' b' xs' ys' := by
  have own : ∀ {α : Type} {e : TypeId} {q : Nat} {enc : α → List Value} {u : Value} {l : List α}, OwnR e q enc (w.heap.size + 3) W u l → OwnR e q enc (w.heap.size + 3) W' u l := fun ho => ho.to fun g hg => K.2.2.2 g (World.ownsRow.lt ho g hg).2 (by have := (World.ownsRow.lt ho g hg).1; simp; omega)
  refine ⟨fun j u hu => K.cellAt (h.box j u hu) (by simp), h.res.kept K (by simp), ho, own h.lrow, fun p hp => Rep.to (fun c hc hb => ⟨hc, K.2.2.2 c hb (by simp; omega)⟩) _ (h.lels p hp), own hi, own hn, hs, h.low.kept K fun g hg => by simp at hg; omega⟩
theorem OutSt.putItems {w W : World} {v : V} {vi vn lv : Value} {ps : List El} {k : Int} {a b a' : Value} {xs xs' : List El} {ys : List ByteArray} (h : OutSt w W v vi vn lv ps k a b xs ys) (hi : OwnV (w.heap.size + 3) W a' xs') (hs : ∀ p ∈ xs', p ∈ ps) :
    OutSt w (W.setCell ⟨w.heap.size + 2, 6, none⟩ a') v vi vn lv ps k a' b xs' ys := h.put (kept_setCell _ _ _ _) (h.out.items a') hi h.nms hs
theorem OutSt.putNames {w W : World} {v : V} {vi vn lv : Value} {ps : List El} {k : Int} {a b b' : Value} {xs : List El} {ys ys' : List ByteArray} (h : OutSt w W v vi vn lv ps k a b xs ys) (hn : OwnR 9 1 encN (w.heap.size + 3) W b' ys') :
    OutSt w (W.setCell ⟨w.heap.size + 2, 7, none⟩ b') v vi vn lv ps k a b' xs ys' := h.put (kept_setCell _ _ _ _) (h.out.names b') h.its hn h.sub
theorem OutSt.boxes {w W : World} {v : V} {vi vn lv : Value} {ps : List El} {k : Int} {a b : Value} {xs : List El} {ys : List ByteArray} (h : OutSt w W v vi vn lv ps k a b xs ys) :
    W.cell? ⟨w.heap.size, 0, none⟩ = some (.int .i64 v.h.k) ∧ W.cell? ⟨w.heap.size, 6, none⟩ = some vi ∧ W.cell? ⟨w.heap.size, 7, none⟩ = some vn := by
  have h8 := cells8 h.box
  simp only [Nat.zero_add] at h8
  exact ⟨h8.1, h8.2.2.2.2.2.2.1, h8.2.2.2.2.2.2.2⟩
end Go.Proofs.Ytdblkjcimegoeaa
