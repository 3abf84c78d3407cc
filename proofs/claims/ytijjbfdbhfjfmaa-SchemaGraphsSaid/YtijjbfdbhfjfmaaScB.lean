/- Boxes of the call's own; what a call leaves that turns one block. No condition. -/
import Derived.Test.YtijjbfdbhfjfmaaTyM
import Derived.Laws.OwnMore
namespace Go.Proofs.Ytijjbfdbhfjfmaa
open Go.RowKit
/-- All but one block is as it was. -/
def KeptBut (w w' : World) (r : Option Nat) : Prop := w'.os = w.os ∧ w'.output = w.output ∧ w.heap.size ≤ w'.heap.size ∧ ∀ b, b < w.heap.size → some b ≠ r → w'.heap[b]? = w.heap[b]?
theorem KeptBut.refl (w : World) (r : Option Nat) : KeptBut w w r := ⟨rfl, rfl, Nat.le_refl _, fun _ _ _ => rfl⟩
theorem KeptBut.trans {a b c : World} {r : Option Nat} (h : KeptBut a b r) (k : KeptBut b c r) : KeptBut a c r :=
  ⟨k.1.trans h.1, k.2.1.trans h.2.1, Nat.le_trans h.2.2.1 k.2.2.1, fun i hi hr => (k.2.2.2 i (Nat.lt_of_lt_of_le hi h.2.2.1) hr).trans (h.2.2.2 i hi hr)⟩
theorem KeptBut.of_low {a b : World} {r : Option Nat} (h : Low a b) : KeptBut a b r := ⟨h.1, h.2.1, h.2.2.1, fun i hi _ => h.2.2.2 i hi⟩
theorem Low.kept {a b c : World} {r : Option Nat} (h : Low a b) (k : KeptBut b c r) (hr : ∀ g, r = some g → a.heap.size ≤ g) : Low a c :=
  ⟨k.1.trans h.1, k.2.1.trans h.2.1, Nat.le_trans h.2.2.1 k.2.2.1, fun i hi => (k.2.2.2 i (Nat.lt_of_lt_of_le hi h.2.2.1) fun e => by have := hr i e.symm; omega).trans (h.2.2.2 i hi)⟩
theorem kept_setCell (w : World) (g o : Nat) (v : Value) : KeptBut w (w.setCell ⟨g, o, none⟩ v) (some g) :=
  ⟨rfl, rfl, by simp, fun b _ hb => Below.heap_setCell w ⟨g, o, none⟩ v b fun e => hb (by rw [e])⟩
theorem low_all {w a b : World} {n : Nat} (h : Low w a) (hn : w.heap.size ≤ n) (k : KeptBut a b (some n)) : Low w b := h.kept k fun g hg => by simp at hg; omega
/-- A box of the call's own: its cells, and that they may be written. -/
structure BoxAt (w : World) (n : Nat) (cs : List Value) : Prop where
  cells : CellsAt w n 0 cs
  open' : ∀ o, w.frozen? ⟨n, o, none⟩ = false
  lt : n < w.heap.size
theorem BoxAt.kept {w w' : World} {n : Nat} {cs : List Value} {x : Option Nat} (h : BoxAt w n cs) (k : KeptBut w w' x) (hx : some n ≠ x) : BoxAt w' n cs where
  cells := fun j v hj => by
    have := h.cells j v hj
    rw [World.cell?_of_block (w := w) (w' := w') (a := ⟨n, 0 + j, none⟩) (k.2.2.2 n h.lt hx)]
    exact this
  open' := fun o => by
    rw [World.frozen?_of_block (w := w) (w' := w') (a := ⟨n, o, none⟩) (k.2.2.2 n h.lt hx)]
    exact h.open' o
  lt := Nat.lt_of_lt_of_le h.lt k.2.2.1
theorem BoxAt.low {w w' : World} {n : Nat} {cs : List Value} (h : BoxAt w n cs) (k : Low w w') : BoxAt w' n cs := h.kept (KeptBut.of_low (r := none) k) (by simp)
theorem BoxAt.at {w : World} {n : Nat} {cs : List Value} (h : BoxAt w n cs) (j : Nat) (v : Value) (hj : cs[j]? = some v) : w.cell? ⟨n, j, none⟩ = some v := by
  have := h.cells j v hj
  rwa [Nat.zero_add] at this
theorem BoxAt.made {w W : World} {n : Nat} {cs : List Value} {C : Array Value} {t : TypeId} (h : W = w.alloc (.cells C t)) (hn : w.heap.size = n) (hC : C = cs.toArray) : BoxAt W n cs := by
  subst hn
  subst h
  refine ⟨fun j v hv => ?_, fun o => ?_, by simp⟩
  · rw [Nat.zero_add, World.cell?_alloc_mark, hC]; simpa using hv
  · simp [go_sem]
theorem BoxAt.set {w : World} {n : Nat} {cs : List Value} (h : BoxAt w n cs) (j : Nat) (v : Value) : BoxAt (w.setCell ⟨n, j, none⟩ v) n (cs.set j v) where
  cells := fun k u hk => by
    rw [Nat.zero_add]
    have hlt : k < cs.length := by have := (List.getElem?_eq_some_iff.1 hk).1; rwa [List.length_set] at this
    by_cases e : k = j
    · subst e
      rw [List.getElem?_set_self hlt] at hk
      simp at hk
      subst hk
      have h0 := h.at k _ (List.getElem?_eq_getElem hlt)
      exact World.cell?_setCell_same' _ _ _ (by rw [h0]; rfl)
    · rw [List.getElem?_set_ne (Ne.symm e)] at hk
      rw [World.cell?_setCell_other _ _ _ _ (by intro h; injection h with _ h; exact e h.symm)]
      exact h.at k u hk
  open' := fun o => by
    rw [World.frozen?_setCell]
    exact h.open' o
  lt := by
    have := h.lt
    have hs : (w.setCell ⟨n, j, none⟩ v).heap.size = w.heap.size := by simp
    rw [hs]; exact this
theorem BoxAt.at4 {w : World} {n : Nat} {c0 c1 c2 c3 : Value} (h : BoxAt w n [c0, c1, c2, c3]) :
    w.cell? ⟨n, 0, none⟩ = some c0 ∧ w.cell? ⟨n, 1, none⟩ = some c1 ∧ w.cell? ⟨n, 2, none⟩ = some c2 ∧ w.cell? ⟨n, 3, none⟩ = some c3 := ⟨h.at 0 _ rfl, h.at 1 _ rfl, h.at 2 _ rfl, h.at 3 _ rfl⟩
theorem BoxAt.op4 {w : World} {n : Nat} {cs : List Value} (h : BoxAt w n cs) :
    w.frozen? ⟨n, 0, none⟩ = false ∧ w.frozen? ⟨n, 1, none⟩ = false ∧ w.frozen? ⟨n, 2, none⟩ = false ∧ w.frozen? ⟨n, 3, none⟩ = false := ⟨h.open' 0, h.open' 1, h.open' 2, h.open' 3⟩
def set4 (w : World) (n o : Nat) (c0 c1 c2 c3 : Value) : World := (((w.setCell ⟨n, o, none⟩ c0).setCell ⟨n, o + 1, none⟩ c1).setCell ⟨n, o + 2, none⟩ c2).setCell ⟨n, o + 3, none⟩ c3
theorem kept4 (w : World) (n : Nat) (a b c d : Nat) (c0 c1 c2 c3 : Value) : KeptBut w ((((w.setCell ⟨n, a, none⟩ c0).setCell ⟨n, b, none⟩ c1).setCell ⟨n, c, none⟩ c2).setCell ⟨n, d, none⟩ c3) (some n) :=
  (kept_setCell _ _ _ _).trans ((kept_setCell _ _ _ _).trans ((kept_setCell _ _ _ _).trans (kept_setCell _ _ _ _)))
end Go.Proofs.Ytijjbfdbhfjfmaa
