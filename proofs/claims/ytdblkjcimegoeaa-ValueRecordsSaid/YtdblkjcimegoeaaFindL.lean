/- Cells of a box of the call's own; how far a set has been looked through. No condition. -/
import Derived.Test.YtdblkjcimegoeaaOpenV
namespace Go.Proofs.Ytdblkjcimegoeaa
open Go.RowKit Go.Sort
theorem low_box {w wr : World} {c0 c1 c2 c3 c4 c5 c6 c7 : Value} {t : TypeId} (h : Low (w.alloc (.cells #[c0, c1, c2, c3, c4, c5, c6, c7] t)) wr) :
    wr.cell? ⟨w.heap.size, 0, none⟩ = some c0 ∧ wr.cell? ⟨w.heap.size, 1, none⟩ = some c1 ∧ wr.cell? ⟨w.heap.size, 2, none⟩ = some c2 ∧ wr.cell? ⟨w.heap.size, 3, none⟩ = some c3 ∧
    wr.cell? ⟨w.heap.size, 4, none⟩ = some c4 ∧ wr.cell? ⟨w.heap.size, 5, none⟩ = some c5 ∧ wr.cell? ⟨w.heap.size, 6, none⟩ = some c6 ∧ wr.cell? ⟨w.heap.size, 7, none⟩ = some c7 := by
  obtain ⟨a0, a1, a2, a3, a4, a5, a6, a7⟩ := gr_box (Gr.refl (w.alloc (.cells #[c0, c1, c2, c3, c4, c5, c6, c7] t)))
  exact ⟨h.keep a0, h.keep a1, h.keep a2, h.keep a3, h.keep a4, h.keep a5, h.keep a6, h.keep a7⟩
theorem low_box2 {w wr : World} {C : Obj} {c0 c1 c2 c3 c4 c5 c6 c7 : Value} {t : TypeId} (h : Low ((w.alloc C).alloc (.cells #[c0, c1, c2, c3, c4, c5, c6, c7] t)) wr) :
    wr.cell? ⟨w.heap.size + 1, 0, none⟩ = some c0 ∧ wr.cell? ⟨w.heap.size + 1, 1, none⟩ = some c1 ∧ wr.cell? ⟨w.heap.size + 1, 2, none⟩ = some c2 ∧ wr.cell? ⟨w.heap.size + 1, 3, none⟩ = some c3 ∧
    wr.cell? ⟨w.heap.size + 1, 4, none⟩ = some c4 ∧ wr.cell? ⟨w.heap.size + 1, 5, none⟩ = some c5 ∧ wr.cell? ⟨w.heap.size + 1, 6, none⟩ = some c6 ∧ wr.cell? ⟨w.heap.size + 1, 7, none⟩ = some c7 := by
  have h8 := low_box h
  rwa [show (w.alloc C).heap.size = w.heap.size + 1 by simp] at h8
theorem eqB_refl (a : V) : eqB a a = true := by unfold eqB; simp
theorem low_boxA {w wr : World} {c0 c1 c2 c3 c4 c5 c6 c7 : Value} {t : TypeId} (h : Low (w.alloc (.cells #[c0, c1, c2, c3, c4, c5, c6, c7] t)) wr) :
    (∀ X, (wr.alloc X).cell? ⟨w.heap.size, 0, none⟩ = some c0) ∧ (∀ X, (wr.alloc X).cell? ⟨w.heap.size, 1, none⟩ = some c1) ∧ (∀ X, (wr.alloc X).cell? ⟨w.heap.size, 2, none⟩ = some c2) ∧ (∀ X, (wr.alloc X).cell? ⟨w.heap.size, 3, none⟩ = some c3) ∧
    (∀ X, (wr.alloc X).cell? ⟨w.heap.size, 4, none⟩ = some c4) ∧ (∀ X, (wr.alloc X).cell? ⟨w.heap.size, 5, none⟩ = some c5) ∧ (∀ X, (wr.alloc X).cell? ⟨w.heap.size, 6, none⟩ = some c6) ∧ (∀ X, (wr.alloc X).cell? ⟨w.heap.size, 7, none⟩ = some c7) := by
  have k := fun X => low_box (h.alloc X)
  exact ⟨fun X => (k X).1, fun X => (k X).2.1, fun X => (k X).2.2.1, fun X => (k X).2.2.2.1, fun X => (k X).2.2.2.2.1, fun X => (k X).2.2.2.2.2.1, fun X => (k X).2.2.2.2.2.2.1, fun X => (k X).2.2.2.2.2.2.2⟩
/-- How far a set has been looked through. -/
def heldTo (v x : V) (i : Nat) : Bool := v.h.k == 5 && (v.l.take i).any fun y => ord y x == 0
theorem heldTo_all (v x : V) : heldTo v x v.l.length = holdsB v x := by unfold heldTo holdsB; rw [List.take_length]
theorem heldTo_step {v x : V} {i : Nat} (h : i < v.l.length) : heldTo v x (i + 1) = (heldTo v x i || (v.h.k == 5 && ord v.l[i] x == 0)) := by
  unfold heldTo
  rw [take_snoc h, List.any_append]
  cases (v.h.k == 5) <;> simp
end Go.Proofs.Ytdblkjcimegoeaa
