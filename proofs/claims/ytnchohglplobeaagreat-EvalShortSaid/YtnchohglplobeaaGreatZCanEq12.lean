/- An entity as it must be, as the program tells it. Condition: its rows are short. -/
import Derived.Test.YtnchohglplobeaaGreatZCanonq12
import Derived.Deep.DeepCutAuto
set_option linter.unusedVariables false
set_option linter.unusedSimpArgs false
set_option linter.unnecessarySimpa false
namespace Go.Proofs.YtnchohglplobeaaGreat
open Go.RowKit Go.Sort Go.Maps
theorem cells_new {w wr : World} {cs : List Value} {C : Array Value} {t : TypeId} (n : Nat) (h : Low (w.alloc (.cells C t)) wr) (hC : C = cs.toArray) (hn : w.heap.size = n) : CellsAtv wr n 0 cs ∧ (∀ o, wr.frozen? ⟨n, o, none⟩ = false) ∧ n < wr.heap.size := by
 subst hn
 have hlt : w.heap.size < (w.alloc (.cells C t)).heap.size := by simp
 refine ⟨fun j v hj => h.keep ?_, fun o => ?_, Nat.lt_of_lt_of_le hlt h.size⟩
 ·rw [Nat.zero_add, World.cell?_alloc_mark, hC]
  simpa using hj
 ·rw [h.frozen (p := ⟨w.heap.size, o, none⟩) hlt]
  have e : (w.alloc (.cells C t)).heap[w.heap.size]? = some (.cells C t) := by
   show (w.heap.push _)[w.heap.size]? = _
   simp
  unfold World.frozen?
  rw [e]; simp
structure BoxAtv (w : World) (n : Nat) (cs : List Value) : Prop where
 cells : CellsAtv w n 0 cs
 open' : ∀ o, w.frozen? ⟨n, o, none⟩ = false
 lt : n < w.heap.size
theorem BoxAtv.new {w wr : World} {cs : List Value} {C : Array Value} {t : TypeId} (n : Nat) (h : Low (w.alloc (.cells C t)) wr) (hC : C = cs.toArray) (hn : w.heap.size = n) : BoxAtv wr n cs := by
 obtain ⟨h1, h2, h3⟩ := cells_new n h hC hn
 exact ⟨h1, h2, h3⟩
theorem BoxAtv.kept {w w' : World} {n : Nat} {cs : List Value} {x : Option Nat} (h : BoxAtv w n cs) (k : KeptButv w w' x) (hx : some n ≠ x) : BoxAtv w' n cs where
 cells := fun j v hj => by
  have := h.cells j v hj
  rw [World.cell?_of_block (w := w) (w' := w') (a := ⟨n, 0 + j, none⟩) (k.2.2.2 n h.lt hx)]
  exact this
 open' := fun o => by
  rw [World.frozen?_of_block (w := w) (w' := w') (a := ⟨n, o, none⟩) (k.2.2.2 n h.lt hx)]
  exact h.open' o
 lt := Nat.lt_of_lt_of_le h.lt k.2.2.1
theorem BoxAtv.low {w w' : World} {n : Nat} {cs : List Value} (h : BoxAtv w n cs) (k : Low w w') : BoxAtv w' n cs := h.kept (KeptButv.of_low (r := none) k) (by simp)
theorem BoxAtv.at {w : World} {n : Nat} {cs : List Value} (h : BoxAtv w n cs) (j : Nat) (v : Value) (hj : cs[j]? = some v) : w.cell? ⟨n, j, none⟩ = some v := by
 have := h.cells j v hj
 rwa [Nat.zero_add] at this
theorem BoxAtv.at2 {w : World} {n : Nat} {c0 c1 : Value} (h : BoxAtv w n [c0, c1]) : w.cell? ⟨n, 0, none⟩ = some c0 ∧ w.cell? ⟨n, 1, none⟩ = some c1 := ⟨h.at 0 _ rfl, h.at 1 _ rfl⟩
theorem BoxAtv.at8 {w : World} {n : Nat} {c0 c1 c2 c3 c4 c5 c6 c7 : Value} (h : BoxAtv w n [c0, c1, c2, c3, c4, c5, c6, c7]) :
  w.cell? ⟨n, 0, none⟩ = some c0 ∧ w.cell? ⟨n, 1, none⟩ = some c1 ∧ w.cell? ⟨n, 2, none⟩ = some c2 ∧ w.cell? ⟨n, 3, none⟩ = some c3 ∧ w.cell? ⟨n, 4, none⟩ = some c4 ∧ w.cell? ⟨n, 5, none⟩ = some c5 ∧ w.cell? ⟨n, 6, none⟩ = some c6 ∧ w.cell? ⟨n, 7, none⟩ = some c7 :=
 ⟨h.at 0 _ rfl, h.at 1 _ rfl, h.at 2 _ rfl, h.at 3 _ rfl, h.at 4 _ rfl, h.at 5 _ rfl, h.at 6 _ rfl, h.at 7 _ rfl⟩
theorem BoxAtv.at11 {w : World} {n : Nat} {c0 c1 c2 c3 c4 c5 c6 c7 c8 c9 c10 : Value} (h : BoxAtv w n [c0, c1, c2, c3, c4, c5, c6, c7, c8, c9, c10]) :
  w.cell? ⟨n, 0, none⟩ = some c0 ∧ w.cell? ⟨n, 1, none⟩ = some c1 ∧ w.cell? ⟨n, 2, none⟩ = some c2 ∧ w.cell? ⟨n, 3, none⟩ = some c3 ∧ w.cell? ⟨n, 4, none⟩ = some c4 ∧ w.cell? ⟨n, 5, none⟩ = some c5 ∧ w.cell? ⟨n, 6, none⟩ = some c6 ∧ w.cell? ⟨n, 7, none⟩ = some c7 ∧ w.cell? ⟨n, 8, none⟩ = some c8 ∧ w.cell? ⟨n, 9, none⟩ = some c9 ∧ w.cell? ⟨n, 10, none⟩ = some c10 :=
 ⟨h.at 0 _ rfl, h.at 1 _ rfl, h.at 2 _ rfl, h.at 3 _ rfl, h.at 4 _ rfl, h.at 5 _ rfl, h.at 6 _ rfl, h.at 7 _ rfl, h.at 8 _ rfl, h.at 9 _ rfl, h.at 10 _ rfl⟩
theorem BoxAtv.op11 {w : World} {n : Nat} {cs : List Value} (h : BoxAtv w n cs) :
  w.frozen? ⟨n, 0, none⟩ = false ∧ w.frozen? ⟨n, 1, none⟩ = false ∧ w.frozen? ⟨n, 2, none⟩ = false ∧ w.frozen? ⟨n, 3, none⟩ = false ∧ w.frozen? ⟨n, 4, none⟩ = false ∧ w.frozen? ⟨n, 5, none⟩ = false ∧ w.frozen? ⟨n, 6, none⟩ = false ∧ w.frozen? ⟨n, 7, none⟩ = false ∧ w.frozen? ⟨n, 8, none⟩ = false ∧ w.frozen? ⟨n, 9, none⟩ = false ∧ w.frozen? ⟨n, 10, none⟩ = false :=
 ⟨h.open' 0, h.open' 1, h.open' 2, h.open' 3, h.open' 4, h.open' 5, h.open' 6, h.open' 7, h.open' 8, h.open' 9, h.open' 10⟩
theorem kept11 (w : World) (n : Nat) (v0 v1 v2 v3 v4 v5 v6 v7 v8 v9 v10 : Value) :
  KeptButv w (((((((((((w.setCell ⟨n, 0, none⟩ v0).setCell ⟨n, 1, none⟩ v1).setCell ⟨n, 2, none⟩ v2).setCell ⟨n, 3, none⟩ v3).setCell ⟨n, 4, none⟩ v4).setCell ⟨n, 5, none⟩ v5).setCell ⟨n, 6, none⟩ v6).setCell ⟨n, 7, none⟩ v7).setCell ⟨n, 8, none⟩ v8).setCell ⟨n, 9, none⟩ v9).setCell ⟨n, 10, none⟩ v10) (some n) :=
 (kept_setCellv _ _ _ _).trans ((kept_setCellv _ _ _ _).trans ((kept_setCellv _ _ _ _).trans ((kept_setCellv _ _ _ _).trans ((kept_setCellv _ _ _ _).trans ((kept_setCellv _ _ _ _).trans ((kept_setCellv _ _ _ _).trans ((kept_setCellv _ _ _ _).trans ((kept_setCellv _ _ _ _).trans ((kept_setCellv _ _ _ _).trans (kept_setCellv _ _ _ _))))))))))
def zE : List Value := [.string ⟨#[]⟩, .string ⟨#[]⟩, .slice none 0 0, .int .i64 0, .bool false, .int .i64 0, .string ⟨#[]⟩, .string ⟨#[]⟩, .string ⟨#[]⟩, .slice none 0 0, .slice none 0 0]
def Z0 : Ee := ⟨E0, none, 0, none, 0, none, 0⟩
theorem low_allv {w a b : World} {n : Nat} (h : Low w a) (hn : w.heap.size ≤ n) (k : KeptButv a b (some n)) : Low w b := h.kept k fun g hg => by simp at hg; omega
end Go.Proofs.YtnchohglplobeaaGreat
