/- The document's Read: the number of a text's digits, or 10, or 14. No condition but the length that any string has. -/
import Derived.Test.YtdblkjcimegoeaaDoorSumM
import Derived.Test.YtdblkjcimegoeaaDoorReadAll
import Derived.Deep.DeepCutAuto
import Derived.LoopTactic
namespace Go.Proofs.YtdblkjcimegoeaaDoor
open Go.RowKit
attribute [local go_sem] alloc_drewN setCell_drewN
def GW2 (w w' : World) : Prop := Grown w w'
/-- What is gathered lies in block g, as the size x. -/
structure ReadAt (w wr : World) (g x : Nat) : Prop where
  x3 : wr.cell? ⟨g, 0, none⟩ = some (.int .u64 (d3 x : Int))
  x2 : wr.cell? ⟨g, 1, none⟩ = some (.int .u64 (d2 x : Int))
  x1 : wr.cell? ⟨g, 2, none⟩ = some (.int .u64 (d1 x : Int))
  x0 : wr.cell? ⟨g, 3, none⟩ = some (.int .u64 (d0 x : Int))
  f0 : wr.frozen? ⟨g, 0, none⟩ = false
  f1 : wr.frozen? ⟨g, 1, none⟩ = false
  f2 : wr.frozen? ⟨g, 2, none⟩ = false
  f3 : wr.frozen? ⟨g, 3, none⟩ = false
  hg : w.heap.size ≤ g
  hs : g < wr.heap.size
  grown : GW2 w wr
/-- And a second one in block h, as the size y. -/
structure TensAt (w wr : World) (g x h y : Nat) : Prop where
  at0 : ReadAt w wr g x
  y3 : wr.cell? ⟨h, 0, none⟩ = some (.int .u64 (d3 y : Int))
  y2 : wr.cell? ⟨h, 1, none⟩ = some (.int .u64 (d2 y : Int))
  y1 : wr.cell? ⟨h, 2, none⟩ = some (.int .u64 (d1 y : Int))
  y0 : wr.cell? ⟨h, 3, none⟩ = some (.int .u64 (d0 y : Int))
  q0 : wr.frozen? ⟨h, 0, none⟩ = false
  q1 : wr.frozen? ⟨h, 1, none⟩ = false
  q2 : wr.frozen? ⟨h, 2, none⟩ = false
  q3 : wr.frozen? ⟨h, 3, none⟩ = false
  hh : g < h
  hs : h < wr.heap.size
theorem cset_same {w : World} {a : Addr} {v u : Value} (h : w.cell? a = some u) : (w.setCell a v).cell? a = some v := World.cell?_setCell_same' w a v (by rw [h]; rfl)
theorem cset_next {w : World} {b o o' : Nat} {v u : Value} (h : o' ≠ o) (hv : w.cell? ⟨b, o, none⟩ = some u) : (w.setCell ⟨b, o', none⟩ v).cell? ⟨b, o, none⟩ = some u := by
  rw [World.cell?_setCell_other]
  · exact hv
  · intro e
    exact h (by injection e)
theorem put4_at {W : World} {h : Nat} {v3 v2 v1 v0 : Value} (y : Nat) (c3 : W.cell? ⟨h, 0, none⟩ = some v3) (c2 : W.cell? ⟨h, 1, none⟩ = some v2) (c1 : W.cell? ⟨h, 2, none⟩ = some v1) (c0 : W.cell? ⟨h, 3, none⟩ = some v0) :
    ((((W.setCell ⟨h, 0, none⟩ (.int .u64 (d3 y : Int))).setCell ⟨h, 1, none⟩ (.int .u64 (d2 y : Int))).setCell ⟨h, 2, none⟩ (.int .u64 (d1 y : Int))).setCell ⟨h, 3, none⟩ (.int .u64 (d0 y : Int))).cell? ⟨h, 0, none⟩ = some (.int .u64 (d3 y : Int)) ∧ ((((W.setCell ⟨h, 0, none⟩ (.int .u64 (d3 y : Int))).setCell ⟨h, 1, none⟩ (.int .u64 (d2 y : Int))).setCell ⟨h, 2, none⟩ (.int .u64 (d1 y : Int))).setCell ⟨h, 3, none⟩ (.int .u64 (d0 y : Int))).cell? ⟨h, 1, none⟩ = some (.int .u64 (d2 y : Int)) ∧ ((((W.setCell ⟨h, 0, none⟩ (.int .u64 (d3 y : Int))).setCell ⟨h, 1, none⟩ (.int .u64 (d2 y : Int))).setCell ⟨h, 2, none⟩ (.int .u64 (d1 y : Int))).setCell ⟨h, 3, none⟩ (.int .u64 (d0 y : Int))).cell? ⟨h, 2, none⟩ = some (.int .u64 (d1 y : Int)) ∧ ((((W.setCell ⟨h, 0, none⟩ (.int .u64 (d3 y : Int))).setCell ⟨h, 1, none⟩ (.int .u64 (d2 y : Int))).setCell ⟨h, 2, none⟩ (.int .u64 (d1 y : Int))).setCell ⟨h, 3, none⟩ (.int .u64 (d0 y : Int))).cell? ⟨h, 3, none⟩ = some (.int .u64 (d0 y : Int)) :=
  ⟨cset_next (by decide) (cset_next (by decide) (cset_next (by decide) (cset_same c3))),
   cset_next (by decide) (cset_next (by decide) (cset_same (cset_next (by decide) c2))),
   cset_next (by decide) (cset_same (cset_next (by decide) (cset_next (by decide) c1))),
   cset_same (cset_next (by decide) (cset_next (by decide) (cset_next (by decide) c0)))⟩
theorem ReadAt.grow {w W w1 : World} {g x : Nat} (T : ReadAt w W g x) (h : Grown W w1) : ReadAt w w1 g x :=
  { x3 := gkeep h T.x3 T.hs, x2 := gkeep h T.x2 T.hs, x1 := gkeep h T.x1 T.hs, x0 := gkeep h T.x0 T.hs
    f0 := (h.2.1 _).trans T.f0, f1 := (h.2.1 _).trans T.f1, f2 := (h.2.1 _).trans T.f2, f3 := (h.2.1 _).trans T.f3
    hg := T.hg, hs := Nat.lt_of_lt_of_le T.hs h.2.2, grown := grown_trans T.grown h }
theorem ReadAt.put {w W : World} {g x : Nat} (T : ReadAt w W g x) (y : Nat) : ReadAt w ((((W.setCell ⟨g, 0, none⟩ (.int .u64 (d3 y : Int))).setCell ⟨g, 1, none⟩ (.int .u64 (d2 y : Int))).setCell ⟨g, 2, none⟩ (.int .u64 (d1 y : Int))).setCell ⟨g, 3, none⟩ (.int .u64 (d0 y : Int))) g y := by
  obtain ⟨c3, c2, c1, c0⟩ := put4_at y T.x3 T.x2 T.x1 T.x0
  exact { x3 := c3, x2 := c2, x1 := c1, x0 := c0
          f0 := by simp [T.f0], f1 := by simp [T.f1], f2 := by simp [T.f2], f3 := by simp [T.f3]
          hg := T.hg, hs := by simpa [World.setCell] using T.hs
          grown := Grown.setCell (Grown.setCell (Grown.setCell (Grown.setCell T.grown T.hg _) T.hg _) T.hg _) T.hg _ }
theorem ReadAt.far {w W : World} {g x h : Nat} (T : ReadAt w W g x) (hh : g < h) (y : Nat) : ReadAt w ((((W.setCell ⟨h, 0, none⟩ (.int .u64 (d3 y : Int))).setCell ⟨h, 1, none⟩ (.int .u64 (d2 y : Int))).setCell ⟨h, 2, none⟩ (.int .u64 (d1 y : Int))).setCell ⟨h, 3, none⟩ (.int .u64 (d0 y : Int))) g x := by
  have n : h ≠ g := by omega
  have hw : w.heap.size ≤ h := Nat.le_trans T.hg (Nat.le_of_lt hh)
  exact { x3 := skeep n (skeep n (skeep n (skeep n T.x3))), x2 := skeep n (skeep n (skeep n (skeep n T.x2)))
          x1 := skeep n (skeep n (skeep n (skeep n T.x1))), x0 := skeep n (skeep n (skeep n (skeep n T.x0)))
          f0 := by simp [T.f0], f1 := by simp [T.f1], f2 := by simp [T.f2], f3 := by simp [T.f3]
          hg := T.hg, hs := by simpa [World.setCell] using T.hs
          grown := Grown.setCell (Grown.setCell (Grown.setCell (Grown.setCell T.grown hw _) hw _) hw _) hw _ }
theorem TensAt.grow {w W w1 : World} {g x h y : Nat} (T : TensAt w W g x h y) (k : Grown W w1) : TensAt w w1 g x h y :=
  { at0 := T.at0.grow k
    y3 := gkeep k T.y3 T.hs, y2 := gkeep k T.y2 T.hs, y1 := gkeep k T.y1 T.hs, y0 := gkeep k T.y0 T.hs
    q0 := (k.2.1 _).trans T.q0, q1 := (k.2.1 _).trans T.q1, q2 := (k.2.1 _).trans T.q2, q3 := (k.2.1 _).trans T.q3
    hh := T.hh, hs := Nat.lt_of_lt_of_le T.hs k.2.2 }
theorem TensAt.put {w W : World} {g x h y : Nat} (T : TensAt w W g x h y) (z : Nat) : TensAt w ((((W.setCell ⟨h, 0, none⟩ (.int .u64 (d3 z : Int))).setCell ⟨h, 1, none⟩ (.int .u64 (d2 z : Int))).setCell ⟨h, 2, none⟩ (.int .u64 (d1 z : Int))).setCell ⟨h, 3, none⟩ (.int .u64 (d0 z : Int))) g x h z := by
  obtain ⟨c3, c2, c1, c0⟩ := put4_at z T.y3 T.y2 T.y1 T.y0
  exact { at0 := T.at0.far T.hh z
          y3 := c3, y2 := c2, y1 := c1, y0 := c0
          q0 := by simp [T.q0], q1 := by simp [T.q1], q2 := by simp [T.q2], q3 := by simp [T.q3]
          hh := T.hh, hs := by simpa [World.setCell] using T.hs }
theorem plus_dig (m c : Nat) (hc : c ≤ 9) (v : Int) (hv : v = (c : Int)) (w : World) :
    Calls Tryd.prog 41 #[.agg #[.int .u64 (d3 m : Int), .int .u64 (d2 m : Int), .int .u64 (d1 m : Int), .int .u64 (d0 m : Int)], .agg #[.int .u64 0, .int .u64 0, .int .u64 0, .int .u64 v]] w fun e w' => e = .returned (.agg #[.int .u64 (d3 (m + c) : Int), .int .u64 (d2 (m + c) : Int), .int .u64 (d1 (m + c) : Int), .int .u64 (d0 (m + c) : Int)]) ∧ Grown w w' := by
  subst hv
  have h := plus_e m c w
  have e3 : d3 c = 0 := by unfold d3; omega
  have e2 : d2 c = 0 := by unfold d2; omega
  have e1 : d1 c = 0 := by unfold d1; omega
  have e0 : d0 c = c := by unfold d0; omega
  rw [e3, e2, e1, e0] at h
  exact h
end Go.Proofs.YtdblkjcimegoeaaDoor
