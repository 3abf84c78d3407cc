/- The document's product of sizes of two digits each. Condition: sizes below 2^64. -/
import Derived.Test.YtkppjchapiidpaaShift
import Derived.Test.YtkppjchapiidpaaSumM
import Derived.Deep.DeepCutAuto
namespace Go.Proofs.Ytkppjchapiidpaa
open Go.RowKit
attribute [local go_sem] alloc_drewN setCell_drewN
/-- Nothing that was there has turned; behind a name. -/
def GW (w w' : World) : Prop := Grown w w'
/-- What is known of memory between two statements of the product: the factors' digits, what is gathered in block g, the room for the answer. -/
structure TimesAt (w wr : World) (g a1 a0 b1 b0 x : Nat) : Prop where
  fa1 : wr.cell? ⟨w.heap.size, 2, none⟩ = some (.int .u64 (a1 : Int))
  fa0 : wr.cell? ⟨w.heap.size, 3, none⟩ = some (.int .u64 (a0 : Int))
  fb1 : wr.cell? ⟨w.heap.size + 1, 2, none⟩ = some (.int .u64 (b1 : Int))
  fb0 : wr.cell? ⟨w.heap.size + 1, 3, none⟩ = some (.int .u64 (b0 : Int))
  x3 : wr.cell? ⟨g, 0, none⟩ = some (.int .u64 (d3 x : Int))
  x2 : wr.cell? ⟨g, 1, none⟩ = some (.int .u64 (d2 x : Int))
  x1 : wr.cell? ⟨g, 2, none⟩ = some (.int .u64 (d1 x : Int))
  x0 : wr.cell? ⟨g, 3, none⟩ = some (.int .u64 (d0 x : Int))
  z0 : wr.cell? ⟨w.heap.size + 1 + 1, 0, none⟩ = some (.int .u64 0)
  z1 : wr.cell? ⟨w.heap.size + 1 + 1, 1, none⟩ = some (.int .u64 0)
  z2 : wr.cell? ⟨w.heap.size + 1 + 1, 2, none⟩ = some (.int .u64 0)
  z3 : wr.cell? ⟨w.heap.size + 1 + 1, 3, none⟩ = some (.int .u64 0)
  fg0 : wr.frozen? ⟨g, 0, none⟩ = false
  fg1 : wr.frozen? ⟨g, 1, none⟩ = false
  fg2 : wr.frozen? ⟨g, 2, none⟩ = false
  fg3 : wr.frozen? ⟨g, 3, none⟩ = false
  fz0 : wr.frozen? ⟨w.heap.size + 1 + 1, 0, none⟩ = false
  fz1 : wr.frozen? ⟨w.heap.size + 1 + 1, 1, none⟩ = false
  fz2 : wr.frozen? ⟨w.heap.size + 1 + 1, 2, none⟩ = false
  fz3 : wr.frozen? ⟨w.heap.size + 1 + 1, 3, none⟩ = false
  hg : w.heap.size + 1 + 1 < g
  hs : g < wr.heap.size
  grown : GW w wr
theorem TimesAt.grow {w W w1 : World} {g a1 a0 b1 b0 x : Nat} (T : TimesAt w W g a1 a0 b1 b0 x) (h : Grown W w1) : TimesAt w w1 g a1 a0 b1 b0 x := by
  have hg := T.hg
  have hs := T.hs
  exact {
    fa1 := gkeep h T.fa1 (by omega), fa0 := gkeep h T.fa0 (by omega), fb1 := gkeep h T.fb1 (by omega), fb0 := gkeep h T.fb0 (by omega)
    x3 := gkeep h T.x3 hs, x2 := gkeep h T.x2 hs, x1 := gkeep h T.x1 hs, x0 := gkeep h T.x0 hs
    z0 := gkeep h T.z0 (by omega), z1 := gkeep h T.z1 (by omega), z2 := gkeep h T.z2 (by omega), z3 := gkeep h T.z3 (by omega)
    fg0 := (h.2.1 _).trans T.fg0, fg1 := (h.2.1 _).trans T.fg1, fg2 := (h.2.1 _).trans T.fg2, fg3 := (h.2.1 _).trans T.fg3
    fz0 := (h.2.1 _).trans T.fz0, fz1 := (h.2.1 _).trans T.fz1, fz2 := (h.2.1 _).trans T.fz2, fz3 := (h.2.1 _).trans T.fz3
    hg := hg, hs := Nat.lt_of_lt_of_le hs h.2.2, grown := grown_trans T.grown h }
theorem cell_set_same {w : World} {a : Addr} {v u : Value} (h : w.cell? a = some u) : (w.setCell a v).cell? a = some v := World.cell?_setCell_same' w a v (by rw [h]; rfl)
theorem cell_set_next {w : World} {b o o' : Nat} {v u : Value} (h : o' ≠ o) (hv : w.cell? ⟨b, o, none⟩ = some u) : (w.setCell ⟨b, o', none⟩ v).cell? ⟨b, o, none⟩ = some u := by
  rw [World.cell?_setCell_other]
  · exact hv
  · intro e
    exact h (by injection e)
theorem TimesAt.put {w W : World} {g a1 a0 b1 b0 x : Nat} (T : TimesAt w W g a1 a0 b1 b0 x) (y : Nat) :
    TimesAt w ((((W.setCell ⟨g, 0, none⟩ (.int .u64 (d3 y : Int))).setCell ⟨g, 1, none⟩ (.int .u64 (d2 y : Int))).setCell ⟨g, 2, none⟩ (.int .u64 (d1 y : Int))).setCell ⟨g, 3, none⟩ (.int .u64 (d0 y : Int))) g a1 a0 b1 b0 y := by
  have hg := T.hg
  have hs := T.hs
  have n0 : g ≠ w.heap.size := by omega
  have n1 : g ≠ w.heap.size + 1 := by omega
  have n2 : g ≠ w.heap.size + 1 + 1 := by omega
  have hw : w.heap.size ≤ g := by omega
  exact {
    fa1 := skeep n0 (skeep n0 (skeep n0 (skeep n0 T.fa1))), fa0 := skeep n0 (skeep n0 (skeep n0 (skeep n0 T.fa0)))
    fb1 := skeep n1 (skeep n1 (skeep n1 (skeep n1 T.fb1))), fb0 := skeep n1 (skeep n1 (skeep n1 (skeep n1 T.fb0)))
    x3 := cell_set_next (by decide) (cell_set_next (by decide) (cell_set_next (by decide) (cell_set_same T.x3)))
    x2 := cell_set_next (by decide) (cell_set_next (by decide) (cell_set_same (cell_set_next (by decide) T.x2)))
    x1 := cell_set_next (by decide) (cell_set_same (cell_set_next (by decide) (cell_set_next (by decide) T.x1)))
    x0 := cell_set_same (cell_set_next (by decide) (cell_set_next (by decide) (cell_set_next (by decide) T.x0)))
    z0 := skeep n2 (skeep n2 (skeep n2 (skeep n2 T.z0))), z1 := skeep n2 (skeep n2 (skeep n2 (skeep n2 T.z1)))
    z2 := skeep n2 (skeep n2 (skeep n2 (skeep n2 T.z2))), z3 := skeep n2 (skeep n2 (skeep n2 (skeep n2 T.z3)))
    fg0 := by simp [T.fg0], fg1 := by simp [T.fg1], fg2 := by simp [T.fg2], fg3 := by simp [T.fg3]
    fz0 := by simp [T.fz0], fz1 := by simp [T.fz1], fz2 := by simp [T.fz2], fz3 := by simp [T.fz3]
    hg := hg, hs := by simpa [World.setCell] using hs
    grown := Grown.setCell (Grown.setCell (Grown.setCell (Grown.setCell T.grown hw _) hw _) hw _) hw _ }
theorem zplus (n : Nat) (w : World) :
    Calls Try.prog 32 #[.agg #[.int .u64 0, .int .u64 0, .int .u64 0, .int .u64 0], .agg #[.int .u64 (d3 n : Int), .int .u64 (d2 n : Int), .int .u64 (d1 n : Int), .int .u64 (d0 n : Int)]] w fun e w' => e = .returned (.agg #[.int .u64 (d3 n : Int), .int .u64 (d2 n : Int), .int .u64 (d1 n : Int), .int .u64 (d0 n : Int)]) ∧ Grown w w' := by
  have h := plus_e 0 n w
  rw [Nat.zero_add] at h
  exact h
set_option maxHeartbeats 8000000 in
theorem times_raw (a3 a2 a1 a0 b3 b2 b1 b0 p00 p10 p01 p11 y10 y01 y11 : Nat) (h00 : (a0 : Int) * (b0 : Int) = (p00 : Int)) (h10 : (a1 : Int) * (b0 : Int) = (p10 : Int)) (h01 : (a0 : Int) * (b1 : Int) = (p01 : Int)) (h11 : (a1 : Int) * (b1 : Int) = (p11 : Int))
    (l00 : p00 ≤ 18446744073709551615) (l10 : p10 ≤ 18446744073709551615) (l01 : p01 ≤ 18446744073709551615) (l11 : p11 ≤ 18446744073709551615) (e10 : Hid (y10 = p10 * 4294967296)) (e01 : Hid (y01 = p01 * 4294967296)) (e11 : Hid (y11 = p11 * 18446744073709551616)) (w : World) :
    Calls Try.prog 29 #[.agg #[.int .u64 (a3 : Int), .int .u64 (a2 : Int), .int .u64 (a1 : Int), .int .u64 (a0 : Int)], .agg #[.int .u64 (b3 : Int), .int .u64 (b2 : Int), .int .u64 (b1 : Int), .int .u64 (b0 : Int)]] w fun e w' => e = .returned (.agg #[.int .u64 (d3 (p00 + y10 + y01 + y11) : Int), .int .u64 (d2 (p00 + y10 + y01 + y11) : Int), .int .u64 (d1 (p00 + y10 + y01 + y11) : Int), .int .u64 (d0 (p00 + y10 + y01 + y11) : Int)]) ∧ Grown w w' := by
  have v10 : IntKind.u64.wrap (p10 : Int) = (p10 : Int) := by rw [u64w]; omega
  have v01 : IntKind.u64.wrap (p01 : Int) = (p01 : Int) := by rw [u64w]; omega
  have v11 : IntKind.u64.wrap (p11 : Int) = (p11 : Int) := by rw [u64w]; omega
  go_enter Try.func29, Try.ntmps29
  go_wp2_with fail
  refine (shift0 p00 l00 _).mono ?_
  rintro e w1 ⟨rfl, h1⟩
  go_wp2_with fail
  refine (zplus p00 _).mono ?_
  rintro e w2 ⟨rfl, h2⟩
  go_wp2_with fail
  have hsz : w.heap.size + 1 + 1 < w1.heap.size := Nat.lt_of_lt_of_le (by simp) h1.2.2
  have hsz2 : w.heap.size + 1 + 1 < w2.heap.size := Nat.lt_of_lt_of_le hsz h2.2.2
  have hgw : Grown w w2 := grown_trans (grown_trans (by repeat (first | exact Grown.refl _ | apply Grown.drewN | apply Grown.drew | apply Grown.alloc)) h1) h2
  have qa1 := gkeep h2 (gkeep h1 (b := w.heap.size) (o := 2) (v := (.int .u64 (a1 : Int))) (by simp [go_sem]) (by simp; try omega)) (by omega)
  have qa0 := gkeep h2 (gkeep h1 (b := w.heap.size) (o := 3) (v := (.int .u64 (a0 : Int))) (by simp [go_sem]) (by simp; try omega)) (by omega)
  have qb1 := gkeep h2 (gkeep h1 (b := w.heap.size + 1) (o := 2) (v := (.int .u64 (b1 : Int))) (by simp [go_sem]) (by simp; try omega)) (by omega)
  have qb0 := gkeep h2 (gkeep h1 (b := w.heap.size + 1) (o := 3) (v := (.int .u64 (b0 : Int))) (by simp [go_sem]) (by simp; try omega)) (by omega)
  have qz0 := gkeep h2 (gkeep h1 (b := w.heap.size + 1 + 1) (o := 0) (v := (.int .u64 0)) (by simp [go_sem]) (by simp)) (by omega)
  have qz1 := gkeep h2 (gkeep h1 (b := w.heap.size + 1 + 1) (o := 1) (v := (.int .u64 0)) (by simp [go_sem]) (by simp)) (by omega)
  have qz2 := gkeep h2 (gkeep h1 (b := w.heap.size + 1 + 1) (o := 2) (v := (.int .u64 0)) (by simp [go_sem]) (by simp)) (by omega)
  have qz3 := gkeep h2 (gkeep h1 (b := w.heap.size + 1 + 1) (o := 3) (v := (.int .u64 0)) (by simp [go_sem]) (by simp)) (by omega)
  have qf0 : w2.frozen? ⟨w.heap.size + 1 + 1, 0, none⟩ = false := by rw [h2.2.1, h1.2.1]; simp [go_sem]
  have qf1 : w2.frozen? ⟨w.heap.size + 1 + 1, 1, none⟩ = false := by rw [h2.2.1, h1.2.1]; simp [go_sem]
  have qf2 : w2.frozen? ⟨w.heap.size + 1 + 1, 2, none⟩ = false := by rw [h2.2.1, h1.2.1]; simp [go_sem]
  have qf3 : w2.frozen? ⟨w.heap.size + 1 + 1, 3, none⟩ = false := by rw [h2.2.1, h1.2.1]; simp [go_sem]
  have T1 : TimesAt w (w2.alloc (Obj.cells #[Value.int IntKind.u64 (d3 p00 : Int), Value.int IntKind.u64 (d2 p00 : Int), Value.int IntKind.u64 (d1 p00 : Int), Value.int IntKind.u64 (d0 p00 : Int)] 38)) w2.heap.size a1 a0 b1 b0 p00 := {
    fa1 := (World.cell?_alloc_past (w := w2) _ _ _ (by omega)).trans qa1, fa0 := (World.cell?_alloc_past (w := w2) _ _ _ (by omega)).trans qa0, fb1 := (World.cell?_alloc_past (w := w2) _ _ _ (by omega)).trans qb1, fb0 := (World.cell?_alloc_past (w := w2) _ _ _ (by omega)).trans qb0
    x3 := by simp, x2 := by simp, x1 := by simp, x0 := by simp
    z0 := (World.cell?_alloc_past (w := w2) _ _ _ (by omega)).trans qz0, z1 := (World.cell?_alloc_past (w := w2) _ _ _ (by omega)).trans qz1, z2 := (World.cell?_alloc_past (w := w2) _ _ _ (by omega)).trans qz2, z3 := (World.cell?_alloc_past (w := w2) _ _ _ (by omega)).trans qz3
    fg0 := by simp [go_sem], fg1 := by simp [go_sem], fg2 := by simp [go_sem], fg3 := by simp [go_sem]
    fz0 := by rw [frozen?_alloc_cells]; exact qf0, fz1 := by rw [frozen?_alloc_cells]; exact qf1, fz2 := by rw [frozen?_alloc_cells]; exact qf2, fz3 := by rw [frozen?_alloc_cells]; exact qf3
    hg := hsz2, hs := by simp, grown := Grown.alloc hgw _ _ }
  generalize hW : (w2.alloc (Obj.cells #[Value.int IntKind.u64 (d3 p00 : Int), Value.int IntKind.u64 (d2 p00 : Int), Value.int IntKind.u64 (d1 p00 : Int), Value.int IntKind.u64 (d0 p00 : Int)] 38)) = wx at T1 ⊢
  clear hW
  generalize w2.heap.size = g at T1 ⊢
  clear qa1 qa0 qb1 qb0 qz0 qz1 qz2 qz3 qf0 qf1 qf2 qf3 hgw hsz2 hsz h2 h1
  obtain ⟨ua1, ua0, ub1, ub0, ux3, ux2, ux1, ux0, uz0, uz1, uz2, uz3, ug0, ug1, ug2, ug3, uf0, uf1, uf2, uf3, uhg, uhs, _⟩ := id T1
  go_cut [] (fun wr => TimesAt w wr g a1 a0 b1 b0 (p00 + y10))
  case first =>
    go_region_with (first | (go_at_call 36; refine (shift1 p10 y10 l10 e10.out _).mono ?_; rintro e w3 ⟨rfl, h3⟩; have T3 := T1.grow h3; obtain ⟨ua1, ua0, ub1, ub0, ux3, ux2, ux1, ux0, uz0, uz1, uz2, uz3, ug0, ug1, ug2, ug3, uf0, uf1, uf2, uf3, uhg, uhs, _⟩ := id T3) | (go_at_call 32; refine (plus_e p00 y10 _).mono ?_; rintro e w4 ⟨rfl, h4⟩; have T4 := T3.grow h4; obtain ⟨ua1, ua0, ub1, ub0, ux3, ux2, ux1, ux0, uz0, uz1, uz2, uz3, ug0, ug1, ug2, ug3, uf0, uf1, uf2, uf3, uhg, uhs, _⟩ := id T4))
    all_goals
      go_wp2_with fail
      go_meet
      exact T4.put _
  case rest =>
    clear T1 ua1 ua0 ub1 ub0 ux3 ux2 ux1 ux0 uz0 uz1 uz2 uz3 ug0 ug1 ug2 ug3 uf0 uf1 uf2 uf3 uhs
    obtain ⟨ua1, ua0, ub1, ub0, ux3, ux2, ux1, ux0, uz0, uz1, uz2, uz3, ug0, ug1, ug2, ug3, uf0, uf1, uf2, uf3, uhg, uhs, _⟩ := id hcut
    have T1 := hcut
    clear hcut
    go_wp2_with fail
    go_cut [] (fun wr => TimesAt w wr g a1 a0 b1 b0 (p00 + y10 + y01))
    case first =>
      go_region_with (first | (go_at_call 36; refine (shift1 p01 y01 l01 e01.out _).mono ?_; rintro e w3 ⟨rfl, h3⟩; have T3 := T1.grow h3; obtain ⟨ua1, ua0, ub1, ub0, ux3, ux2, ux1, ux0, uz0, uz1, uz2, uz3, ug0, ug1, ug2, ug3, uf0, uf1, uf2, uf3, uhg, uhs, _⟩ := id T3) | (go_at_call 32; refine (plus_e (p00 + y10) y01 _).mono ?_; rintro e w4 ⟨rfl, h4⟩; have T4 := T3.grow h4; obtain ⟨ua1, ua0, ub1, ub0, ux3, ux2, ux1, ux0, uz0, uz1, uz2, uz3, ug0, ug1, ug2, ug3, uf0, uf1, uf2, uf3, uhg, uhs, _⟩ := id T4))
      all_goals
        go_wp2_with fail
        go_meet
        exact T4.put _
    case rest =>
      clear T1 ua1 ua0 ub1 ub0 ux3 ux2 ux1 ux0 uz0 uz1 uz2 uz3 ug0 ug1 ug2 ug3 uf0 uf1 uf2 uf3 uhs
      obtain ⟨ua1, ua0, ub1, ub0, ux3, ux2, ux1, ux0, uz0, uz1, uz2, uz3, ug0, ug1, ug2, ug3, uf0, uf1, uf2, uf3, uhg, uhs, _⟩ := id hcut
      have T1 := hcut
      clear hcut
      go_wp2_with fail
      go_region_with (first | (go_at_call 36; refine (shift2 p11 y11 l11 e11.out _).mono ?_; rintro e w3 ⟨rfl, h3⟩; have T3 := T1.grow h3; obtain ⟨ua1, ua0, ub1, ub0, ux3, ux2, ux1, ux0, uz0, uz1, uz2, uz3, ug0, ug1, ug2, ug3, uf0, uf1, uf2, uf3, uhg, uhs, _⟩ := id T3) | (go_at_call 32; refine (plus_e (p00 + y10 + y01) y11 _).mono ?_; rintro e w4 ⟨rfl, h4⟩; have T4 := T3.grow h4; obtain ⟨ua1, ua0, ub1, ub0, ux3, ux2, ux1, ux0, uz0, uz1, uz2, uz3, ug0, ug1, ug2, ug3, uf0, uf1, uf2, uf3, uhg, uhs, _⟩ := id T4))
      all_goals
        go_wp2_with fail
        refine bodyPost_ret (v := .agg #[.int .u64 (d3 (p00 + y10 + y01 + y11) : Int), .int .u64 (d2 (p00 + y10 + y01 + y11) : Int), .int .u64 (d1 (p00 + y10 + y01 + y11) : Int), .int .u64 (d0 (p00 + y10 + y01 + y11) : Int)]) (by simp [results, Try.results29, go_sem, uz0, uz1, uz2, uz3]; try rfl) rfl ⟨rfl, ?_⟩
        repeat (refine Grown.setCell ?_ (by show _ ≤ w.heap.size + 1 + 1; omega) _)
        exact T4.grown
end Go.Proofs.Ytkppjchapiidpaa
