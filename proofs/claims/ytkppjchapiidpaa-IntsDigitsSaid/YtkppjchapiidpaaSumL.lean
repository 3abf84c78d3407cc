/- The document's sum of numbers with signs. Conditions: sizes below 2^127. -/
import Derived.Test.YtkppjchapiidpaaSum
import Derived.Deep.RegionHeld3
import Derived.Deep.RegionWith
namespace Go.Proofs.Ytkppjchapiidpaa
open Go.RowKit
attribute [local go_sem] alloc_drewN setCell_drewN
theorem skeep {w : World} {b b' o o' : Nat} {u v : Value} (h : b' ≠ b) (hv : w.cell? ⟨b, o, none⟩ = some v) : (w.setCell ⟨b', o', none⟩ u).cell? ⟨b, o, none⟩ = some v :=
  (World.cell?_of_block (w := w) (Below.heap_setCell w ⟨b', o', none⟩ u b (fun e => h e.symm))).trans hv
theorem gkeep {W w1 : World} (h : Grown W w1) {b o : Nat} {v : Value} (hv : W.cell? ⟨b, o, none⟩ = some v) (hb : b < W.heap.size) : w1.cell? ⟨b, o, none⟩ = some v := by rw [(gcells h).1 b o hb]; exact hv
set_option maxHeartbeats 2000000 in
theorem sum_less (s t : Bool) (m n : Nat) (hst : (s == t) = false) (hm : m < n) (hM : Fits m) (hN : Fits n) (w : World) :
    Calls Try.prog 24 #[NV s m, NV t n] w fun e w' => e = .returned (NV t (n - m)) ∧ Grown w w' := by
  have hl : decide (m < n) = true := by simp; omega
  have HL := Lib.hid hl
  have hle : m ≤ n := by omega
  clear hl hm
  unfold NV
  go_enter Try.func24, Try.ntmps24
  go_wp2_with fail
  refine (less_e m n hM hN _).mono ?_
  rintro e w0 ⟨rfl, hg0⟩
  rw [HL.out]
  have hg00 : Grown w w0 := grown_trans (by repeat (first | exact Grown.refl _ | apply Grown.drewN | apply Grown.drew | apply Grown.alloc)) hg0
  obtain ⟨hc0, hf0⟩ := gcells hg0
  have hz0 : w.heap.size + 1 + 1 < w0.heap.size := Nat.lt_of_lt_of_le (by simp) hg0.2.2
  have hz1 : w.heap.size + 1 < w0.heap.size := by omega
  have hz2 : w.heap.size < w0.heap.size := by omega
  have A0 : w0.cell? ⟨w.heap.size, 0, none⟩ = some (.bool s) := gkeep hg0 (by simp [go_sem]) (by simp; try omega)
  have A1 : w0.cell? ⟨w.heap.size, 1, none⟩ = some (.int .u64 (d3 m : Int)) := gkeep hg0 (by simp [go_sem]) (by simp; try omega)
  have A2 : w0.cell? ⟨w.heap.size, 2, none⟩ = some (.int .u64 (d2 m : Int)) := gkeep hg0 (by simp [go_sem]) (by simp; try omega)
  have A3 : w0.cell? ⟨w.heap.size, 3, none⟩ = some (.int .u64 (d1 m : Int)) := gkeep hg0 (by simp [go_sem]) (by simp; try omega)
  have A4 : w0.cell? ⟨w.heap.size, 4, none⟩ = some (.int .u64 (d0 m : Int)) := gkeep hg0 (by simp [go_sem]) (by simp; try omega)
  have B0 : w0.cell? ⟨w.heap.size + 1, 0, none⟩ = some (.bool t) := gkeep hg0 (by simp [go_sem]) (by simp; try omega)
  have B1 : w0.cell? ⟨w.heap.size + 1, 1, none⟩ = some (.int .u64 (d3 n : Int)) := gkeep hg0 (by simp [go_sem]) (by simp; try omega)
  have B2 : w0.cell? ⟨w.heap.size + 1, 2, none⟩ = some (.int .u64 (d2 n : Int)) := gkeep hg0 (by simp [go_sem]) (by simp; try omega)
  have B3 : w0.cell? ⟨w.heap.size + 1, 3, none⟩ = some (.int .u64 (d1 n : Int)) := gkeep hg0 (by simp [go_sem]) (by simp; try omega)
  have B4 : w0.cell? ⟨w.heap.size + 1, 4, none⟩ = some (.int .u64 (d0 n : Int)) := gkeep hg0 (by simp [go_sem]) (by simp; try omega)
  have C0 : w0.cell? ⟨w.heap.size + 1 + 1, 0, none⟩ = some (.bool false) := gkeep hg0 (by simp [go_sem]) (by simp)
  have C1 : w0.cell? ⟨w.heap.size + 1 + 1, 1, none⟩ = some (.int .u64 0) := gkeep hg0 (by simp [go_sem]) (by simp)
  have C2 : w0.cell? ⟨w.heap.size + 1 + 1, 2, none⟩ = some (.int .u64 0) := gkeep hg0 (by simp [go_sem]) (by simp)
  have C3 : w0.cell? ⟨w.heap.size + 1 + 1, 3, none⟩ = some (.int .u64 0) := gkeep hg0 (by simp [go_sem]) (by simp)
  have C4 : w0.cell? ⟨w.heap.size + 1 + 1, 4, none⟩ = some (.int .u64 0) := gkeep hg0 (by simp [go_sem]) (by simp)
  have F0 : w0.frozen? ⟨w.heap.size + 1 + 1, 0, none⟩ = false := by rw [hf0]; simp [go_sem]
  have F1 : w0.frozen? ⟨w.heap.size + 1 + 1, 1, none⟩ = false := by rw [hf0]; simp [go_sem]
  have F2 : w0.frozen? ⟨w.heap.size + 1 + 1, 2, none⟩ = false := by rw [hf0]; simp [go_sem]
  have F3 : w0.frozen? ⟨w.heap.size + 1 + 1, 3, none⟩ = false := by rw [hf0]; simp [go_sem]
  have F4 : w0.frozen? ⟨w.heap.size + 1 + 1, 4, none⟩ = false := by rw [hf0]; simp [go_sem]
  clear hc0 hf0
  have hA : w.heap.size + 1 + 1 ≠ w.heap.size := by omega
  have hB : w.heap.size + 1 + 1 ≠ w.heap.size + 1 := by omega
  go_wp2_with fail
  go_region_held3 (fun w' => w'.cell? ⟨w.heap.size, 0, none⟩ = some (.bool s) ∧ w'.cell? ⟨w.heap.size, 1, none⟩ = some (.int .u64 (d3 m : Int)) ∧ w'.cell? ⟨w.heap.size, 2, none⟩ = some (.int .u64 (d2 m : Int)) ∧ w'.cell? ⟨w.heap.size, 3, none⟩ = some (.int .u64 (d1 m : Int)) ∧ w'.cell? ⟨w.heap.size, 4, none⟩ = some (.int .u64 (d0 m : Int)) ∧ w'.cell? ⟨w.heap.size + 1, 0, none⟩ = some (.bool t) ∧ w'.cell? ⟨w.heap.size + 1, 1, none⟩ = some (.int .u64 (d3 n : Int)) ∧ w'.cell? ⟨w.heap.size + 1, 2, none⟩ = some (.int .u64 (d2 n : Int)) ∧ w'.cell? ⟨w.heap.size + 1, 3, none⟩ = some (.int .u64 (d1 n : Int)) ∧ w'.cell? ⟨w.heap.size + 1, 4, none⟩ = some (.int .u64 (d0 n : Int))) (first | go_keep | exact ⟨(skeep hA (skeep hA (skeep hA (skeep hA (skeep hA a0))))), (skeep hA (skeep hA (skeep hA (skeep hA (skeep hA a1))))), (skeep hA (skeep hA (skeep hA (skeep hA (skeep hA a2))))), (skeep hA (skeep hA (skeep hA (skeep hA (skeep hA a3))))), (skeep hA (skeep hA (skeep hA (skeep hA (skeep hA a4))))), (skeep hB (skeep hB (skeep hB (skeep hB (skeep hB b0))))), (skeep hB (skeep hB (skeep hB (skeep hB (skeep hB b1))))), (skeep hB (skeep hB (skeep hB (skeep hB (skeep hB b2))))), (skeep hB (skeep hB (skeep hB (skeep hB (skeep hB b3))))), (skeep hB (skeep hB (skeep hB (skeep hB (skeep hB b4)))))⟩) (first | (go_at_call 35; refine (minus_e n m hle _).mono ?_; rintro e w1 ⟨rfl, hg⟩; have a0 := gkeep hg A0 hz2; have a1 := gkeep hg A1 hz2; have a2 := gkeep hg A2 hz2; have a3 := gkeep hg A3 hz2; have a4 := gkeep hg A4 hz2; have b0 := gkeep hg B0 hz1; have b1 := gkeep hg B1 hz1; have b2 := gkeep hg B2 hz1; have b3 := gkeep hg B3 hz1; have b4 := gkeep hg B4 hz1; have k0 := gkeep hg C0 hz0; have k1 := gkeep hg C1 hz0; have k2 := gkeep hg C2 hz0; have k3 := gkeep hg C3 hz0; have k4 := gkeep hg C4 hz0; have f0 : w1.frozen? ⟨w.heap.size + 1 + 1, 0, none⟩ = false := (hg.2.1 _).trans F0; have f1 : w1.frozen? ⟨w.heap.size + 1 + 1, 1, none⟩ = false := (hg.2.1 _).trans F1; have f2 : w1.frozen? ⟨w.heap.size + 1 + 1, 2, none⟩ = false := (hg.2.1 _).trans F2; have f3 : w1.frozen? ⟨w.heap.size + 1 + 1, 3, none⟩ = false := (hg.2.1 _).trans F3; have f4 : w1.frozen? ⟨w.heap.size + 1 + 1, 4, none⟩ = false := (hg.2.1 _).trans F4))
  all_goals
    go_wp2
    refine bodyPost_ret (v := .agg #[.bool t, .int .u64 (d3 (n - m) : Int), .int .u64 (d2 (n - m) : Int), .int .u64 (d1 (n - m) : Int), .int .u64 (d0 (n - m) : Int)]) (by simp [results, Try.results24, go_sem, k0, k1, k2, k3, k4]; try rfl) rfl ⟨rfl, ?_⟩
    repeat (refine Grown.setCell ?_ (by show _ ≤ w.heap.size + 1 + 1; omega) _)
    refine grown_trans ?_ hg
    repeat (first | exact hg00 | apply Grown.drewN | apply Grown.drew | apply Grown.alloc)
end Go.Proofs.Ytkppjchapiidpaa
