/- The document's sum of sizes, digit by digit of 2^32. Condition: digits below 2^32. -/
import Derived.Test.YtdblkjcimegoeaaDoorMulNeg
import Derived.Laws.BitsAllLaws
import Derived.Shelf.Bits.Mul64
import Derived.BigQuiet
import Derived.Deep.QuietTactic
import Derived.Laws.Rows
import Derived.Laws.NewBlocks
import Derived.Deep.Draws
namespace Go.Proofs.YtdblkjcimegoeaaDoor
open Go.RowKit
def dig4 (x3 x2 x1 x0 : Int) : Value := .agg #[.int .u64 x3, .int .u64 x2, .int .u64 x1, .int .u64 x0]
theorem mask32 (a : Nat) (ha : a < 18446744073709551616) : bits .and .u64 (a : Int) 4294967295 = ((a % 4294967296 : Nat) : Int) := Mul64.maskN a ha
theorem div32 (a : Nat) : (a : Int) / 4294967296 = ((a / 4294967296 : Nat) : Int) := Mul64.divN a
theorem dig4_eq {a b c d a' b' c' d' : Nat} (h1 : a = a') (h2 : b = b') (h3 : c = c') (h4 : d = d') :
    Ending.returned (.agg #[.int .u64 (a : Int), .int .u64 (b : Int), .int .u64 (c : Int), .int .u64 (d : Int)]) = .returned (.agg #[.int .u64 (a' : Int), .int .u64 (b' : Int), .int .u64 (c' : Int), .int .u64 (d' : Int)]) := by rw [h1, h2, h3, h4]
theorem alloc_drewN (w : World) (o : Obj) (n : Nat) : (w.drewN n).alloc o = (w.alloc o).drewN n := rfl
theorem setCell_drewN (w : World) (a : Addr) (v : Value) (n : Nat) : (w.drewN n).setCell a v = (w.setCell a v).drewN n := rfl
theorem Grown.drewN {W w' : World} (h : Grown W w') (n : Nat) : Grown W (w'.drewN n) := h
attribute [local go_sem] alloc_drewN setCell_drewN
set_option maxHeartbeats 1000000 in
theorem plus_raw (a3 a2 a1 a0 b3 b2 b1 b0 s0 s1 s2 s3 k0 k1 k2 : Nat) (ha3 : a3 < 4294967296) (ha2 : a2 < 4294967296) (ha1 : a1 < 4294967296) (ha0 : a0 < 4294967296) (hb3 : b3 < 4294967296) (hb2 : b2 < 4294967296) (hb1 : b1 < 4294967296) (hb0 : b0 < 4294967296)
    (hs0 : (a0 : Int) + (b0 : Int) = (s0 : Int)) (hk0 : s0 / 4294967296 = k0) (hs1 : (k0 : Int) + ((a1 : Int) + (b1 : Int)) = (s1 : Int)) (hk1 : s1 / 4294967296 = k1) (hs2 : (k1 : Int) + ((a2 : Int) + (b2 : Int)) = (s2 : Int)) (hk2 : s2 / 4294967296 = k2) (hs3 : (k2 : Int) + ((a3 : Int) + (b3 : Int)) = (s3 : Int)) (w : World) :
    Calls Tryd.prog 41 #[.agg #[.int .u64 a3, .int .u64 a2, .int .u64 a1, .int .u64 a0], .agg #[.int .u64 b3, .int .u64 b2, .int .u64 b1, .int .u64 b0]] w fun e w' => e = .returned (.agg #[.int .u64 ((s3 % 4294967296 : Nat) : Int), .int .u64 ((s2 % 4294967296 : Nat) : Int), .int .u64 ((s1 % 4294967296 : Nat) : Int), .int .u64 ((s0 % 4294967296 : Nat) : Int)]) ∧ Grown w w' := by
  have q0 : s0 ≤ 8589934592 := by omega
  have q1 : s1 ≤ 8589934593 := by omega
  have q2 : s2 ≤ 8589934593 := by omega
  have q3 : s3 ≤ 8589934593 := by omega
  have m0 := mask32 s0 (by omega)
  have m1 := mask32 s1 (by omega)
  have m2 := mask32 s2 (by omega)
  have m3 := mask32 s3 (by omega)
  have d0 : (s0 : Int) / 4294967296 = (k0 : Int) := by rw [← hk0]; exact div32 _
  have d1 : (s1 : Int) / 4294967296 = (k1 : Int) := by rw [← hk1]; exact div32 _
  have d2 : (s2 : Int) / 4294967296 = (k2 : Int) := by rw [← hk2]; exact div32 _
  obtain ⟨r0, hr0⟩ : ∃ r : Nat, s0 % 4294967296 = r := ⟨_, rfl⟩
  obtain ⟨r1, hr1⟩ : ∃ r : Nat, s1 % 4294967296 = r := ⟨_, rfl⟩
  obtain ⟨r2, hr2⟩ : ∃ r : Nat, s2 % 4294967296 = r := ⟨_, rfl⟩
  obtain ⟨r3, hr3⟩ : ∃ r : Nat, s3 % 4294967296 = r := ⟨_, rfl⟩
  rw [hr0] at m0
  rw [hr1] at m1
  rw [hr2] at m2
  rw [hr3] at m3
  rw [hr0, hr1, hr2, hr3]
  clear hk0 hk1 hk2 hr0 hr1 hr2 hr3
  go_enter Tryd.func41, Tryd.ntmps41
  go_wp2
  refine wp_loop_rounds 5 ?_
  rw [rounds_succ]
  go_wp2
  go_quiet (fail)
  go_wp2
  rw [rounds_succ]
  go_wp2
  go_quiet (fail)
  go_wp2
  rw [rounds_succ]
  go_wp2
  go_quiet (fail)
  go_wp2
  rw [rounds_succ]
  go_wp2
  go_quiet (fail)
  go_wp2
  rw [rounds_succ]
  go_wp2
  go_returns
  exact ⟨rfl, by repeat (first | exact Grown.refl _ | apply Grown.drewN | apply Grown.alloc)⟩
end Go.Proofs.YtdblkjcimegoeaaDoor
