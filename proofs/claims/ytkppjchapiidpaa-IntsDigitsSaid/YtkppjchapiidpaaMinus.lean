/- The document's difference and order of sizes, digit by digit of 2^32. Condition: digits below 2^32, the greater one first. -/
import Derived.Test.YtkppjchapiidpaaPlus
namespace Go.Proofs.Ytkppjchapiidpaa
open Go.RowKit
attribute [local go_sem] alloc_drewN setCell_drewN
set_option maxHeartbeats 1000000 in
theorem minus_raw (a3 a2 a1 a0 b3 b2 b1 b0 t0 t1 t2 t3 k0 k1 k2 : Nat) (ha3 : a3 < 4294967296) (ha2 : a2 < 4294967296) (ha1 : a1 < 4294967296) (ha0 : a0 < 4294967296) (hb3 : b3 < 4294967296) (hb2 : b2 < 4294967296) (hb1 : b1 < 4294967296) (hb0 : b0 < 4294967296)
    (ht0 : (a0 : Int) + 4294967296 - (b0 : Int) = (t0 : Int)) (hk0 : 1 - (t0 : Int) / 4294967296 = (k0 : Int)) (ht1 : (a1 : Int) + 4294967296 - (b1 : Int) - (k0 : Int) = (t1 : Int)) (hk1 : 1 - (t1 : Int) / 4294967296 = (k1 : Int)) (ht2 : (a2 : Int) + 4294967296 - (b2 : Int) - (k1 : Int) = (t2 : Int)) (hk2 : 1 - (t2 : Int) / 4294967296 = (k2 : Int)) (ht3 : (a3 : Int) + 4294967296 - (b3 : Int) - (k2 : Int) = (t3 : Int)) (w : World) :
    Calls Try.prog 35 #[.agg #[.int .u64 a3, .int .u64 a2, .int .u64 a1, .int .u64 a0], .agg #[.int .u64 b3, .int .u64 b2, .int .u64 b1, .int .u64 b0]] w fun e w' => e = .returned (.agg #[.int .u64 ((t3 % 4294967296 : Nat) : Int), .int .u64 ((t2 % 4294967296 : Nat) : Int), .int .u64 ((t1 % 4294967296 : Nat) : Int), .int .u64 ((t0 % 4294967296 : Nat) : Int)]) ∧ Grown w w' := by
  have q0 : t0 ≤ 8589934592 := by omega
  have q1 : t1 ≤ 8589934592 := by omega
  have q2 : t2 ≤ 8589934592 := by omega
  have q3 : t3 ≤ 8589934592 := by omega
  have p0 : k0 ≤ 1 := by omega
  have p1 : k1 ≤ 1 := by omega
  have p2 : k2 ≤ 1 := by omega
  have z0 : (t0 : Int) / 4294967296 ≤ 1 := by omega
  have z1 : (t1 : Int) / 4294967296 ≤ 1 := by omega
  have z2 : (t2 : Int) / 4294967296 ≤ 1 := by omega
  have z3 : (t3 : Int) / 4294967296 ≤ 1 := by omega
  have m0 := mask32 t0 (by omega)
  have m1 := mask32 t1 (by omega)
  have m2 := mask32 t2 (by omega)
  have m3 := mask32 t3 (by omega)
  obtain ⟨r0, hr0⟩ : ∃ r : Nat, t0 % 4294967296 = r := ⟨_, rfl⟩
  obtain ⟨r1, hr1⟩ : ∃ r : Nat, t1 % 4294967296 = r := ⟨_, rfl⟩
  obtain ⟨r2, hr2⟩ : ∃ r : Nat, t2 % 4294967296 = r := ⟨_, rfl⟩
  obtain ⟨r3, hr3⟩ : ∃ r : Nat, t3 % 4294967296 = r := ⟨_, rfl⟩
  rw [hr0] at m0
  rw [hr1] at m1
  rw [hr2] at m2
  rw [hr3] at m3
  rw [hr0, hr1, hr2, hr3]
  clear hr0 hr1 hr2 hr3
  go_enter Try.func35, Try.ntmps35
  go_wp2
  refine wp_loop_rounds 5 ?_
  rw [rounds_succ]
  go_wp2
  go_quiet (fail)
  go_wp2
  rw [rounds_succ]
  go_wp2
  go_quiet (fail)
  go_wp2
  rw [rounds_succ]
  go_wp2
  go_quiet (fail)
  go_wp2
  rw [rounds_succ]
  go_wp2
  go_quiet (fail)
  go_wp2
  rw [rounds_succ]
  go_wp2
  go_returns
  exact ⟨rfl, by repeat (first | exact Grown.refl _ | apply Grown.drewN | apply Grown.alloc)⟩
set_option maxHeartbeats 1000000 in
theorem less3 (a3 a2 a1 a0 b3 b2 b1 b0 : Nat) (h : ((a3 : Int) == (b3 : Int)) = false) (w : World) :
    Calls Try.prog 34 #[.agg #[.int .u64 a3, .int .u64 a2, .int .u64 a1, .int .u64 a0], .agg #[.int .u64 b3, .int .u64 b2, .int .u64 b1, .int .u64 b0]] w fun e w' => e = .returned (.bool (decide (a3 < b3))) ∧ Grown w w' := by
  go_enter Try.func34, Try.ntmps34
  go_wp2
  refine wp_loop_rounds 5 ?_
  rw [rounds_succ]
  go_wp2
  go_quiet (fail)
  go_wp2
  go_quiet (fail)
  go_wp2
  go_returns
  exact ⟨rfl, by repeat (first | exact Grown.refl _ | apply Grown.drewN | apply Grown.alloc)⟩
set_option maxHeartbeats 1000000 in
theorem less2 (a3 a2 a1 a0 b2 b1 b0 : Nat) (h : ((a2 : Int) == (b2 : Int)) = false) (w : World) :
    Calls Try.prog 34 #[.agg #[.int .u64 a3, .int .u64 a2, .int .u64 a1, .int .u64 a0], .agg #[.int .u64 a3, .int .u64 b2, .int .u64 b1, .int .u64 b0]] w fun e w' => e = .returned (.bool (decide (a2 < b2))) ∧ Grown w w' := by
  go_enter Try.func34, Try.ntmps34
  go_wp2
  refine wp_loop_rounds 5 ?_
  rw [rounds_succ]
  go_wp2
  go_quiet (fail)
  go_wp2
  rw [rounds_succ]
  go_wp2
  go_quiet (fail)
  go_wp2
  go_quiet (fail)
  go_wp2
  go_returns
  exact ⟨rfl, by repeat (first | exact Grown.refl _ | apply Grown.drewN | apply Grown.alloc)⟩
set_option maxHeartbeats 1000000 in
theorem less1 (a3 a2 a1 a0 b1 b0 : Nat) (h : ((a1 : Int) == (b1 : Int)) = false) (w : World) :
    Calls Try.prog 34 #[.agg #[.int .u64 a3, .int .u64 a2, .int .u64 a1, .int .u64 a0], .agg #[.int .u64 a3, .int .u64 a2, .int .u64 b1, .int .u64 b0]] w fun e w' => e = .returned (.bool (decide (a1 < b1))) ∧ Grown w w' := by
  go_enter Try.func34, Try.ntmps34
  go_wp2
  refine wp_loop_rounds 5 ?_
  rw [rounds_succ]
  go_wp2
  go_quiet (fail)
  go_wp2
  rw [rounds_succ]
  go_wp2
  go_quiet (fail)
  go_wp2
  rw [rounds_succ]
  go_wp2
  go_quiet (fail)
  go_wp2
  go_quiet (fail)
  go_wp2
  go_returns
  exact ⟨rfl, by repeat (first | exact Grown.refl _ | apply Grown.drewN | apply Grown.alloc)⟩
set_option maxHeartbeats 1000000 in
theorem less0 (a3 a2 a1 a0 b0 : Nat) (h : ((a0 : Int) == (b0 : Int)) = false) (w : World) :
    Calls Try.prog 34 #[.agg #[.int .u64 a3, .int .u64 a2, .int .u64 a1, .int .u64 a0], .agg #[.int .u64 a3, .int .u64 a2, .int .u64 a1, .int .u64 b0]] w fun e w' => e = .returned (.bool (decide (a0 < b0))) ∧ Grown w w' := by
  go_enter Try.func34, Try.ntmps34
  go_wp2
  refine wp_loop_rounds 5 ?_
  rw [rounds_succ]
  go_wp2
  go_quiet (fail)
  go_wp2
  rw [rounds_succ]
  go_wp2
  go_quiet (fail)
  go_wp2
  rw [rounds_succ]
  go_wp2
  go_quiet (fail)
  go_wp2
  rw [rounds_succ]
  go_wp2
  go_quiet (fail)
  go_wp2
  go_quiet (fail)
  go_wp2
  go_returns
  exact ⟨rfl, by repeat (first | exact Grown.refl _ | apply Grown.drewN | apply Grown.alloc)⟩
set_option maxHeartbeats 1000000 in
theorem less_same (a3 a2 a1 a0 : Nat) (w : World) :
    Calls Try.prog 34 #[.agg #[.int .u64 a3, .int .u64 a2, .int .u64 a1, .int .u64 a0], .agg #[.int .u64 a3, .int .u64 a2, .int .u64 a1, .int .u64 a0]] w fun e w' => e = .returned (.bool false) ∧ Grown w w' := by
  go_enter Try.func34, Try.ntmps34
  go_wp2
  refine wp_loop_rounds 5 ?_
  rw [rounds_succ]
  go_wp2
  go_quiet (fail)
  go_wp2
  rw [rounds_succ]
  go_wp2
  go_quiet (fail)
  go_wp2
  rw [rounds_succ]
  go_wp2
  go_quiet (fail)
  go_wp2
  rw [rounds_succ]
  go_wp2
  go_quiet (fail)
  go_wp2
  rw [rounds_succ]
  go_wp2
  go_returns
  exact ⟨rfl, by repeat (first | exact Grown.refl _ | apply Grown.drewN | apply Grown.alloc)⟩
end Go.Proofs.Ytkppjchapiidpaa
