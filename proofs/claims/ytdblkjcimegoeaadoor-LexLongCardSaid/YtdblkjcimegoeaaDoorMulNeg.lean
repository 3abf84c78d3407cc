/- ints.Mul and ints.Neg: the product and the opposite, or 14. No condition but that the arguments are 64-bit numbers. -/
import Derived.Test.YtdblkjcimegoeaaDoorAddSub
import Derived.Test.YtdblkjcimegoeaaDoorText
import Derived.Test.YtdblkjcimegoeaaDoorShelf
import Derived.Lib.Hide
namespace Go.Proofs.YtdblkjcimegoeaaDoor
open Go.RowKit
theorem ret1 {k : IntKind} {a b : Int} (h : a = b) : Ending.returned (.int k a) = .returned (.int k b) := by rw [h]
theorem ret2i {k l : IntKind} {a b c d : Int} (h : a = b) (g : c = d) : Ending.returned (.tuple #[.int k a, .int l c]) = .returned (.tuple #[.int k b, .int l d]) := by rw [h, g]
theorem u64w (a : Int) : IntKind.u64.wrap a = a % 18446744073709551616 := IntKind.wrap_u64 a
theorem i64w (a : Int) : IntKind.i64.wrap a = (a + 9223372036854775808) % 18446744073709551616 - 9223372036854775808 := IntKind.wrap_i64 a
set_option maxHeartbeats 400000 in
theorem signed_c (b : Bool) (n : Nat) (hn : n ≤ 18446744073709551615) (w : World) :
    Calls Tryd.prog 48 #[.bool b, .int .u64 (n : Int)] w fun e w' => e = .returned (.tuple #[.int .i64 (fitV (sgn b n)), .int .i64 (fitE (sgn b n))]) ∧ w' = w := by
  cases b
  · rw [show sgn false n = (n : Int) from rfl]
    by_cases h : n ≤ 9223372036854775807
    · rw [(fit_in (n := (n : Int)) (by omega) (by omega)).1, (fit_in (n := (n : Int)) (by omega) (by omega)).2]
      go_enter Tryd.func48, Tryd.ntmps48
      go_wp2
      go_ret2
      exact ⟨rfl, rfl⟩
    · rw [(fit_out (n := (n : Int)) (by omega)).1, (fit_out (n := (n : Int)) (by omega)).2]
      go_enter Tryd.func48, Tryd.ntmps48
      go_wp2
      go_ret2
      exact ⟨rfl, rfl⟩
  · rw [show sgn true n = -(n : Int) from rfl]
    by_cases h : n ≤ 9223372036854775808
    · rw [(fit_in (n := -(n : Int)) (by omega) (by omega)).1, (fit_in (n := -(n : Int)) (by omega) (by omega)).2]
      have e : wrap64 (IntKind.u64.wrap (-(n : Int))) = -(n : Int) := by rw [u64w]; unfold wrap64; omega
      have E := Lib.hid e
      clear e
      go_enter Tryd.func48, Tryd.ntmps48
      go_wp2
      go_ret2
      exact ⟨ret2i E.out rfl, rfl⟩
    · rw [(fit_out (n := -(n : Int)) (by omega)).1, (fit_out (n := -(n : Int)) (by omega)).2]
      go_enter Tryd.func48, Tryd.ntmps48
      go_wp2
      go_ret2
      exact ⟨rfl, rfl⟩
theorem sgn_neg (a : Int) : sgn (decide (0 ≤ a)) a.natAbs = -a := by
  unfold sgn
  by_cases h : 0 ≤ a
  · rw [if_pos (by simpa using h)]; omega
  · rw [if_neg (by simpa using h)]; omega
theorem nabs_mul (a b : Int) : a.natAbs * b.natAbs = (a * b).natAbs := (Int.natAbs_mul a b).symm
theorem sgn_mul (a b : Int) : sgn (decide (a < 0) != decide (b < 0)) (a.natAbs * b.natAbs) = a * b := by
  have e : ((a.natAbs * b.natAbs : Nat) : Int) = (a.natAbs : Int) * (b.natAbs : Int) := Int.natCast_mul _ _
  unfold sgn
  rcases Int.lt_or_le a 0 with h | h <;> rcases Int.lt_or_le b 0 with g | g
  · have ea : (a.natAbs : Int) = -a := by omega
    have eb : (b.natAbs : Int) = -b := by omega
    rw [if_neg (by simp [h, g]), e, ea, eb, Int.neg_mul_neg]
  · have ea : (a.natAbs : Int) = -a := by omega
    have eb : (b.natAbs : Int) = b := by omega
    rw [if_pos (by simp [h]; omega), e, ea, eb, Int.neg_mul, Int.neg_neg]
  · have ea : (a.natAbs : Int) = a := by omega
    have eb : (b.natAbs : Int) = -b := by omega
    rw [if_pos (by simp [g]; omega), e, ea, eb, Int.mul_neg, Int.neg_neg]
  · have ea : (a.natAbs : Int) = a := by omega
    have eb : (b.natAbs : Int) = b := by omega
    have h' : ¬ a < 0 := by omega
    have g' : ¬ b < 0 := by omega
    rw [if_neg (by simp [h', g']), e, ea, eb]
theorem big_out (a b : Int) (h : 18446744073709551616 ≤ a.natAbs * b.natAbs) : a * b < -9223372036854775808 ∨ 9223372036854775807 < a * b := by
  rw [nabs_mul] at h; omega
end Go.Proofs.YtdblkjcimegoeaaDoor
