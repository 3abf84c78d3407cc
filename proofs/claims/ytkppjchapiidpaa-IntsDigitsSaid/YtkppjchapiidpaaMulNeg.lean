/- ints.Mul and ints.Neg: the product and the opposite, or 14. No condition but that the arguments are 64-bit numbers. -/
import Derived.Test.YtkppjchapiidpaaAddSub
import Derived.Test.YtkppjchapiidpaaText
import Derived.Test.YtkppjchapiidpaaShelf
import Derived.Lib.Hide
namespace Go.Proofs.Ytkppjchapiidpaa
open Go.RowKit
theorem ret1 {k : IntKind} {a b : Int} (h : a = b) : Ending.returned (.int k a) = .returned (.int k b) := by rw [h]
theorem ret2 {k l : IntKind} {a b c d : Int} (h : a = b) (g : c = d) : Ending.returned (.tuple #[.int k a, .int l c]) = .returned (.tuple #[.int k b, .int l d]) := by rw [h, g]
theorem u64w (a : Int) : IntKind.u64.wrap a = a % 18446744073709551616 := IntKind.wrap_u64 a
theorem i64w (a : Int) : IntKind.i64.wrap a = (a + 9223372036854775808) % 18446744073709551616 - 9223372036854775808 := IntKind.wrap_i64 a
set_option maxHeartbeats 400000 in
theorem size_c (a : Int) (ha : InR a) (w : World) :
    Calls Try.prog 27 #[.int .i64 a] w fun e w' => e = .returned (.int .u64 (a.natAbs : Int)) ∧ w' = w := by
  obtain ⟨ha1, ha2⟩ := ha
  by_cases h : a < 0
  · have e : (a.natAbs : Int) = IntKind.u64.wrap (-(IntKind.u64.wrap a)) := by rw [u64w, u64w]; omega
    have E := Lib.hid e
    clear e
    go_enter Try.func27, Try.ntmps27
    go_wp2
    go_ret
    exact ⟨ret1 E.out.symm, rfl⟩
  · have e : (a.natAbs : Int) = a := by omega
    have E := Lib.hid e
    clear e
    have ha0 : 0 ≤ a := by omega
    go_enter Try.func27, Try.ntmps27
    go_wp2
    go_ret
    exact ⟨ret1 E.out.symm, rfl⟩
set_option maxHeartbeats 400000 in
theorem signed_c (b : Bool) (n : Nat) (hn : n ≤ 18446744073709551615) (w : World) :
    Calls Try.prog 28 #[.bool b, .int .u64 (n : Int)] w fun e w' => e = .returned (.tuple #[.int .i64 (fitV (sgn b n)), .int .i64 (fitE (sgn b n))]) ∧ w' = w := by
  cases b
  · rw [show sgn false n = (n : Int) from rfl]
    by_cases h : n ≤ 9223372036854775807
    · rw [(fit_in (n := (n : Int)) (by omega) (by omega)).1, (fit_in (n := (n : Int)) (by omega) (by omega)).2]
      go_enter Try.func28, Try.ntmps28
      go_wp2
      go_ret2
      exact ⟨rfl, rfl⟩
    · rw [(fit_out (n := (n : Int)) (by omega)).1, (fit_out (n := (n : Int)) (by omega)).2]
      go_enter Try.func28, Try.ntmps28
      go_wp2
      go_ret2
      exact ⟨rfl, rfl⟩
  · rw [show sgn true n = -(n : Int) from rfl]
    by_cases h : n ≤ 9223372036854775808
    · rw [(fit_in (n := -(n : Int)) (by omega) (by omega)).1, (fit_in (n := -(n : Int)) (by omega) (by omega)).2]
      have e : wrap64 (IntKind.u64.wrap (-(n : Int))) = -(n : Int) := by rw [u64w]; unfold wrap64; omega
      have E := Lib.hid e
      clear e
      go_enter Try.func28, Try.ntmps28
      go_wp2
      go_ret2
      exact ⟨ret2 E.out rfl, rfl⟩
    · rw [(fit_out (n := -(n : Int)) (by omega)).1, (fit_out (n := -(n : Int)) (by omega)).2]
      go_enter Try.func28, Try.ntmps28
      go_wp2
      go_ret2
      exact ⟨rfl, rfl⟩
theorem sgn_neg (a : Int) : sgn (decide (0 ≤ a)) a.natAbs = -a := by
  unfold sgn
  by_cases h : 0 ≤ a
  · rw [if_pos (by simpa using h)]; omega
  · rw [if_neg (by simpa using h)]; omega
theorem neg_c (a : Int) (ha : InR a) (w : World) :
    Calls Try.prog 17 #[.int .i64 a] w fun e w' => e = .returned (.tuple #[.int .i64 (fitV (-a)), .int .i64 (fitE (-a))]) ∧ w' = w := by
  rw [← sgn_neg a]
  go_enter Try.func17, Try.ntmps17
  go_wp2_with fail
  refine (size_c a ha _).mono ?_
  rintro e w' ⟨rfl, rfl⟩
  go_wp2_with fail
  refine (signed_c _ _ (by unfold InR at ha; omega) _).mono ?_
  rintro e w' ⟨rfl, rfl⟩
  go_wp2
  go_ret2
  exact ⟨rfl, rfl⟩
theorem nabs_mul (a b : Int) : a.natAbs * b.natAbs = (a * b).natAbs := (Int.natAbs_mul a b).symm
theorem sgn_mul (a b : Int) : sgn (decide (a < 0) != decide (b < 0)) (a.natAbs * b.natAbs) = a * b := by
  have e : ((a.natAbs * b.natAbs : Nat) : Int) = (a.natAbs : Int) * (b.natAbs : Int) := Int.natCast_mul _ _
  unfold sgn
  rcases Int.lt_or_le a 0 with h | h <;> rcases Int.lt_or_le b 0 with g | g
  · have ea : (a.natAbs : Int) = -a := by omega
    have eb : (b.natAbs : Int) = -b := by omega
    rw [if_neg (by simp [h, g]), e, ea, eb, Int.neg_mul_neg]
  · have ea : (a.natAbs : Int) = -a := by omega
    have eb : (b.natAbs : Int) = b := by omega
    rw [if_pos (by simp [h]; omega), e, ea, eb, Int.neg_mul, Int.neg_neg]
  · have ea : (a.natAbs : Int) = a := by omega
    have eb : (b.natAbs : Int) = -b := by omega
    rw [if_pos (by simp [g]; omega), e, ea, eb, Int.mul_neg, Int.neg_neg]
  · have ea : (a.natAbs : Int) = a := by omega
    have eb : (b.natAbs : Int) = b := by omega
    have h' : ¬ a < 0 := by omega
    have g' : ¬ b < 0 := by omega
    rw [if_neg (by simp [h', g']), e, ea, eb]
theorem big_out (a b : Int) (h : 18446744073709551616 ≤ a.natAbs * b.natAbs) : a * b < -9223372036854775808 ∨ 9223372036854775807 < a * b := by
  rw [nabs_mul] at h; omega
set_option maxHeartbeats 400000 in
theorem mul_c (a b : Int) (ha : InR a) (hb : InR b) (w : World) :
    Calls Try.prog 15 #[.int .i64 a, .int .i64 b] w fun e w' => e = .returned (.tuple #[.int .i64 (fitV (a * b)), .int .i64 (fitE (a * b))]) ∧ w' = w := by
  by_cases h : 18446744073709551616 ≤ a.natAbs * b.natAbs
  · have ho := big_out a b h
    rw [(fit_out ho).1, (fit_out ho).2]
    clear ho
    have hq : (((a.natAbs * b.natAbs / 18446744073709551616 : Nat) : Int) == 0) = false := by rw [beq_eq_false_iff_ne]; omega
    have hh := Lib.hid h
    clear h
    go_enter Try.func15, Try.ntmps15
    go_wp2_with fail
    refine (size_c a ha _).mono ?_
    rintro e w' ⟨rfl, rfl⟩
    go_wp2_with fail
    refine (size_c b hb _).mono ?_
    rintro e w' ⟨rfl, rfl⟩
    go_wp2_with fail
    refine (Try.bits_Mul64 _ _ (by unfold InR at ha; omega) (by unfold InR at hb; omega) _).mono ?_
    rintro e w' ⟨rfl, rfl⟩
    go_wp2_with fail
    go_ret2
    exact ⟨rfl, rfl⟩
  · have hz : a.natAbs * b.natAbs / 18446744073709551616 = 0 := by omega
    have hm : a.natAbs * b.natAbs % 18446744073709551616 = a.natAbs * b.natAbs := by omega
    rw [← sgn_mul a b]
    have hh := Lib.hid h
    have hz := Lib.hid hz
    have hm := Lib.hid hm
    clear h
    go_enter Try.func15, Try.ntmps15
    go_wp2_with fail
    refine (size_c a ha _).mono ?_
    rintro e w' ⟨rfl, rfl⟩
    go_wp2_with fail
    refine (size_c b hb _).mono ?_
    rintro e w' ⟨rfl, rfl⟩
    go_wp2_with fail
    refine (Try.bits_Mul64 _ _ (by unfold InR at ha; omega) (by unfold InR at hb; omega) _).mono ?_
    rintro e w' ⟨rfl, rfl⟩
    rw [hz.out, hm.out]
    go_wp2_with fail
    refine (signed_c _ _ (by have := hh.out; omega) _).mono ?_
    rintro e w' ⟨rfl, rfl⟩
    go_wp2
    go_ret2
    exact ⟨rfl, rfl⟩
end Go.Proofs.Ytkppjchapiidpaa
