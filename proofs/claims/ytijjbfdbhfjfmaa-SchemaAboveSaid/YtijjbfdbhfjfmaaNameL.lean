/- The small tests of bytes: texts.letter, texts.digit and the reference's. No condition. -/
import Derived.Test.YtijjbfdbhfjfmaaNameP
import Derived.Test.YtijjbfdbhfjfmaaChecked
import Derived.Lib.Hide
namespace Go.Proofs.Ytijjbfdbhfjfmaa
open Go.RowKit
theorem retBN {a b : Bool} (h : a = b) : Ending.returned (.bool a) = .returned (.bool b) := by rw [h]
theorem u8_ltN (c : UInt8) : (c.toNat : Int) < 256 := by have := c.toNat_lt; omega
set_option maxHeartbeats 400000 in
theorem digit_c (c : UInt8) (w : World) : Calls Try.prog 62 #[.int .u8 c.toNat] w fun e w' => e = .returned (.bool (digB c)) ∧ w = w' := by
  by_cases h1 : 48 ≤ (c.toNat : Int)
  · by_cases h2 : (c.toNat : Int) ≤ 57
    all_goals
      have E : Hid (digB c = decide ((c.toNat : Int) ≤ 57)) := by show _ = _; unfold digB; simp only [h1, h2, true_and]
      go_enter Try.func62, Try.ntmps62
      go_wp2
      go_ret
      exact ⟨retBN (by rw [E.out]; simp [h2]), rfl⟩
  · have E : Hid (digB c = false) := by show _ = _; unfold digB; simp only [h1, false_and, decide_false]
    go_enter Try.func62, Try.ntmps62
    go_wp2
    go_ret
    exact ⟨retBN (by rw [E.out]), rfl⟩
set_option maxHeartbeats 400000 in
theorem letter_c (c : UInt8) (w : World) : Calls Try.prog 63 #[.int .u8 c.toNat] w fun e w' => e = .returned (.bool (letB c)) ∧ w = w' := by
  by_cases h1 : 97 ≤ (c.toNat : Int) <;> by_cases h2 : (c.toNat : Int) ≤ 122 <;> by_cases h3 : 65 ≤ (c.toNat : Int) <;> by_cases h4 : (c.toNat : Int) ≤ 90 <;> first | (exfalso; omega) | skip
  all_goals
    have E : Hid (letB c = (decide (97 ≤ (c.toNat : Int)) && decide ((c.toNat : Int) ≤ 122) || decide (65 ≤ (c.toNat : Int)) && decide ((c.toNat : Int) ≤ 90))) := by show _ = _; unfold letB; simp only [h1, h2, h3, h4]; decide
    go_enter Try.func63, Try.ntmps63
    go_wp2
    go_ret
    exact ⟨retBN (by rw [E.out]; simp [h1, h2, h3, h4]), rfl⟩
set_option maxHeartbeats 400000 in
theorem refDigit_c (c : UInt8) (w : World) : Calls Try.prog 57 #[.int .u8 c.toNat] w fun e w' => e = .returned (.bool (digB c)) ∧ w = w' := by
  by_cases h1 : 48 ≤ (c.toNat : Int)
  · by_cases h2 : (c.toNat : Int) ≤ 57
    all_goals
      have E : Hid (digB c = decide ((c.toNat : Int) ≤ 57)) := by show _ = _; unfold digB; simp only [h1, h2, true_and]
      go_enter Try.func57, Try.ntmps57
      go_wp2
      go_ret
      exact ⟨retBN (by rw [E.out]; simp [h2]), rfl⟩
  · have E : Hid (digB c = false) := by show _ = _; unfold digB; simp only [h1, false_and, decide_false]
    go_enter Try.func57, Try.ntmps57
    go_wp2
    go_ret
    exact ⟨retBN (by rw [E.out]), rfl⟩
set_option maxHeartbeats 800000 in
theorem refLetter_c (c : UInt8) (w : World) : Calls Try.prog 58 #[.int .u8 c.toNat] w fun e w' => e = .returned (.bool (letR c)) ∧ w = w' := by
  have hq : (c == 95) = decide ((c.toNat : Int) = 95) := by rw [Bool.eq_iff_iff]; simp [← UInt8.toNat_inj]; omega
  by_cases h1 : 97 ≤ (c.toNat : Int) <;> by_cases h2 : (c.toNat : Int) ≤ 122 <;> by_cases h3 : 65 ≤ (c.toNat : Int) <;> by_cases h4 : (c.toNat : Int) ≤ 90 <;> by_cases h5 : ((c.toNat : Int) == 95) = true <;> first | (exfalso; simp at h5; omega) | (exfalso; omega) | skip
  all_goals
    have E : Hid (letR c = (decide (97 ≤ (c.toNat : Int)) && decide ((c.toNat : Int) ≤ 122) || decide (65 ≤ (c.toNat : Int)) && decide ((c.toNat : Int) ≤ 90) || ((c.toNat : Int) == 95))) := by
      show _ = _; unfold letR letB; rw [hq]; simp only [h1, h2, h3, h4]; first | (simp only [h5]; simp at h5; simp [h5]) | (simp at h5; simp [h5])
    try simp only [Bool.not_eq_true] at h5
    clear hq
    go_enter Try.func58, Try.ntmps58
    go_wp2
    go_ret
    exact ⟨retBN (by rw [E.out]; simp [h1, h2, h3, h4, h5]), rfl⟩
theorem namB_r (c : UInt8) : namB c = (letR c || digB c) := by unfold namB letR; cases letB c <;> cases digB c <;> simp
end Go.Proofs.Ytijjbfdbhfjfmaa
