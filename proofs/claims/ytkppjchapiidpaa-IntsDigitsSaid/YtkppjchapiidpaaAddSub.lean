/- ints.Add and ints.Sub: the sum and the difference, or 14. No condition but that the arguments are 64-bit numbers. -/
import Derived.Test.YtkppjchapiidpaaPlain
import Derived.Test.YtkppjchapiidpaaRows
import Derived.Handy
import Derived.Outline
namespace Go.Proofs.Ytkppjchapiidpaa
open Go.RowKit
theorem fit_out {n : Int} (h : n < -9223372036854775808 ∨ 9223372036854775807 < n) : fitV n = 0 ∧ fitE n = 14 :=
  ⟨fitV_out (fun k => by unfold InR at k; omega), fitE_out (fun k => by unfold InR at k; omega)⟩
theorem fit_in {n : Int} (h1 : -9223372036854775808 ≤ n) (h2 : n ≤ 9223372036854775807) : fitV n = n ∧ fitE n = 0 := ⟨fitV_in ⟨h1, h2⟩, fitE_in ⟨h1, h2⟩⟩
set_option maxHeartbeats 400000 in
theorem add_c (a b : Int) (ha : InR a) (hb : InR b) (w : World) :
    Calls Try.prog 11 #[.int .i64 a, .int .i64 b] w fun e w' => e = .returned (.tuple #[.int .i64 (fitV (a + b)), .int .i64 (fitE (a + b))]) ∧ w' = w := by
  obtain ⟨ha1, ha2⟩ := ha
  obtain ⟨hb1, hb2⟩ := hb
  by_cases h1 : 9223372036854775807 < a + b
  · have hw := wrap_up h1 (by omega)
    rw [(fit_out (.inr h1)).1, (fit_out (.inr h1)).2]
    have q1 : decide (a < 0) = false := decide_eq_false (by omega)
    have q2 : decide (b < 0) = false := decide_eq_false (by omega)
    have q3 : a + b - 18446744073709551616 < 0 := by omega
    go_enter Try.func11, Try.ntmps11
    go_wp2
    go_ret2
    exact ⟨rfl, rfl⟩
  · by_cases h2 : a + b < -9223372036854775808
    · have hw := wrap_dn h2 (by omega)
      rw [(fit_out (.inl h2)).1, (fit_out (.inl h2)).2]
      have q1 : a < 0 := by omega
      have q2 : b < 0 := by omega
      have q3 : decide (a + b + 18446744073709551616 < 0) = false := decide_eq_false (by omega)
      go_enter Try.func11, Try.ntmps11
      go_wp2
      go_ret2
      exact ⟨rfl, rfl⟩
    · have g1 : -9223372036854775808 ≤ a + b := by omega
      have g2 : a + b ≤ 9223372036854775807 := by omega
      clear h1 h2
      rw [(fit_in g1 g2).1, (fit_in g1 g2).2]
      by_cases q1 : a < 0 <;> by_cases q2 : b < 0 <;> by_cases q3 : a + b < 0 <;> first | (exfalso; omega) | skip
      all_goals
        go_enter Try.func11, Try.ntmps11
        go_wp2
        go_ret2
        exact ⟨rfl, rfl⟩
set_option maxHeartbeats 400000 in
theorem sub_c (a b : Int) (ha : InR a) (hb : InR b) (w : World) :
    Calls Try.prog 13 #[.int .i64 a, .int .i64 b] w fun e w' => e = .returned (.tuple #[.int .i64 (fitV (a - b)), .int .i64 (fitE (a - b))]) ∧ w' = w := by
  obtain ⟨ha1, ha2⟩ := ha
  obtain ⟨hb1, hb2⟩ := hb
  by_cases h1 : 9223372036854775807 < a - b
  · have hw := wrap_up h1 (by omega)
    rw [(fit_out (.inr h1)).1, (fit_out (.inr h1)).2]
    have q1 : decide (a < 0) = false := decide_eq_false (by omega)
    have q2 : b < 0 := by omega
    have q3 : a - b - 18446744073709551616 < 0 := by omega
    go_enter Try.func13, Try.ntmps13
    go_wp2
    go_ret2
    exact ⟨rfl, rfl⟩
  · by_cases h2 : a - b < -9223372036854775808
    · have hw := wrap_dn h2 (by omega)
      rw [(fit_out (.inl h2)).1, (fit_out (.inl h2)).2]
      have q1 : a < 0 := by omega
      have q2 : decide (b < 0) = false := decide_eq_false (by omega)
      have q3 : decide (a - b + 18446744073709551616 < 0) = false := decide_eq_false (by omega)
      go_enter Try.func13, Try.ntmps13
      go_wp2
      go_ret2
      exact ⟨rfl, rfl⟩
    · have g1 : -9223372036854775808 ≤ a - b := by omega
      have g2 : a - b ≤ 9223372036854775807 := by omega
      clear h1 h2
      rw [(fit_in g1 g2).1, (fit_in g1 g2).2]
      by_cases q1 : a < 0 <;> by_cases q2 : b < 0 <;> by_cases q3 : a - b < 0 <;> first | (exfalso; omega) | skip
      all_goals
        go_enter Try.func13, Try.ntmps13
        go_wp2
        go_ret2
        exact ⟨rfl, rfl⟩
end Go.Proofs.Ytkppjchapiidpaa
