/- The document's examples of layer 1 hold: awake answers true. No condition. -/
import Derived.Test.YtkppjchapiidpaaReadAll
import Derived.Test.YtkppjchapiidpaaShow
namespace Go.Proofs.Ytkppjchapiidpaa
open Go.RowKit
theorem aw1 (w : World) : Calls Try.prog 11 #[.int .i64 9223372036854775807, .int .i64 1] w fun e w' => e = .returned (.tuple #[.int .i64 0, .int .i64 14]) ∧ w' = w := by
  have h := add_c 9223372036854775807 1 ⟨by decide, by decide⟩ ⟨by decide, by decide⟩ w
  rwa [show fitV (9223372036854775807 + 1) = 0 from by decide +kernel, show fitE (9223372036854775807 + 1) = 14 from by decide +kernel] at h
theorem aw2 (w : World) : Calls Try.prog 15 #[.int .i64 (-3), .int .i64 4] w fun e w' => e = .returned (.tuple #[.int .i64 (-12), .int .i64 0]) ∧ w' = w := by
  have h := mul_c (-3) 4 ⟨by decide, by decide⟩ ⟨by decide, by decide⟩ w
  rwa [show fitV (-3 * 4) = -12 from by decide +kernel, show fitE (-3 * 4) = 0 from by decide +kernel] at h
theorem aw3 (w : World) : Calls Try.prog 19 #[.string ⟨#[45, 48]⟩] w fun e w' => e = .returned (.tuple #[.int .i64 0, .int .i64 10]) ∧ w' = w := by
  have h := read_c ⟨#[45, 48]⟩ (by decide) w
  rwa [show readV (ByteArray.mk #[45, 48]).data.toList = 0 from by decide +kernel, show readE (ByteArray.mk #[45, 48]).data.toList = 10 from by decide +kernel] at h
theorem aw4 (w : World) : Calls Try.prog 19 #[.string ⟨#[45, 57, 50, 50, 51, 51, 55, 50, 48, 51, 54, 56, 53, 52, 55, 55, 53, 56, 48, 56]⟩] w fun e w' => e = .returned (.tuple #[.int .i64 (-9223372036854775808), .int .i64 0]) ∧ w' = w := by
  have h := read_c ⟨#[45, 57, 50, 50, 51, 51, 55, 50, 48, 51, 54, 56, 53, 52, 55, 55, 53, 56, 48, 56]⟩ (by decide) w
  rwa [show readV (ByteArray.mk #[45, 57, 50, 50, 51, 51, 55, 50, 48, 51, 54, 56, 53, 52, 55, 55, 53, 56, 48, 56]).data.toList = -9223372036854775808 from by decide +kernel, show readE (ByteArray.mk #[45, 57, 50, 50, 51, 51, 55, 50, 48, 51, 54, 56, 53, 52, 55, 55, 53, 56, 48, 56]).data.toList = 0 from by decide +kernel] at h
theorem aw5 (w : World) : Calls Try.prog 13 #[.int .i64 5, .int .i64 7] w fun e w' => e = .returned (.tuple #[.int .i64 (-2), .int .i64 0]) ∧ w' = w := by
  have h := sub_c 5 7 ⟨by decide, by decide⟩ ⟨by decide, by decide⟩ w
  rwa [show fitV (5 - 7) = -2 from by decide +kernel, show fitE (5 - 7) = 0 from by decide +kernel] at h
theorem aw6 (w : World) : Calls Try.prog 17 #[.int .i64 (-9223372036854775808)] w fun e w' => e = .returned (.tuple #[.int .i64 0, .int .i64 14]) ∧ w' = w := by
  have h := neg_c (-9223372036854775808) ⟨by decide, by decide⟩ w
  rwa [show fitV (-(-9223372036854775808)) = 0 from by decide +kernel, show fitE (-(-9223372036854775808)) = 14 from by decide +kernel] at h
theorem aw7 (w : World) : Calls Try.prog 21 #[.int .i64 (-70)] w fun e w' => e = .returned (.string ⟨#[45, 55, 48]⟩) ∧ Grown w w' := by
  have h := show_c (-70) ⟨by decide, by decide⟩ w
  rwa [show showL (-70) = [45, 55, 48] from by decide +kernel] at h
set_option maxHeartbeats 800000 in
theorem awake_c (w : World) : Calls Try.prog 10 #[] w fun e w' => e = .returned (.bool true) ∧ Grown w w' := by
  go_enter Try.func10, Try.ntmps10
  go_wp2_with fail
  refine (aw1 _).mono ?_
  rintro e w' ⟨rfl, rfl⟩
  go_wp2_with fail
  refine (aw2 _).mono ?_
  rintro e w' ⟨rfl, rfl⟩
  go_wp2_with fail
  refine (aw3 _).mono ?_
  rintro e w' ⟨rfl, rfl⟩
  go_wp2_with fail
  refine (aw4 _).mono ?_
  rintro e w' ⟨rfl, rfl⟩
  go_wp2_with fail
  refine (aw5 _).mono ?_
  rintro e w' ⟨rfl, rfl⟩
  go_wp2_with fail
  refine (aw6 _).mono ?_
  rintro e w' ⟨rfl, rfl⟩
  go_wp2_with fail
  refine (aw7 _).mono ?_
  rintro e w1 ⟨rfl, hg⟩
  go_wp2_with fail
  go_ret
  exact ⟨rfl, hg⟩
end Go.Proofs.Ytkppjchapiidpaa
