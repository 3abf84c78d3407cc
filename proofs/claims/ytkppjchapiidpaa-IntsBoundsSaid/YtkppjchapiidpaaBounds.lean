/- Near to the greatest number, and to the least one, sums and differences are told just as far as they go. No condition. -/
import Derived.Test.YtkppjchapiidpaaTurned
namespace Go.Proofs.Ytkppjchapiidpaa
open Go.RowKit
set_option maxHeartbeats 1000000 in
theorem bounds_fine (x y : Int) (hx : 0 ≤ x) (hx2 : x ≤ 4294967295) (hy : 0 ≤ y) (hf : y ≤ x) (w : World) :
    Calls Try.prog 8 #[.int .u32 x, .int .u32 y] w fun e w' => e = .returned (.bool true) ∧ Grown w w' := by
  go_enter Try.func8, Try.ntmps8
  go_wp2_with fail
  refine (awake_c _).mono ?_
  rintro e w1 ⟨rfl, hg⟩
  go_wp2_with fail
  refine (add_is _ _ (9223372036854775807 - (x - y)) ⟨by omega, by omega⟩ ⟨by omega, by omega⟩ ⟨by omega, by omega⟩ (by omega) _).mono ?_
  rintro e w' ⟨rfl, rfl⟩
  go_wp2_with fail
  refine (sub_is _ _ (-9223372036854775808 + (x - y)) ⟨by omega, by omega⟩ ⟨by omega, by omega⟩ ⟨by omega, by omega⟩ (by omega) _).mono ?_
  rintro e w' ⟨rfl, rfl⟩
  go_wp2_with fail
  refine (add_is _ _ (-9223372036854775808 + (x - y)) ⟨by omega, by omega⟩ ⟨by omega, by omega⟩ ⟨by omega, by omega⟩ (by omega) _).mono ?_
  rintro e w' ⟨rfl, rfl⟩
  go_wp2_with fail
  refine (sub_is _ _ (9223372036854775807 - (x - y)) ⟨by omega, by omega⟩ ⟨by omega, by omega⟩ ⟨by omega, by omega⟩ (by omega) _).mono ?_
  rintro e w' ⟨rfl, rfl⟩
  go_wp2_with fail
  go_ret
  exact ⟨rfl, hg⟩
set_option maxHeartbeats 1000000 in
theorem bounds_over (x y : Int) (hx : 0 ≤ x) (hx2 : x ≤ 4294967295) (hy : 0 ≤ y) (hy2 : y ≤ 4294967295) (hf : x < y) (w : World) :
    Calls Try.prog 8 #[.int .u32 x, .int .u32 y] w fun e w' => e = .returned (.bool true) ∧ Grown w w' := by
  have hq : decide (y ≤ x) = false := decide_eq_false (by omega)
  go_enter Try.func8, Try.ntmps8
  go_wp2_with fail
  refine (awake_c _).mono ?_
  rintro e w1 ⟨rfl, hg⟩
  go_wp2_with fail
  refine (add_out _ _ ⟨by omega, by omega⟩ ⟨by omega, by omega⟩ (fun h => by unfold InR at h; omega) _).mono ?_
  rintro e w' ⟨rfl, rfl⟩
  go_wp2_with fail
  refine (sub_out _ _ ⟨by omega, by omega⟩ ⟨by omega, by omega⟩ (fun h => by unfold InR at h; omega) _).mono ?_
  rintro e w' ⟨rfl, rfl⟩
  go_wp2_with fail
  refine (add_out _ _ ⟨by omega, by omega⟩ ⟨by omega, by omega⟩ (fun h => by unfold InR at h; omega) _).mono ?_
  rintro e w' ⟨rfl, rfl⟩
  go_wp2_with fail
  refine (sub_out _ _ ⟨by omega, by omega⟩ ⟨by omega, by omega⟩ (fun h => by unfold InR at h; omega) _).mono ?_
  rintro e w' ⟨rfl, rfl⟩
  go_wp2_with fail
  go_ret
  exact ⟨rfl, hg⟩
theorem intsBounds_walk (a0 : Int) (a1 : Int) (w0 : (Lit.int .u32 a0).wf = true) (w1 : (Lit.int .u32 a1).wf = true) (w : World) :
    Calls Try.prog 8 #[.int .u32 a0, .int .u32 a1] w fun e w' => e = .returned (.bool true) ∧ Grown w w' := by
  have ha := bounds_u32 w0
  have hb := bounds_u32 w1
  by_cases h : a1 ≤ a0
  · exact bounds_fine a0 a1 ha.1 ha.2 hb.1 h w
  · exact bounds_over a0 a1 ha.1 ha.2 hb.1 hb.2 (by omega) w
end Go.Proofs.Ytkppjchapiidpaa
