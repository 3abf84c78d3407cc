/- Any two numbers' sum and difference are the document's, or refused as it says. No condition. -/
import Derived.Test.YtkppjchapiidpaaRefAdd
namespace Go.Proofs.Ytkppjchapiidpaa
open Go.RowKit
set_option maxHeartbeats 400000 in
theorem intsSums_walk (a0 : Int) (a1 : Int) (w0 : (Lit.int .i64 a0).wf = true) (w1 : (Lit.int .i64 a1).wf = true) (w : World) :
    Calls Try.prog 3 #[.int .i64 a0, .int .i64 a1] w fun e w' => e = .returned (.bool true) ∧ Grown w w' := by
  have ha : InR a0 := bounds_i64 w0
  have hb : InR a1 := bounds_i64 w1
  go_enter Try.func3, Try.ntmps3
  go_wp2_with fail
  refine (awake_c _).mono ?_
  rintro e w1 ⟨rfl, h1⟩
  go_wp2_with fail
  refine (add_c a0 a1 ha hb _).mono ?_
  rintro e w' ⟨rfl, rfl⟩
  go_wp2_with fail
  refine (refAdd_c a0 a1 ha hb _).mono ?_
  rintro e w2 ⟨rfl, h2⟩
  go_wp2_with fail
  refine (sub_c a0 a1 ha hb _).mono ?_
  rintro e w' ⟨rfl, rfl⟩
  go_wp2_with fail
  refine (refSub_c a0 a1 ha hb _).mono ?_
  rintro e w3 ⟨rfl, h3⟩
  go_wp2_with fail
  go_ret
  exact ⟨rfl, grown_trans (grown_trans h1 h2) h3⟩
end Go.Proofs.Ytkppjchapiidpaa
