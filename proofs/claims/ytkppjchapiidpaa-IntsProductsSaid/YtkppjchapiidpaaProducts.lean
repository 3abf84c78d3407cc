/- Any two numbers' product, and any number's opposite, are the document's, or refused as it says. No condition. -/
import Derived.Test.YtkppjchapiidpaaRefMul
namespace Go.Proofs.Ytkppjchapiidpaa
open Go.RowKit
set_option maxHeartbeats 400000 in
theorem intsProducts_walk (a0 : Int) (a1 : Int) (w0 : (Lit.int .i64 a0).wf = true) (w1 : (Lit.int .i64 a1).wf = true) (w : World) :
    Calls Try.prog 4 #[.int .i64 a0, .int .i64 a1] w fun e w' => e = .returned (.bool true) ∧ Grown w w' := by
  have ha : InR a0 := bounds_i64 w0
  have hb : InR a1 := bounds_i64 w1
  go_enter Try.func4, Try.ntmps4
  go_wp2_with fail
  refine (awake_c _).mono ?_
  rintro e w1 ⟨rfl, h1⟩
  go_wp2_with fail
  refine (mul_c a0 a1 ha hb _).mono ?_
  rintro e w' ⟨rfl, rfl⟩
  go_wp2_with fail
  refine (refMul_c a0 a1 ha hb _).mono ?_
  rintro e w2 ⟨rfl, h2⟩
  go_wp2_with fail
  refine (neg_c a0 ha _).mono ?_
  rintro e w' ⟨rfl, rfl⟩
  go_wp2_with fail
  refine (refNeg_c a0 ha _).mono ?_
  rintro e w3 ⟨rfl, h3⟩
  go_wp2_with fail
  go_ret
  exact ⟨rfl, grown_trans (grown_trans h1 h2) h3⟩
end Go.Proofs.Ytkppjchapiidpaa
