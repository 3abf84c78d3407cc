/- The number of any text is the document's, or refused as it says. No condition. -/
import Derived.Test.YtkppjchapiidpaaRefRead
import Derived.Test.YtkppjchapiidpaaAwake
namespace Go.Proofs.Ytkppjchapiidpaa
open Go.RowKit
set_option maxHeartbeats 400000 in
theorem intsReads_walk (a0 : ByteArray) (w0 : a0.size ≤ maxLen) (w : World) :
    Calls Try.prog 5 #[.string a0] w fun e w' => e = .returned (.bool true) ∧ Grown w w' := by
  unfold maxLen at w0
  by_cases h : 300 < a0.size
  · go_enter Try.func5, Try.ntmps5
    go_wp2_with fail
    refine (awake_c _).mono ?_
    rintro e w1 ⟨rfl, h1⟩
    go_wp2_with fail
    go_ret
    exact ⟨rfl, h1⟩
  · go_enter Try.func5, Try.ntmps5
    go_wp2_with fail
    refine (awake_c _).mono ?_
    rintro e w1 ⟨rfl, h1⟩
    go_wp2_with fail
    refine (read_c a0 w0 _).mono ?_
    rintro e w' ⟨rfl, rfl⟩
    go_wp2_with fail
    refine (refRead_c a0 w0 _).mono ?_
    rintro e w2 ⟨rfl, h2⟩
    go_wp2_with fail
    go_ret
    exact ⟨rfl, grown_trans h1 h2⟩
end Go.Proofs.Ytkppjchapiidpaa
