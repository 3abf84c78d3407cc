/- Whether any text is a name, or several, is what the document says; what it holds in quotes is, too. Condition: the library's variable holds a number. -/
import Derived.Test.YtcckikaafjmolaaAwakeT
namespace Go.Proofs.Ytcckikaafjmolaa
open Go.RowKit
set_option maxHeartbeats 800000 in
theorem textsNames_walk (a0 : ByteArray) (w0 : a0.size ≤ maxLen) (w : World) (hm : Mx w) :
    Calls Try.prog 3 #[.string a0] w fun e w' => e = .returned (.bool true) ∧ Low w w' := by
  unfold maxLen at w0
  by_cases hl : 2000 < a0.size
  · have h2 : (2000 : Int) < (a0.size : Int) := by omega
    go_enter Try.func3, Try.ntmps3
    go_wp2_with fail
    refine (awakeT_c _ hm).mono ?_
    rintro e w1 ⟨rfl, l1⟩
    go_wp2_with fail
    go_ret
    exact ⟨rfl, l1⟩
  · have h2 : (a0.size : Int) ≤ 2000 := by omega
    go_enter Try.func3, Try.ntmps3
    go_wp2_with fail
    refine (awakeT_c _ hm).mono ?_
    rintro e w1 ⟨rfl, l1⟩
    go_wp2_with fail
    refine (name_c a0 (by omega) _).mono ?_
    rintro e w' ⟨rfl, rfl⟩
    go_wp2_with fail
    refine (refName_c a0 (by omega) _).mono ?_
    rintro e w' ⟨rfl, rfl⟩
    go_wp2_with fail
    refine (path_c a0 (by omega) _ (hm.low l1)).mono ?_
    rintro e w' ⟨rfl, n, rfl⟩
    go_wp2_with fail
    refine (refPath_c a0 (by omega) _).mono ?_
    rintro e w' ⟨rfl, rfl⟩
    go_wp2_with fail
    go_ret
    exact ⟨rfl, l1.trans (Low.drewN _ _)⟩
set_option maxHeartbeats 800000 in
theorem textsUnquotes_walk (a0 : ByteArray) (w0 : a0.size ≤ maxLen) (w : World) (hm : Mx w) :
    Calls Try.prog 5 #[.string a0] w fun e w' => e = .returned (.bool true) ∧ Low w w' := by
  unfold maxLen at w0
  by_cases hl : 2000 < a0.size
  · have h2 : (2000 : Int) < (a0.size : Int) := by omega
    go_enter Try.func5, Try.ntmps5
    go_wp2_with fail
    refine (awakeT_c _ hm).mono ?_
    rintro e w1 ⟨rfl, l1⟩
    go_wp2_with fail
    go_ret
    exact ⟨rfl, l1⟩
  · have h2 : (a0.size : Int) ≤ 2000 := by omega
    go_enter Try.func5, Try.ntmps5
    go_wp2_with fail
    refine (awakeT_c _ hm).mono ?_
    rintro e w1 ⟨rfl, l1⟩
    go_wp2_with fail
    refine (unquote_c a0 (by omega) _).mono ?_
    rintro e w2 ⟨rfl, l2⟩
    go_wp2_with fail
    refine (refUnq_c a0 (by omega) _).mono ?_
    rintro e w3 ⟨rfl, l3⟩
    go_wp2_with fail
    go_ret
    exact ⟨rfl, l1.trans (l2.trans l3)⟩
end Go.Proofs.Ytcckikaafjmolaa
