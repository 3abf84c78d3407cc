/- The document's examples of layer 2 hold: awake answers true. Condition: the library's variable holds a number. -/
import Derived.Test.YtcckikaafjmolaaUnqS
namespace Go.Proofs.Ytcckikaafjmolaa
open Go.RowKit
theorem at1 (w : World) : Calls Try.prog 14 #[.string ⟨#[34, 92, 120, 54, 49, 34]⟩] w fun e w' => e = .returned (.tuple #[.string ⟨#[]⟩, .int .i64 10]) ∧ Low w w' := by
  have h := unquote_c ⟨#[34, 92, 120, 54, 49, 34]⟩ (by decide) w
  rwa [show unqT (ByteArray.mk #[34, 92, 120, 54, 49, 34]).data.toList = [] from by decide +kernel, show unqE (ByteArray.mk #[34, 92, 120, 54, 49, 34]).data.toList = 10 from by decide +kernel] at h
theorem at2 (w : World) : Calls Try.prog 14 #[.string ⟨#[34, 97, 92, 34, 92, 120, 48, 97, 34]⟩] w fun e w' => e = .returned (.tuple #[.string ⟨#[97, 34, 10]⟩, .int .i64 0]) ∧ Low w w' := by
  have h := unquote_c ⟨#[34, 97, 92, 34, 92, 120, 48, 97, 34]⟩ (by decide) w
  rwa [show unqT (ByteArray.mk #[34, 97, 92, 34, 92, 120, 48, 97, 34]).data.toList = [97, 34, 10] from by decide +kernel, show unqE (ByteArray.mk #[34, 97, 92, 34, 92, 120, 48, 97, 34]).data.toList = 0 from by decide +kernel] at h
theorem at3 (w : World) : Calls Try.prog 13 #[.string ⟨#[97, 34, 10]⟩] w fun e w' => e = .returned (.string ⟨#[34, 97, 92, 34, 92, 120, 48, 97, 34]⟩) ∧ Low w w' := by
  have h := quote_c ⟨#[97, 34, 10]⟩ (by decide) w
  rwa [show quoteL (ByteArray.mk #[97, 34, 10]).data.toList = [34, 97, 92, 34, 92, 120, 48, 97, 34] from by decide +kernel] at h
theorem at4 (w : World) : Calls Try.prog 9 #[.string ⟨#[97, 49, 95]⟩] w fun e w' => e = .returned (.bool true) ∧ w = w' := by
  have h := name_c ⟨#[97, 49, 95]⟩ (by decide) w
  rwa [show nameB (ByteArray.mk #[97, 49, 95]).data.toList = true from by decide +kernel] at h
theorem at5 (w : World) : Calls Try.prog 9 #[.string ⟨#[49, 97]⟩] w fun e w' => e = .returned (.bool false) ∧ w = w' := by
  have h := name_c ⟨#[49, 97]⟩ (by decide) w
  rwa [show nameB (ByteArray.mk #[49, 97]).data.toList = false from by decide +kernel] at h
theorem at6 (w : World) (hm : Mx w) : Calls Try.prog 11 #[.string ⟨#[65, 58, 58, 98]⟩] w fun e w' => e = .returned (.bool true) ∧ ∃ n, w' = w.drewN n := by
  have h := path_c ⟨#[65, 58, 58, 98]⟩ (by decide) w hm
  rwa [show pathB (ByteArray.mk #[65, 58, 58, 98]).data.toList = true from by decide +kernel] at h
theorem at7 (w : World) (hm : Mx w) : Calls Try.prog 11 #[.string ⟨#[65, 58, 58]⟩] w fun e w' => e = .returned (.bool false) ∧ ∃ n, w' = w.drewN n := by
  have h := path_c ⟨#[65, 58, 58]⟩ (by decide) w hm
  rwa [show pathB (ByteArray.mk #[65, 58, 58]).data.toList = false from by decide +kernel] at h
set_option maxHeartbeats 800000 in
theorem awakeT_c (w : World) (hm : Mx w) : Calls Try.prog 8 #[] w fun e w' => e = .returned (.bool true) ∧ Low w w' := by
  go_enter Try.func8, Try.ntmps8
  go_wp2_with fail
  refine (at1 _).mono ?_
  rintro e w1 ⟨rfl, l1⟩
  go_wp2_with fail
  refine (at2 _).mono ?_
  rintro e w2 ⟨rfl, l2⟩
  go_wp2_with fail
  refine (at3 _).mono ?_
  rintro e w3 ⟨rfl, l3⟩
  have L := l1.trans (l2.trans l3)
  have hm3 := hm.low L
  go_wp2_with fail
  refine (at4 _).mono ?_
  rintro e w' ⟨rfl, rfl⟩
  go_wp2_with fail
  refine (at5 _).mono ?_
  rintro e w' ⟨rfl, rfl⟩
  go_wp2_with fail
  refine (at6 _ hm3).mono ?_
  rintro e w' ⟨rfl, n, rfl⟩
  go_wp2_with fail
  refine (at7 _ (hm3.drewN n)).mono ?_
  rintro e w' ⟨rfl, m, rfl⟩
  go_wp2_with fail
  go_ret
  exact ⟨rfl, L.trans (Low.drewN _ _)⟩
end Go.Proofs.Ytcckikaafjmolaa
