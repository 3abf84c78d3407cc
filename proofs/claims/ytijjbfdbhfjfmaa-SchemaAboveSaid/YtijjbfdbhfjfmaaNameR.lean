/- The reference's Name: is a text a name? Condition: the length that any string has. -/
import Derived.Test.YtijjbfdbhfjfmaaNameW
namespace Go.Proofs.Ytijjbfdbhfjfmaa
open Go.RowKit
set_option maxHeartbeats 800000 in
theorem refName_c (s : ByteArray) (hs : s.size ≤ 9223372036854775807) (w : World) :
    Calls Try.prog 47 #[.string s] w fun e w' => e = .returned (.bool (nameB s.data.toList)) ∧ w = w' := by
  by_cases h0 : 0 < s.size
  · have hz : ((s.size : Int) == 0) = false := by rw [beq_eq_false_iff_ne]; omega
    cases hd : digB s[0] with
    | true =>
      have E := Lib.hid (name_dig (l := s.data.toList) (by simpa using h0) hd)
      have D := Lib.hid hd
      clear hd
      go_enter Try.func47, Try.ntmps47
      go_wp2_with fail
      refine (refDigit_c _ _).mono ?_
      rintro e w' ⟨rfl, rfl⟩
      rw [D.out]
      go_wp2
      go_ret
      exact ⟨retBN E.out.symm, rfl⟩
    | false =>
      have E := Lib.hid (name_all (l := s.data.toList) (by simpa using h0) hd)
      have D := Lib.hid hd
      clear hd
      go_enter Try.func47, Try.ntmps47
      go_wp2_with fail
      refine (refDigit_c _ _).mono ?_
      rintro e w' ⟨rfl, rfl⟩
      rw [D.out]
      go_wp2_with fail
      go_loop [3] (fun i => ∃ k : Nat, k ≤ s.size ∧ i = .int .i64 k ∧ OkTo s k) (fun i => s.size - (intOf i).toNat)
      case atStart => exact ⟨0, Nat.zero_le _, rfl, rfl⟩
      case round =>
        obtain ⟨k, hk, rfl, hok⟩ := hrel
        by_cases hlt : k < s.size
        · obtain ⟨c, hc⟩ : ∃ c, s[k] = c := ⟨_, rfl⟩
          have HC := Lib.hid hc
          have N1 := fun h => ok_next hlt hok (by rw [hc]; exact h)
          have N2 := fun h => ok_not hlt (by rw [hc]; exact h)
          clear hc
          cases hl : letR c with
          | true =>
            have NX := Lib.hid (N1 (by rw [namB_r, hl]; rfl))
            have HL := Lib.hid hl
            clear hl N1 N2
            go_wp2_with fail
            rw [HC.out]
            refine (refLetter_c _ _).mono ?_
            rintro e w' ⟨rfl, rfl⟩
            rw [HL.out]
            go_wp2_with fail
            go_round
            case rel => exact ⟨k + 1, by omega, by go_num, NX.out⟩
            case measure => simp [intOf]; omega
          | false =>
            cases hg : digB c with
            | true =>
              have NX := Lib.hid (N1 (by rw [namB_r, hl, hg]; rfl))
              have HL := Lib.hid hl
              have HG := Lib.hid hg
              clear hl hg N1 N2
              go_wp2_with fail
              rw [HC.out]
              refine (refLetter_c _ _).mono ?_
              rintro e w' ⟨rfl, rfl⟩
              rw [HL.out]
              go_wp2_with fail
              rw [HC.out]
              refine (refDigit_c _ _).mono ?_
              rintro e w' ⟨rfl, rfl⟩
              rw [HG.out]
              go_wp2_with fail
              go_round
              case rel => exact ⟨k + 1, by omega, by go_num, NX.out⟩
              case measure => simp [intOf]; omega
            | false =>
              have NX := Lib.hid (N2 (by rw [namB_r, hl, hg]; rfl))
              have HL := Lib.hid hl
              have HG := Lib.hid hg
              clear hl hg N1 N2
              go_wp2_with fail
              rw [HC.out]
              refine (refLetter_c _ _).mono ?_
              rintro e w' ⟨rfl, rfl⟩
              rw [HL.out]
              go_wp2_with fail
              rw [HC.out]
              refine (refDigit_c _ _).mono ?_
              rintro e w' ⟨rfl, rfl⟩
              rw [HG.out]
              go_wp2_with fail
              go_ret
              exact ⟨retBN (by rw [E.out, NX.out]), rfl⟩
        · have NX := Lib.hid (ok_end (s := s) (k := k) (by omega) hok)
          go_wp2_with fail
          go_ret
          exact ⟨retBN (by rw [E.out, NX.out]), rfl⟩
  · have hz : ((s.size : Int) == 0) = true := by rw [beq_iff_eq]; omega
    have E : Hid (nameB s.data.toList = false) := by
      show _ = _
      rw [show s.data.toList = [] from List.eq_nil_of_length_eq_zero (show s.size = 0 by omega)]; rfl
    go_enter Try.func47, Try.ntmps47
    go_wp2
    go_ret
    exact ⟨retBN E.out.symm, rfl⟩
end Go.Proofs.Ytijjbfdbhfjfmaa
