/- ints.Read: the number of a text's digits, or 10, or 14. No condition but the length that any string has. -/
import Derived.Test.YtdblkjcimegoeaaDoorTold
namespace Go.Proofs.YtdblkjcimegoeaaDoor
open Go.RowKit
theorem ext_datai (s : ByteArray) : (s.extract 1 s.size).data.toList = s.data.toList.tail := by
  rw [ByteArray.data_extract]; simp; rw [List.take_of_length_le (by simp)]
theorem ext_size (s : ByteArray) : (s.extract 1 s.size).size ≤ s.size := by
  rw [ByteArray.size_extract]; omega
theorem minus_yes {s : ByteArray} (h0 : 0 < s.size) (h : ((s[0].toNat : Int) == 45) = true) : isMinus s.data.toList = true ∧ afterSign s.data.toList = s.data.toList.tail := by
  have e : isMinus s.data.toList = true := by
    unfold isMinus
    rw [list_cons h0]
    simp at h
    simp [← UInt8.toNat_inj]; omega
  exact ⟨e, by unfold afterSign; rw [if_pos e]⟩
theorem minus_no {s : ByteArray} (h0 : 0 < s.size) (h : ((s[0].toNat : Int) == 45) = false) : isMinus s.data.toList = false ∧ afterSign s.data.toList = s.data.toList := by
  have e : isMinus s.data.toList = false := by
    unfold isMinus
    rw [list_cons h0]
    simp at h
    simp [← UInt8.toNat_inj]; omega
  exact ⟨e, by unfold afterSign; rw [if_neg (by simp [e])]⟩
theorem minus_nil {s : ByteArray} (h0 : s.size = 0) : isMinus s.data.toList = false ∧ afterSign s.data.toList = s.data.toList ∧ shownB false s.data.toList = false := by
  have e : s.data.toList = [] := List.eq_nil_of_length_eq_zero h0
  rw [e]; exact ⟨rfl, rfl, rfl⟩
theorem read_form {l : List UInt8} (h : shownB (isMinus l) (afterSign l) = false) : readV l = 0 ∧ readE l = 10 := by
  unfold readV readE; rw [if_neg (by simp [h]), if_neg (by simp [h])]; exact ⟨rfl, rfl⟩
theorem read_num {l : List UInt8} (h : shownB (isMinus l) (afterSign l) = true) : readV l = fitV (numOf l) ∧ readE l = fitE (numOf l) := by
  unfold readV readE; rw [if_pos h, if_pos h]; exact ⟨rfl, rfl⟩
theorem num_far {b : Bool} {n : Nat} (h : 18446744073709551615 < n) : fitV (sgn b n) = 0 ∧ fitE (sgn b n) = 14 := by
  apply fit_out
  unfold sgn
  split <;> omega
theorem shown_dig {b : Bool} {l : List UInt8} (h : shownB b l = true) : allDig l = true := by
  unfold shownB at h; simp at h; exact h.2
set_option maxHeartbeats 800000 in
theorem read_c (s : ByteArray) (hs : s.size ≤ 9223372036854775807) (w : World) :
    Calls Tryd.prog 38 #[.string s] w fun e w' => e = .returned (.tuple #[.int .i64 (readV s.data.toList), .int .i64 (readE s.data.toList)]) ∧ w' = w := by
  by_cases h0 : 0 < s.size
  · by_cases hm : ((s[0].toNat : Int) == 45) = true
    · obtain ⟨m1, m2⟩ := minus_yes h0 hm
      have he := ext_datai s
      have hz := ext_size s
      by_cases hsh : shownB true (s.extract 1 s.size).data.toList = true
      · obtain ⟨r1, r2⟩ := read_num (l := s.data.toList) (by rw [m1, m2, ← he]; exact hsh)
        rw [r1, r2]
        have hnum : numOf s.data.toList = sgn true (toldN (s.extract 1 s.size).data.toList) := by unfold numOf; rw [m1, m2, he]
        rw [hnum]
        have AD := Lib.hid (shown_dig hsh)
        have SH := Lib.hid hsh
        clear r1 r2 hnum m1 m2 he hsh
        obtain ⟨T, hT⟩ : ∃ T : Nat, toldN (s.extract 1 s.size).data.toList = T := ⟨_, rfl⟩
        rw [hT]
        by_cases ht : T ≤ 18446744073709551615
        · have T1 : Hid (toldV (toldN (s.extract 1 s.size).data.toList) = T) := Lib.hid (by rw [hT]; exact toldV_in ht)
          have T2 : Hid (toldF (toldN (s.extract 1 s.size).data.toList) = true) := Lib.hid (by rw [hT]; exact toldF_in ht)
          clear hT
          go_enter Tryd.func38, Tryd.ntmps38
          go_wp2_with fail
          refine (shown_c _ _ (by omega) _).mono ?_
          rintro e w' ⟨rfl, rfl⟩
          rw [SH.out]
          go_wp2_with fail
          refine (told_c _ (by omega) AD _).mono ?_
          rintro e w' ⟨rfl, rfl⟩
          rw [T1.out, T2.out]
          go_wp2_with fail
          refine (signed_c _ _ ht _).mono ?_
          rintro e w' ⟨rfl, rfl⟩
          go_wp2_with fail
          go_ret2
          exact ⟨rfl, rfl⟩
        · rw [(num_far (b := true) (by omega)).1, (num_far (b := true) (by omega)).2]
          have T2 : Hid (toldF (toldN (s.extract 1 s.size).data.toList) = false) := Lib.hid (by rw [hT]; exact toldF_out (by omega))
          clear hT
          go_enter Tryd.func38, Tryd.ntmps38
          go_wp2_with fail
          refine (shown_c _ _ (by omega) _).mono ?_
          rintro e w' ⟨rfl, rfl⟩
          rw [SH.out]
          go_wp2_with fail
          refine (told_c _ (by omega) AD _).mono ?_
          rintro e w' ⟨rfl, rfl⟩
          rw [T2.out]
          go_wp2_with fail
          go_ret2
          exact ⟨rfl, rfl⟩
      · have hsh' : shownB true (s.extract 1 s.size).data.toList = false := by simpa using hsh
        obtain ⟨r1, r2⟩ := read_form (l := s.data.toList) (by rw [m1, m2, ← he]; exact hsh')
        rw [r1, r2]
        have SH := Lib.hid hsh'
        clear r1 r2 m1 m2 he hsh hsh'
        go_enter Tryd.func38, Tryd.ntmps38
        go_wp2_with fail
        refine (shown_c _ _ (by omega) _).mono ?_
        rintro e w' ⟨rfl, rfl⟩
        rw [SH.out]
        go_wp2_with fail
        go_ret2
        exact ⟨rfl, rfl⟩
    · have hm : ((s[0].toNat : Int) == 45) = false := by simpa using hm
      obtain ⟨m1, m2⟩ := minus_no h0 hm
      by_cases hsh : shownB false s.data.toList = true
      · obtain ⟨r1, r2⟩ := read_num (l := s.data.toList) (by rw [m1, m2]; exact hsh)
        rw [r1, r2]
        have hnum : numOf s.data.toList = sgn false (toldN s.data.toList) := by unfold numOf; rw [m1, m2]
        rw [hnum]
        have AD := Lib.hid (shown_dig hsh)
        have SH := Lib.hid hsh
        clear r1 r2 hnum m1 m2 hsh
        obtain ⟨T, hT⟩ : ∃ T : Nat, toldN s.data.toList = T := ⟨_, rfl⟩
        rw [hT]
        by_cases ht : T ≤ 18446744073709551615
        · have T1 : Hid (toldV (toldN s.data.toList) = T) := Lib.hid (by rw [hT]; exact toldV_in ht)
          have T2 : Hid (toldF (toldN s.data.toList) = true) := Lib.hid (by rw [hT]; exact toldF_in ht)
          clear hT
          go_enter Tryd.func38, Tryd.ntmps38
          go_wp2_with fail
          refine (shown_c _ _ (by omega) _).mono ?_
          rintro e w' ⟨rfl, rfl⟩
          rw [SH.out]
          go_wp2_with fail
          refine (told_c _ (by omega) AD _).mono ?_
          rintro e w' ⟨rfl, rfl⟩
          rw [T1.out, T2.out]
          go_wp2_with fail
          refine (signed_c _ _ ht _).mono ?_
          rintro e w' ⟨rfl, rfl⟩
          go_wp2_with fail
          go_ret2
          exact ⟨rfl, rfl⟩
        · rw [(num_far (b := false) (by omega)).1, (num_far (b := false) (by omega)).2]
          have T2 : Hid (toldF (toldN s.data.toList) = false) := Lib.hid (by rw [hT]; exact toldF_out (by omega))
          clear hT
          go_enter Tryd.func38, Tryd.ntmps38
          go_wp2_with fail
          refine (shown_c _ _ (by omega) _).mono ?_
          rintro e w' ⟨rfl, rfl⟩
          rw [SH.out]
          go_wp2_with fail
          refine (told_c _ (by omega) AD _).mono ?_
          rintro e w' ⟨rfl, rfl⟩
          rw [T2.out]
          go_wp2_with fail
          go_ret2
          exact ⟨rfl, rfl⟩
      · have hsh' : shownB false s.data.toList = false := by simpa using hsh
        obtain ⟨r1, r2⟩ := read_form (l := s.data.toList) (by rw [m1, m2]; exact hsh')
        rw [r1, r2]
        have SH := Lib.hid hsh'
        clear r1 r2 m1 m2 hsh hsh'
        go_enter Tryd.func38, Tryd.ntmps38
        go_wp2_with fail
        refine (shown_c _ _ (by omega) _).mono ?_
        rintro e w' ⟨rfl, rfl⟩
        rw [SH.out]
        go_wp2_with fail
        go_ret2
        exact ⟨rfl, rfl⟩
  · obtain ⟨m1, m2, m3⟩ := minus_nil (s := s) (by omega)
    obtain ⟨r1, r2⟩ := read_form (l := s.data.toList) (by rw [m1, m2]; exact m3)
    rw [r1, r2]
    have SH := Lib.hid m3
    clear r1 r2 m1 m2 m3
    go_enter Tryd.func38, Tryd.ntmps38
    go_wp2_with fail
    refine (shown_c _ _ (by omega) _).mono ?_
    rintro e w' ⟨rfl, rfl⟩
    rw [SH.out]
    go_wp2_with fail
    go_ret2
    exact ⟨rfl, rfl⟩
end Go.Proofs.YtdblkjcimegoeaaDoor
