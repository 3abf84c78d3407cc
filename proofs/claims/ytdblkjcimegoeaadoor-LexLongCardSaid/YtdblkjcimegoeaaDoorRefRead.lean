/- The document's Read: the number of a text's digits, or 10, or 14. No condition but the length that any string has. -/
import Derived.Test.YtdblkjcimegoeaaDoorRefReadF
namespace Go.Proofs.YtdblkjcimegoeaaDoor
open Go.RowKit
set_option maxHeartbeats 400000 in
theorem refRead_none (s : ByteArray) (h : s.size = 0) (w : World) :
    Calls Tryd.prog 30 #[.string s] w fun e w' => e = .returned (.tuple #[.int .i64 0, .int .i64 10]) ∧ Grown w w' := by
  have q1 : decide (0 < (s.size : Int)) = false := decide_eq_false (by omega)
  have q2 : decide (0 < s.size) = false := decide_eq_false (by omega)
  have q3 : ((0 : Int) == (s.size : Int)) = true := by rw [beq_iff_eq]; omega
  clear h
  go_enter Tryd.func30, Tryd.ntmps30
  go_wp2
  go_ret2
  exact ⟨rfl, Grown.refl _⟩
set_option maxHeartbeats 400000 in
theorem refRead_minus (s : ByteArray) (h0 : 0 < s.size) (h1 : s.size ≤ 1) (hm : ((s[0].toNat : Int) == 45) = true) (w : World) :
    Calls Tryd.prog 30 #[.string s] w fun e w' => e = .returned (.tuple #[.int .i64 0, .int .i64 10]) ∧ Grown w w' := by
  have q3 : ((1 : Int) == (s.size : Int)) = true := by rw [beq_iff_eq]; omega
  go_enter Tryd.func30, Tryd.ntmps30
  go_wp2
  go_ret2
  exact ⟨rfl, Grown.refl _⟩
set_option maxHeartbeats 400000 in
theorem refRead_nought (s : ByteArray) (h0 : 1 < s.size) (hm : ((s[0].toNat : Int) == 45) = false) (hc : ((s[0].toNat : Int) == 48) = true) (w : World) :
    Calls Tryd.prog 30 #[.string s] w fun e w' => e = .returned (.tuple #[.int .i64 0, .int .i64 10]) ∧ Grown w w' := by
  have q3 : ((0 : Int) == (s.size : Int)) = false := by rw [beq_eq_false_iff_ne]; omega
  have q4 : decide (1 < (s.size : Int)) = true := decide_eq_true (by omega)
  go_enter Tryd.func30, Tryd.ntmps30
  go_wp2
  go_ret2
  exact ⟨rfl, Grown.refl _⟩
set_option maxHeartbeats 400000 in
theorem refRead_less (s : ByteArray) (h0 : 1 < s.size) (hm : ((s[0].toNat : Int) == 45) = true) (hc : ((s[1].toNat : Int) == 48) = true) (w : World) :
    Calls Tryd.prog 30 #[.string s] w fun e w' => e = .returned (.tuple #[.int .i64 0, .int .i64 10]) ∧ Grown w w' := by
  have q3 : ((1 : Int) == (s.size : Int)) = false := by rw [beq_eq_false_iff_ne]; omega
  have q4 : decide (1 < (s.size : Int)) = true := decide_eq_true (by omega)
  go_enter Tryd.func30, Tryd.ntmps30
  go_wp2
  go_ret2
  exact ⟨rfl, Grown.refl _⟩
theorem headOk_one (s : ByteArray) (h : 1 < s.size) : headOk true (s.data.toList.drop 1) = !(decide ((s[1].toNat : Int) = 48)) := by
  have hl : 1 < s.data.toList.length := h
  rw [List.drop_eq_getElem_cons hl]
  show (!(s.data.toList[1] == 48 && (true || _))) = _
  have e : s.data.toList[1] = s[1] := rfl
  rw [e, Bool.true_or, Bool.and_true]
  congr 1
  rw [Bool.eq_iff_iff]; simp [← UInt8.toNat_inj]; omega
theorem head_bad {s : ByteArray} {f : Nat} {b : Bool} (hM : isMinus s.data.toList = b) (hA : afterSign s.data.toList = s.data.toList.drop f) (hH : headOk b (s.data.toList.drop f) = false) : readV s.data.toList = 0 ∧ readE s.data.toList = 10 := by
  apply read_form
  rw [hM, hA]; unfold shownB; rw [hH, Bool.false_and]
theorem refRead_c (s : ByteArray) (hs : s.size ≤ 9223372036854775807) (w : World) :
    Calls Tryd.prog 30 #[.string s] w fun e w' => e = .returned (.tuple #[.int .i64 (readV s.data.toList), .int .i64 (readE s.data.toList)]) ∧ Grown w w' := by
  by_cases h0 : 0 < s.size
  · by_cases hm : ((s[0].toNat : Int) == 45) = true
    · obtain ⟨m1, m2⟩ := minus_yes h0 hm
      have m2' : afterSign s.data.toList = s.data.toList.drop 1 := by rw [m2]; simp
      by_cases h1 : 1 < s.size
      · have hh := headOk_one s h1
        by_cases hc : ((s[1].toNat : Int) == 48) = true
        · have hk : headOk true (s.data.toList.drop 1) = false := by rw [hh]; simp at hc; simp [hc]
          rw [(head_bad m1 m2' hk).1, (head_bad m1 m2' hk).2]
          exact refRead_less s h1 hm hc w
        · have hc : ((s[1].toNat : Int) == 48) = false := by simpa using hc
          have hk : headOk true (s.data.toList.drop 1) = true := by rw [hh]; simp at hc; simp [hc]
          exact read_go2 s hs h1 hm hc (Lib.hid m1) (Lib.hid m2') (Lib.hid hk) w
      · have hk : headOk true (s.data.toList.drop 1) = false := by
          rw [List.drop_of_length_le (show s.data.toList.length ≤ 1 from by show s.size ≤ 1; omega)]; rfl
        rw [(head_bad m1 m2' hk).1, (head_bad m1 m2' hk).2]
        exact refRead_minus s h0 (by omega) hm w
    · have hm : ((s[0].toNat : Int) == 45) = false := by simpa using hm
      obtain ⟨m1, m2⟩ := minus_no h0 hm
      have m2' : afterSign s.data.toList = s.data.toList.drop 0 := by rw [m2]; rfl
      have hh := headOk_eq false s h0
      by_cases hc : ((s[0].toNat : Int) == 48) = true
      · by_cases h1 : 1 < s.size
        · have hk : headOk false (s.data.toList.drop 0) = false := by rw [List.drop_zero, hh]; simp at hc; simp [hc, h1]
          rw [(head_bad m1 m2' hk).1, (head_bad m1 m2' hk).2]
          exact refRead_nought s h1 hm hc w
        · have hk : headOk false (s.data.toList.drop 0) = true := by rw [List.drop_zero, hh]; simp; omega
          exact read_go1 s hs h0 hm hc (by omega) (Lib.hid m1) (Lib.hid m2') (Lib.hid hk) w
      · have hc : ((s[0].toNat : Int) == 48) = false := by simpa using hc
        have hk : headOk false (s.data.toList.drop 0) = true := by rw [List.drop_zero, hh]; simp at hc; simp [hc]
        exact read_go0 s hs h0 hm hc (Lib.hid m1) (Lib.hid m2') (Lib.hid hk) w
  · obtain ⟨m1, m2, m3⟩ := minus_nil (s := s) (by omega)
    obtain ⟨r1, r2⟩ := read_form (l := s.data.toList) (by rw [m1, m2]; exact m3)
    rw [r1, r2]
    exact refRead_none s (by omega) w
end Go.Proofs.YtdblkjcimegoeaaDoor
