/- Plain names: which rows of bytes are a name, and which are several with two colons between. No condition. The small tests of bytes: texts.letter, texts.digit and the reference's. No condition. texts.Name and the reference's: is a text a name? Condition: the length that any string has. The reference's Name: is a text a name? Condition: the length that any string has. -/
import Derived.WalkKit
import Derived.Test.YtijjbfdbhfjfmaaChecked
import Derived.Lib.Hide
import Derived.Test.YtijjbfdbhfjfmaaLow
import Derived.WalkLawsBesides
import Derived.WalkSpells
namespace Go.Proofs.Ytijjbfdbhfjfmaa
def digB (c : UInt8) : Bool := decide (48 ≤ (c.toNat : Int) ∧ (c.toNat : Int) ≤ 57)
def letB (c : UInt8) : Bool := decide (97 ≤ (c.toNat : Int) ∧ (c.toNat : Int) ≤ 122 ∨ 65 ≤ (c.toNat : Int) ∧ (c.toNat : Int) ≤ 90)
def namB (c : UInt8) : Bool := letB c || digB c || c == 95
def letR (c : UInt8) : Bool := letB c || c == 95
def nameB (l : List UInt8) : Bool := match l with
  | [] => false
  | c :: r => !digB c && (c :: r).all namB
/-- Names with two colons between; 'acc': what stands ahead, of the name at hand. -/
def pathS (acc : List UInt8) : List UInt8 → Bool
  | [] => nameB acc
  | [c] => nameB (acc ++ [c])
  | c :: d :: r => if c == 58 && d == 58 then nameB acc && pathS [] r else pathS (acc ++ [c]) (d :: r)
def pathB (l : List UInt8) : Bool := pathS [] l
theorem pathS_colons (acc r : List UInt8) : pathS acc (58 :: 58 :: r) = (nameB acc && pathS [] r) := by
  simp [pathS]
theorem pathS_other (acc : List UInt8) (c : UInt8) (l : List UInt8) (h : ¬ (c = 58 ∧ l.head? = some 58)) : pathS acc (c :: l) = pathS (acc ++ [c]) l := by
  cases l with
  | nil => simp [pathS]
  | cons d r =>
    have h' : (c == 58 && d == 58) = false := by
      rw [Bool.eq_false_iff]; intro e
      simp at e
      exact h ⟨e.1, by simp [e.2]⟩
    rw [pathS, h']
    simp
theorem all_take {l : List UInt8} {k : Nat} (h : k < l.length) (hn : (l.take k).all namB = true) (hc : namB l[k] = true) : (l.take (k + 1)).all namB = true := by
  rw [List.take_succ_eq_append_getElem h, List.all_append, hn]; simp [hc]
theorem all_not {l : List UInt8} {k : Nat} (h : k < l.length) (hc : namB l[k] = false) : l.all namB = false := by
  rw [List.all_eq_false]; exact ⟨_, List.getElem_mem h, by simp [hc]⟩
theorem name_dig {l : List UInt8} (h : 0 < l.length) (hd : digB l[0] = true) : nameB l = false := by
  cases l with
  | nil => rfl
  | cons c r => simp at hd; simp [nameB, hd]
theorem name_all {l : List UInt8} (h : 0 < l.length) (hd : digB l[0] = false) : nameB l = l.all namB := by
  cases l with
  | nil => simp at h
  | cons c r => simp at hd; simp [nameB, hd]
/-- Where the first two colons stand, names are parted. -/
theorem pathS_none (acc l : List UInt8) (h : ∀ i, i + 1 < l.length → ¬ (l[i]? = some 58 ∧ l[i + 1]? = some 58)) : pathS acc l = nameB (acc ++ l) := by
  induction l generalizing acc with
  | nil => simp [pathS]
  | cons c r ih =>
    rw [pathS_other, ih]
    · simp
    · intro i hi
      have := h (i + 1) (by simp; omega)
      simpa using this
    · intro ⟨e1, e2⟩
      cases r with
      | nil => simp at e2
      | cons d r => exact h 0 (by simp) (by simp at e2; simpa using ⟨e1, e2⟩)
theorem pathS_at (k : Nat) : ∀ (acc l : List UInt8), k + 1 < l.length → (∀ i, i < k → ¬ (l[i]? = some 58 ∧ l[i + 1]? = some 58)) → l[k]? = some 58 → l[k + 1]? = some 58 →
    pathS acc l = (nameB (acc ++ l.take k) && pathB (l.drop (k + 2))) := by
  induction k with
  | zero =>
    intro acc l hl _ h1 h2
    match l, hl with
    | c :: d :: r, _ =>
      simp at h1 h2
      subst h1 h2
      rw [pathS_colons]; simp [pathB]
  | succ k ih =>
    intro acc l hl hn h1 h2
    match l, hl with
    | c :: r, hl =>
      rw [pathS_other, ih]
      · simp
      · simp at hl; omega
      · intro i hi
        have := hn (i + 1) (by omega)
        simpa using this
      · simpa using h1
      · simpa using h2
      · intro ⟨e1, e2⟩
        have := hn 0 (by omega)
        cases r with
        | nil => simp at e2
        | cons d r => exact this (by simp at e2; simpa using ⟨e1, e2⟩)
end Go.Proofs.Ytijjbfdbhfjfmaa
namespace Go.Proofs.Ytijjbfdbhfjfmaa
open Go.RowKit
theorem retBN {a b : Bool} (h : a = b) : Ending.returned (.bool a) = .returned (.bool b) := by rw [h]
theorem u8_ltN (c : UInt8) : (c.toNat : Int) < 256 := by have := c.toNat_lt; omega
set_option maxHeartbeats 400000 in
theorem digit_c (c : UInt8) (w : World) : Calls Try.prog 62 #[.int .u8 c.toNat] w fun e w' => e = .returned (.bool (digB c)) ∧ w = w' := by
  by_cases h1 : 48 ≤ (c.toNat : Int)
  · by_cases h2 : (c.toNat : Int) ≤ 57
    all_goals
      have E : Hid (digB c = decide ((c.toNat : Int) ≤ 57)) := by show _ = _; unfold digB; simp only [h1, h2, true_and]
      go_enter Try.func62, Try.ntmps62
      go_wp2
      go_ret
      exact ⟨retBN (by rw [E.out]; simp [h2]), rfl⟩
  · have E : Hid (digB c = false) := by show _ = _; unfold digB; simp only [h1, false_and, decide_false]
    go_enter Try.func62, Try.ntmps62
    go_wp2
    go_ret
    exact ⟨retBN (by rw [E.out]), rfl⟩
set_option maxHeartbeats 400000 in
theorem letter_c (c : UInt8) (w : World) : Calls Try.prog 63 #[.int .u8 c.toNat] w fun e w' => e = .returned (.bool (letB c)) ∧ w = w' := by
  by_cases h1 : 97 ≤ (c.toNat : Int) <;> by_cases h2 : (c.toNat : Int) ≤ 122 <;> by_cases h3 : 65 ≤ (c.toNat : Int) <;> by_cases h4 : (c.toNat : Int) ≤ 90 <;> first | (exfalso; omega) | skip
  all_goals
    have E : Hid (letB c = (decide (97 ≤ (c.toNat : Int)) && decide ((c.toNat : Int) ≤ 122) || decide (65 ≤ (c.toNat : Int)) && decide ((c.toNat : Int) ≤ 90))) := by show _ = _; unfold letB; simp only [h1, h2, h3, h4]; decide
    go_enter Try.func63, Try.ntmps63
    go_wp2
    go_ret
    exact ⟨retBN (by rw [E.out]; simp [h1, h2, h3, h4]), rfl⟩
set_option maxHeartbeats 400000 in
theorem refDigit_c (c : UInt8) (w : World) : Calls Try.prog 57 #[.int .u8 c.toNat] w fun e w' => e = .returned (.bool (digB c)) ∧ w = w' := by
  by_cases h1 : 48 ≤ (c.toNat : Int)
  · by_cases h2 : (c.toNat : Int) ≤ 57
    all_goals
      have E : Hid (digB c = decide ((c.toNat : Int) ≤ 57)) := by show _ = _; unfold digB; simp only [h1, h2, true_and]
      go_enter Try.func57, Try.ntmps57
      go_wp2
      go_ret
      exact ⟨retBN (by rw [E.out]; simp [h2]), rfl⟩
  · have E : Hid (digB c = false) := by show _ = _; unfold digB; simp only [h1, false_and, decide_false]
    go_enter Try.func57, Try.ntmps57
    go_wp2
    go_ret
    exact ⟨retBN (by rw [E.out]), rfl⟩
set_option maxHeartbeats 800000 in
theorem refLetter_c (c : UInt8) (w : World) : Calls Try.prog 58 #[.int .u8 c.toNat] w fun e w' => e = .returned (.bool (letR c)) ∧ w = w' := by
  have hq : (c == 95) = decide ((c.toNat : Int) = 95) := by rw [Bool.eq_iff_iff]; simp [← UInt8.toNat_inj]; omega
  by_cases h1 : 97 ≤ (c.toNat : Int) <;> by_cases h2 : (c.toNat : Int) ≤ 122 <;> by_cases h3 : 65 ≤ (c.toNat : Int) <;> by_cases h4 : (c.toNat : Int) ≤ 90 <;> by_cases h5 : ((c.toNat : Int) == 95) = true <;> first | (exfalso; simp at h5; omega) | (exfalso; omega) | skip
  all_goals
    have E : Hid (letR c = (decide (97 ≤ (c.toNat : Int)) && decide ((c.toNat : Int) ≤ 122) || decide (65 ≤ (c.toNat : Int)) && decide ((c.toNat : Int) ≤ 90) || ((c.toNat : Int) == 95))) := by
      show _ = _; unfold letR letB; rw [hq]; simp only [h1, h2, h3, h4]; first | (simp only [h5]; simp at h5; simp [h5]) | (simp at h5; simp [h5])
    try simp only [Bool.not_eq_true] at h5
    clear hq
    go_enter Try.func58, Try.ntmps58
    go_wp2
    go_ret
    exact ⟨retBN (by rw [E.out]; simp [h1, h2, h3, h4, h5]), rfl⟩
theorem namB_r (c : UInt8) : namB c = (letR c || digB c) := by unfold namB letR; cases letB c <;> cases digB c <;> simp
end Go.Proofs.Ytijjbfdbhfjfmaa
namespace Go.Proofs.Ytijjbfdbhfjfmaa
open Go.RowKit
theorem ne_list {d : ByteArray} (h : 0 < d.size) : d.toList.isEmpty = false ∧ ¬ d.toList = [] := by
  rw [ByteArray.toList_eq]
  have : d.data.toList ≠ [] := fun e => by
    have := congrArg List.length e
    simp at this
    rw [this] at h; exact absurd h (by decide)
  exact ⟨by simpa using this, this⟩
def OkTo (s : ByteArray) (k : Nat) : Prop := (s.data.toList.take k).all namB = true
theorem ok_next {s : ByteArray} {k : Nat} (h : k < s.size) (ho : OkTo s k) (hc : namB s[k] = true) : OkTo s (k + 1) := all_take (by simpa using h) ho hc
theorem ok_not {s : ByteArray} {k : Nat} (h : k < s.size) (hc : namB s[k] = false) : s.data.toList.all namB = false := all_not (k := k) (by simpa using h) hc
theorem ok_end {s : ByteArray} {k : Nat} (h : s.size ≤ k) (ho : OkTo s k) : s.data.toList.all namB = true := by
  unfold OkTo at ho; rwa [List.take_of_length_le (by simpa using h)] at ho
theorem byte_ne {c : UInt8} {n : UInt8} (h : (c == n) = false) : ((c.toNat : Int) == (n.toNat : Int)) = false := by
  rw [beq_eq_false_iff_ne] at *; intro e; exact h (UInt8.toNat_inj.1 (by omega))
theorem byte_eq {c : UInt8} {n : UInt8} (h : (c == n) = true) : ((c.toNat : Int) == (n.toNat : Int)) = true := by
  rw [beq_iff_eq] at *; rw [h]
set_option maxHeartbeats 800000 in
theorem name_c (s : ByteArray) (hs : s.size ≤ 9223372036854775807) (w : World) :
    Calls Try.prog 52 #[.string s] w fun e w' => e = .returned (.bool (nameB s.data.toList)) ∧ w = w' := by
  by_cases h0 : 0 < s.size
  · obtain ⟨g1, g2⟩ := ne_list h0
    cases hd : digB s[0] with
    | true =>
      have E := Lib.hid (name_dig (l := s.data.toList) (by simpa using h0) hd)
      have D := Lib.hid hd
      clear hd
      go_enter Try.func52, Try.ntmps52
      go_wp2_with fail
      refine (digit_c _ _).mono ?_
      rintro e w' ⟨rfl, rfl⟩
      rw [D.out]
      go_wp2
      go_ret
      exact ⟨retBN E.out.symm, rfl⟩
    | false =>
      have E := Lib.hid (name_all (l := s.data.toList) (by simpa using h0) hd)
      have D := Lib.hid hd
      clear hd
      go_enter Try.func52, Try.ntmps52
      go_wp2_with fail
      refine (digit_c _ _).mono ?_
      rintro e w' ⟨rfl, rfl⟩
      rw [D.out]
      go_wp2_with fail
      go_loop [3, 13] (fun _ i => ∃ k : Nat, k ≤ s.size ∧ i = .int .i64 k ∧ OkTo s k) (fun _ i => s.size - (intOf i).toNat)
      case atStart => exact ⟨0, Nat.zero_le _, rfl, rfl⟩
      case round =>
        obtain ⟨k, hk, rfl, hok⟩ := hrel
        by_cases hlt : k < s.size
        · obtain ⟨c, hc⟩ : ∃ c, s[k] = c := ⟨_, rfl⟩
          have HC := Lib.hid hc
          have N1 := fun h => ok_next hlt hok (by rw [hc]; exact h)
          have N2 := fun h => ok_not hlt (by rw [hc]; exact h)
          clear hc
          cases hl : letB c with
          | true =>
            have NX := Lib.hid (N1 (by unfold namB; rw [hl]; rfl))
            have HL := Lib.hid hl
            clear hl N1 N2
            go_wp2_with fail
            rw [HC.out]
            refine (letter_c _ _).mono ?_
            rintro e w' ⟨rfl, rfl⟩
            rw [HL.out]
            go_wp2_with fail
            go_round
            case rel => exact ⟨k + 1, by omega, by go_num, NX.out⟩
            case measure => simp [intOf]; omega
          | false =>
            cases hg : digB c with
            | true =>
              have NX := Lib.hid (N1 (by unfold namB; rw [hl, hg]; rfl))
              have HL := Lib.hid hl
              have HG := Lib.hid hg
              clear hl hg N1 N2
              go_wp2_with fail
              rw [HC.out]
              refine (letter_c _ _).mono ?_
              rintro e w' ⟨rfl, rfl⟩
              rw [HL.out]
              go_wp2_with fail
              rw [HC.out]
              refine (digit_c _ _).mono ?_
              rintro e w' ⟨rfl, rfl⟩
              rw [HG.out]
              go_wp2_with fail
              go_round
              case rel => exact ⟨k + 1, by omega, by go_num, NX.out⟩
              case measure => simp [intOf]; omega
            | false =>
              cases hu : c == 95 with
              | true =>
                have NX := Lib.hid (N1 (by unfold namB; rw [hl, hg, hu]; rfl))
                have HL := Lib.hid hl
                have HG := Lib.hid hg
                have hu1 : ((s[k].toNat : Int) == 95) = true := by have := byte_eq hu; rw [HC.out]; exact this
                have hu2 : ((s[k].toNat : Int) != 95) = false := by unfold bne; rw [hu1]; rfl
                clear hl hg N1 N2 hu
                go_wp2_with fail
                rw [HC.out]
                refine (letter_c _ _).mono ?_
                rintro e w' ⟨rfl, rfl⟩
                rw [HL.out]
                go_wp2_with fail
                rw [HC.out]
                refine (digit_c _ _).mono ?_
                rintro e w' ⟨rfl, rfl⟩
                rw [HG.out]
                go_wp2_with fail
                go_round
                case rel => exact ⟨k + 1, by omega, by go_num, NX.out⟩
                case measure => simp [intOf]; omega
              | false =>
                have NX := Lib.hid (N2 (by unfold namB; rw [hl, hg, hu]; rfl))
                have HL := Lib.hid hl
                have HG := Lib.hid hg
                have hu1 : ((s[k].toNat : Int) == 95) = false := by have := byte_ne hu; rw [HC.out]; exact this
                have hu2 : ((s[k].toNat : Int) != 95) = true := by unfold bne; rw [hu1]; rfl
                clear hl hg N1 N2 hu
                go_wp2_with fail
                rw [HC.out]
                refine (letter_c _ _).mono ?_
                rintro e w' ⟨rfl, rfl⟩
                rw [HL.out]
                go_wp2_with fail
                rw [HC.out]
                refine (digit_c _ _).mono ?_
                rintro e w' ⟨rfl, rfl⟩
                rw [HG.out]
                go_wp2_with fail
                go_ret
                exact ⟨retBN (by rw [E.out, NX.out]), rfl⟩
        · have NX := Lib.hid (ok_end (s := s) (k := k) (by omega) hok)
          go_wp2_with fail
          go_ret
          exact ⟨retBN (by rw [E.out, NX.out]), rfl⟩
  · have h1 : s.toList = [] := by rw [ByteArray.toList_eq]; exact List.eq_nil_of_length_eq_zero (show s.size = 0 by omega)
    have h2 : s.toList.isEmpty = true := by rw [h1]; rfl
    have E : Hid (nameB s.data.toList = false) := by
      show _ = _
      rw [show s.data.toList = [] from List.eq_nil_of_length_eq_zero (show s.size = 0 by omega)]; rfl
    clear h1
    go_enter Try.func52, Try.ntmps52
    go_wp2
    go_ret
    exact ⟨retBN E.out.symm, rfl⟩
end Go.Proofs.Ytijjbfdbhfjfmaa
namespace Go.Proofs.Ytijjbfdbhfjfmaa
open Go.RowKit
set_option maxHeartbeats 800000 in
theorem refName_c (s : ByteArray) (hs : s.size ≤ 9223372036854775807) (w : World) :
    Calls Try.prog 47 #[.string s] w fun e w' => e = .returned (.bool (nameB s.data.toList)) ∧ w = w' := by
  by_cases h0 : 0 < s.size
  · have hz : ((s.size : Int) == 0) = false := by rw [beq_eq_false_iff_ne]; omega
    cases hd : digB s[0] with
    | true =>
      have E := Lib.hid (name_dig (l := s.data.toList) (by simpa using h0) hd)
      have D := Lib.hid hd
      clear hd
      go_enter Try.func47, Try.ntmps47
      go_wp2_with fail
      refine (refDigit_c _ _).mono ?_
      rintro e w' ⟨rfl, rfl⟩
      rw [D.out]
      go_wp2
      go_ret
      exact ⟨retBN E.out.symm, rfl⟩
    | false =>
      have E := Lib.hid (name_all (l := s.data.toList) (by simpa using h0) hd)
      have D := Lib.hid hd
      clear hd
      go_enter Try.func47, Try.ntmps47
      go_wp2_with fail
      refine (refDigit_c _ _).mono ?_
      rintro e w' ⟨rfl, rfl⟩
      rw [D.out]
      go_wp2_with fail
      go_loop [3] (fun i => ∃ k : Nat, k ≤ s.size ∧ i = .int .i64 k ∧ OkTo s k) (fun i => s.size - (intOf i).toNat)
      case atStart => exact ⟨0, Nat.zero_le _, rfl, rfl⟩
      case round =>
        obtain ⟨k, hk, rfl, hok⟩ := hrel
        by_cases hlt : k < s.size
        · obtain ⟨c, hc⟩ : ∃ c, s[k] = c := ⟨_, rfl⟩
          have HC := Lib.hid hc
          have N1 := fun h => ok_next hlt hok (by rw [hc]; exact h)
          have N2 := fun h => ok_not hlt (by rw [hc]; exact h)
          clear hc
          cases hl : letR c with
          | true =>
            have NX := Lib.hid (N1 (by rw [namB_r, hl]; rfl))
            have HL := Lib.hid hl
            clear hl N1 N2
            go_wp2_with fail
            rw [HC.out]
            refine (refLetter_c _ _).mono ?_
            rintro e w' ⟨rfl, rfl⟩
            rw [HL.out]
            go_wp2_with fail
            go_round
            case rel => exact ⟨k + 1, by omega, by go_num, NX.out⟩
            case measure => simp [intOf]; omega
          | false =>
            cases hg : digB c with
            | true =>
              have NX := Lib.hid (N1 (by rw [namB_r, hl, hg]; rfl))
              have HL := Lib.hid hl
              have HG := Lib.hid hg
              clear hl hg N1 N2
              go_wp2_with fail
              rw [HC.out]
              refine (refLetter_c _ _).mono ?_
              rintro e w' ⟨rfl, rfl⟩
              rw [HL.out]
              go_wp2_with fail
              rw [HC.out]
              refine (refDigit_c _ _).mono ?_
              rintro e w' ⟨rfl, rfl⟩
              rw [HG.out]
              go_wp2_with fail
              go_round
              case rel => exact ⟨k + 1, by omega, by go_num, NX.out⟩
              case measure => simp [intOf]; omega
            | false =>
              have NX := Lib.hid (N2 (by rw [namB_r, hl, hg]; rfl))
              have HL := Lib.hid hl
              have HG := Lib.hid hg
              clear hl hg N1 N2
              go_wp2_with fail
              rw [HC.out]
              refine (refLetter_c _ _).mono ?_
              rintro e w' ⟨rfl, rfl⟩
              rw [HL.out]
              go_wp2_with fail
              rw [HC.out]
              refine (refDigit_c _ _).mono ?_
              rintro e w' ⟨rfl, rfl⟩
              rw [HG.out]
              go_wp2_with fail
              go_ret
              exact ⟨retBN (by rw [E.out, NX.out]), rfl⟩
        · have NX := Lib.hid (ok_end (s := s) (k := k) (by omega) hok)
          go_wp2_with fail
          go_ret
          exact ⟨retBN (by rw [E.out, NX.out]), rfl⟩
  · have hz : ((s.size : Int) == 0) = true := by rw [beq_iff_eq]; omega
    have E : Hid (nameB s.data.toList = false) := by
      show _ = _
      rw [show s.data.toList = [] from List.eq_nil_of_length_eq_zero (show s.size = 0 by omega)]; rfl
    go_enter Try.func47, Try.ntmps47
    go_wp2
    go_ret
    exact ⟨retBN E.out.symm, rfl⟩
end Go.Proofs.Ytijjbfdbhfjfmaa
