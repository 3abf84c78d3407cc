/- The reference's places of words: blanks, names, quotes, marks. Condition: the length that any string has. -/
import Derived.Test.YtdblkjcimegoeaaDoorLexA
import Derived.Test.YtdblkjcimegoeaaDoorBytes
import Derived.Deep.QuietTactic
import Derived.BigQuiet
namespace Go.Proofs.YtdblkjcimegoeaaDoor
open Go.RowKit
theorem drop_gb {s : ByteArray} {k : Nat} (h : k < s.size) : s.data.toList.drop k = gb s k :: s.data.toList.drop (k + 1) := by
  have h' : k < s.data.toList.length := by simpa using h
  rw [List.drop_eq_getElem_cons h', gb_list h']
theorem drop_all {s : ByteArray} {k : Nat} (h : s.size ≤ k) : s.data.toList.drop k = [] := List.drop_eq_nil_of_le (by simpa using h)
theorem skpk_b {s : ByteArray} {k : Nat} (h : k < s.size) (hb : blkB (gb s k) = true) : skp false (s.data.toList.drop k) = skp false (s.data.toList.drop (k + 1)) + 1 := by
  rw [drop_gb h, skp, if_pos hb]
theorem skpk_r {s : ByteArray} {k : Nat} (h : k + 1 < s.size) (h1 : gb s k = 47) (h2 : gb s (k + 1) = 47) : skp false (s.data.toList.drop k) = skp true (s.data.toList.drop k) := by
  rw [drop_gb (k := k) (by omega), drop_gb h, h1, h2]; rfl
theorem skpk_0 {s : ByteArray} {k : Nat} (h : k < s.size) (hb : blkB (gb s k) = false) (h1 : ¬ (gb s k = 47 ∧ k + 1 < s.size ∧ gb s (k + 1) = 47)) : skp false (s.data.toList.drop k) = 0 := by
  rw [drop_gb h]
  refine skp_stop hb fun ⟨e1, e2⟩ => h1 ⟨e1, ?_⟩
  rcases Nat.lt_or_ge (k + 1) s.size with h2 | h2
  · rw [drop_gb h2] at e2
    simp at e2
    exact ⟨h2, e2⟩
  · rw [drop_all h2] at e2; simp at e2
theorem skpk_t {s : ByteArray} {k : Nat} (h : k < s.size) (hb : (gb s k == 10) = false) : skp true (s.data.toList.drop k) = skp true (s.data.toList.drop (k + 1)) + 1 := by
  rw [drop_gb h, skp, if_neg (by simp [hb])]
theorem skpk_e {s : ByteArray} {k : Nat} (h : k < s.size) (hb : (gb s k == 10) = true) : skp true (s.data.toList.drop k) = skp false (s.data.toList.drop k) := by
  have hb' : blkB (gb s k) = true := by unfold blkB; simp at hb; simp [hb]
  rw [drop_gb h, skp, if_pos hb, skp, if_pos hb']
theorem skpk_n {s : ByteArray} {k : Nat} (o : Bool) (h : s.size ≤ k) : skp o (s.data.toList.drop k) = 0 := by rw [drop_all h]; cases o <;> rfl
set_option maxHeartbeats 3200000 in
theorem refBlank_c (s : ByteArray) (hs : s.size ≤ 4294967294) (i0 : Nat) (hi0 : i0 ≤ s.size) (w : World) :
    Calls Tryd.prog 14 #[.string s, .int .i64 (i0 : Int)] w fun e w' => e = .returned (.int .i64 ((i0 + skp false (s.data.toList.drop i0) : Nat) : Int)) ∧ w = w' := by
  obtain ⟨R, hR⟩ : ∃ R, i0 + skp false (s.data.toList.drop i0) = R := ⟨_, rfl⟩
  rw [hR]
  have K0 := Lib.hid hR
  clear hR
  go_enter Tryd.func14, Tryd.ntmps14
  go_wp2_with fail
  go_loopg [1] s.size (fun gk va wr => ∃ k : Nat, va = .int .i64 (k : Int) ∧ k ≤ s.size ∧ s.size - k ≤ gk ∧ w = wr ∧ Hid (k + skp false (s.data.toList.drop k) = R))
  case atStart => exact ⟨i0, rfl, hi0, by omega, rfl, K0⟩
  case round =>
    obtain ⟨k, rfl, hk, hg, rfl, K⟩ := hrel
    by_cases hlt : k < s.size
    · have z1 : (k : Int) < (s.size : Int) := by omega
      have q1 : ((s[k].toNat : Int) == 32) = (gb s k == 32) := by rw [gb_lt hlt]; exact eqb (gb s k) 32
      have q2 : ((s[k].toNat : Int) == 9) = (gb s k == 9) := by rw [gb_lt hlt]; exact eqb (gb s k) 9
      have q3 : ((s[k].toNat : Int) == 10) = (gb s k == 10) := by rw [gb_lt hlt]; exact eqb (gb s k) 10
      have q4 : ((s[k].toNat : Int) == 13) = (gb s k == 13) := by rw [gb_lt hlt]; exact eqb (gb s k) 13
      have bl : blkB (gb s k) = (gb s k == 9 || gb s k == 10 || gb s k == 13 || gb s k == 32) := rfl
      by_cases hb : blkB (gb s k) = true
      · have NX : Hid (k + 1 + skp false (s.data.toList.drop (k + 1)) = R) := Lib.hid (by rw [← K.out, skpk_b hlt hb]; omega)
        rw [hb] at bl
        cases h1 : gb s k == 32
        · cases h2 : gb s k == 9
          · cases h3 : gb s k == 10
            · cases h4 : gb s k == 13
              · rw [h1, h2, h3, h4] at bl; exact absurd bl (by decide)
              · rw [h1] at q1; rw [h2] at q2; rw [h3] at q3; rw [h4] at q4
                clear h1 h2 h3 h4 bl hb
                go_wp2_with fail
                go_roundg (s.size - (k + 1))
                case measure => omega
                case rel => exact ⟨k + 1, by go_num, by omega, by omega, rfl, NX⟩
            · rw [h1] at q1; rw [h2] at q2; rw [h3] at q3
              clear h1 h2 h3 q4 bl hb
              go_wp2_with fail
              go_roundg (s.size - (k + 1))
              case measure => omega
              case rel => exact ⟨k + 1, by go_num, by omega, by omega, rfl, NX⟩
          · rw [h1] at q1; rw [h2] at q2
            clear h1 h2 q3 q4 bl hb
            go_wp2_with fail
            go_roundg (s.size - (k + 1))
            case measure => omega
            case rel => exact ⟨k + 1, by go_num, by omega, by omega, rfl, NX⟩
        · rw [h1] at q1
          clear h1 q2 q3 q4 bl hb
          go_wp2_with fail
          go_roundg (s.size - (k + 1))
          case measure => omega
          case rel => exact ⟨k + 1, by go_num, by omega, by omega, rfl, NX⟩
      · have hb : blkB (gb s k) = false := by simpa using hb
        have hb2 := hb
        rw [bl] at hb2
        simp only [Bool.or_eq_false_iff] at hb2
        obtain ⟨⟨⟨h2, h3⟩, h4⟩, h1⟩ := hb2
        rw [h1] at q1; rw [h2] at q2; rw [h3] at q3; rw [h4] at q4
        clear h1 h2 h3 h4 bl
        have q5 : ((s[k].toNat : Int) == 47) = (gb s k == 47) := by rw [gb_lt hlt]; exact eqb (gb s k) 47
        cases h5 : gb s k == 47 with
        | false =>
          have EN : Hid (Ending.returned (.int .i64 (k : Int)) = Ending.returned (.int .i64 (R : Int))) := Lib.hid (by rw [← K.out, skpk_0 hlt hb (fun h => by rw [h.1] at h5; exact absurd h5 (by decide))]; rfl)
          rw [h5] at q5
          clear h5 hb
          go_wp2_with fail
          go_ret
          exact ⟨EN.out, rfl⟩
        | true =>
          rw [h5] at q5
          by_cases hl2 : k + 1 < s.size
          · have z2 : (k : Int) + 1 < (s.size : Int) := by omega
            have q6 : ((s[k + 1].toNat : Int) == 47) = (gb s (k + 1) == 47) := by rw [gb_lt hl2]; exact eqb (gb s (k + 1)) 47
            cases h6 : gb s (k + 1) == 47 with
            | false =>
              have EN : Hid (Ending.returned (.int .i64 (k : Int)) = Ending.returned (.int .i64 (R : Int))) := Lib.hid (by rw [← K.out, skpk_0 hlt hb (fun h => by rw [h.2.2] at h6; exact absurd h6 (by decide))]; rfl)
              rw [h6] at q6
              clear h5 h6 hb
              go_wp2_with fail
              go_ret
              exact ⟨EN.out, rfl⟩
            | true =>
              have K1 : Hid (k + skp true (s.data.toList.drop k) = R) := Lib.hid (by rw [← K.out, skpk_r hl2 (by simpa using h5) (by simpa using h6)])
              have N10 : Hid ((gb s k == 10) = false) := Lib.hid (by simp at h5; rw [h5]; decide)
              rw [h6] at q6
              clear h5 h6 hb
              go_wp2_with fail
              clear q1 q2 q3 q4 q5 q6
              go_loopg [1] (s.size + 1) (fun gk2 vb wb => ∃ j : Nat, vb = .int .i64 (j : Int) ∧ k ≤ j ∧ j ≤ s.size ∧ s.size + 1 - j ≤ gk2 ∧ w = wb ∧ Hid (j + skp true (s.data.toList.drop j) = R))
              case atStart => exact ⟨k, rfl, Nat.le_refl _, hk, by omega, rfl, K1⟩
              case round =>
                obtain ⟨j, rfl, hkj, hj, hg2, rfl, KJ⟩ := hrel
                by_cases hjl : j < s.size
                · have z3 : (j : Int) < (s.size : Int) := by omega
                  have q7 : ((s[j].toNat : Int) != 10) = !(gb s j == 10) := by rw [gb_lt hjl]; exact neb (gb s j) 10
                  cases h7 : gb s j == 10 with
                  | true =>
                    have hne : j ≠ k := fun e => by rw [e, N10.out] at h7; cases h7
                    have NX : Hid (j + skp false (s.data.toList.drop j) = R) := Lib.hid (by rw [← KJ.out, skpk_e hjl h7])
                    rw [h7] at q7
                    clear h7
                    go_wp2_with fail
                    go_roundg (s.size - j)
                    case measure => omega
                    case rel => exact ⟨j, rfl, by omega, by omega, rfl, NX⟩
                  | false =>
                    have NX : Hid (j + 1 + skp true (s.data.toList.drop (j + 1)) = R) := Lib.hid (by rw [← KJ.out, skpk_t hjl h7]; omega)
                    rw [h7] at q7
                    clear h7
                    go_wp2_with fail
                    go_roundg (s.size + 1 - (j + 1))
                    case measure => omega
                    case rel => exact ⟨j + 1, by go_num, by omega, by omega, by omega, rfl, NX⟩
                · have z3 : ¬ (j : Int) < (s.size : Int) := by omega
                  have NX : Hid (j + skp false (s.data.toList.drop j) = R) := Lib.hid (by rw [← KJ.out, skpk_n true (by omega), skpk_n false (by omega)])
                  go_wp2_with fail
                  go_roundg (s.size - j)
                  case measure => omega
                  case rel => exact ⟨j, rfl, by omega, by omega, rfl, NX⟩
          · have z2 : ¬ (k : Int) + 1 < (s.size : Int) := by omega
            have EN : Hid (Ending.returned (.int .i64 (k : Int)) = Ending.returned (.int .i64 (R : Int))) := Lib.hid (by rw [← K.out, skpk_0 hlt hb (fun h => hl2 h.2.1)]; rfl)
            clear h5 hb
            go_wp2_with fail
            go_ret
            exact ⟨EN.out, rfl⟩
    · have z1 : ¬ (k : Int) < (s.size : Int) := by omega
      have EN : Hid (Ending.returned (.int .i64 (k : Int)) = Ending.returned (.int .i64 (R : Int))) := Lib.hid (by rw [← K.out, skpk_n false (by omega)]; rfl)
      go_wp2_with fail
      go_ret
      exact ⟨EN.out, rfl⟩
theorem namk_no {s : ByteArray} {k : Nat} (h : k < s.size) (hl : letR (gb s k) = false) : nameN (s.data.toList.drop k) = 0 := by
  rw [drop_gb h]
  show (if letR (gb s k) = true then _ else 0) = 0
  rw [if_neg (by simp [hl])]
theorem namk_yes {s : ByteArray} {k : Nat} (h : k < s.size) (hl : letR (gb s k) = true) : nameN (s.data.toList.drop k) = spanN namB (s.data.toList.drop k) := by
  have hn : namB (gb s k) = true := by rw [namB_r, hl]; rfl
  rw [drop_gb h]
  show (if letR (gb s k) = true then spanN namB _ + 1 else 0) = _
  rw [if_pos hl, spanN, if_pos hn]
theorem namk_next {s : ByteArray} {p : UInt8 → Bool} {k : Nat} (h : k < s.size) (hl : p (gb s k) = true) : spanN p (s.data.toList.drop k) = spanN p (s.data.toList.drop (k + 1)) + 1 := by
  rw [drop_gb h, spanN, if_pos hl]
theorem namk_stop {s : ByteArray} {p : UInt8 → Bool} {k : Nat} (h : k < s.size → p (gb s k) = false) : spanN p (s.data.toList.drop k) = 0 := by
  rcases Nat.lt_or_ge k s.size with h1 | h1
  · rw [drop_gb h1, spanN, if_neg (by simp [h h1])]
  · rw [drop_all h1]; rfl
set_option maxHeartbeats 3200000 in
theorem refName7_c (s : ByteArray) (hs : s.size ≤ 4294967294) (i0 : Nat) (hi0 : i0 ≤ s.size) (w : World) :
    Calls Tryd.prog 28 #[.string s, .int .i64 (i0 : Int)] w fun e w' => e = .returned (.int .i64 ((i0 + nameN (s.data.toList.drop i0) : Nat) : Int)) ∧ w = w' := by
  obtain ⟨R, hR⟩ : ∃ R, i0 + nameN (s.data.toList.drop i0) = R := ⟨_, rfl⟩
  rw [hR]
  by_cases h0 : i0 < s.size
  · have z0 : (i0 : Int) < (s.size : Int) := by omega
    have ZD : Hid (decide (s.size ≤ i0) = false) := Lib.hid (by simp; omega)
    have HC0 := Lib.hid (gb_lt h0)
    cases hl : letR (gb s i0) with
    | false =>
      rw [namk_no h0 hl] at hR
      have EN : Hid (Ending.returned (.int .i64 (i0 : Int)) = Ending.returned (.int .i64 (R : Int))) := Lib.hid (by rw [← hR]; rfl)
      have HL := Lib.hid hl
      clear hR hl
      go_enter Tryd.func28, Tryd.ntmps28
      go_wp2_with fail
      rw [HC0.out]
      refine (refLetter_c _ _).mono ?_
      rintro e w' ⟨rfl, rfl⟩
      rw [HL.out]
      go_wp2_with fail
      go_ret
      exact ⟨EN.out, rfl⟩
    | true =>
      rw [namk_yes h0 hl] at hR
      have K0 := Lib.hid hR
      have HL := Lib.hid hl
      clear hR hl
      go_enter Tryd.func28, Tryd.ntmps28
      go_wp2_with fail
      rw [HC0.out]
      refine (refLetter_c _ _).mono ?_
      rintro e w' ⟨rfl, rfl⟩
      rw [HL.out]
      go_wp2_with fail
      rw [ZD.out]
      go_loopg [1] s.size (fun gk va wr => ∃ k : Nat, va = .int .i64 (k : Int) ∧ k ≤ s.size ∧ s.size - k ≤ gk ∧ w = wr ∧ Hid (k + spanN namB (s.data.toList.drop k) = R))
      case atStart => exact ⟨i0, rfl, hi0, by omega, rfl, K0⟩
      case round =>
        clear z0
        obtain ⟨k, rfl, hk, hg, rfl, K⟩ := hrel
        by_cases hlt : k < s.size
        · have z1 : (k : Int) < (s.size : Int) := by omega
          have HC := Lib.hid (gb_lt hlt)
          cases h1 : letR (gb s k) with
          | true =>
            have NX : Hid (k + 1 + spanN namB (s.data.toList.drop (k + 1)) = R) := Lib.hid (by rw [← K.out, namk_next hlt (by rw [namB_r, h1]; rfl)]; omega)
            have H1 := Lib.hid h1
            clear h1
            go_wp2_with fail
            rw [HC.out]
            refine (refLetter_c _ _).mono ?_
            rintro e w' ⟨rfl, rfl⟩
            rw [H1.out]
            go_wp2_with fail
            go_roundg (s.size - (k + 1))
            case measure => omega
            case rel => exact ⟨k + 1, by go_num, by omega, by omega, rfl, NX⟩
          | false =>
            cases h2 : digB (gb s k) with
            | true =>
              have NX : Hid (k + 1 + spanN namB (s.data.toList.drop (k + 1)) = R) := Lib.hid (by rw [← K.out, namk_next hlt (by rw [namB_r, h1, h2]; rfl)]; omega)
              have H1 := Lib.hid h1
              have H2 := Lib.hid h2
              clear h1 h2
              go_wp2_with fail
              rw [HC.out]
              refine (refLetter_c _ _).mono ?_
              rintro e w' ⟨rfl, rfl⟩
              rw [H1.out]
              go_wp2_with fail
              rw [HC.out]
              refine (refDigit_c _ _).mono ?_
              rintro e w' ⟨rfl, rfl⟩
              rw [H2.out]
              go_wp2_with fail
              go_roundg (s.size - (k + 1))
              case measure => omega
              case rel => exact ⟨k + 1, by go_num, by omega, by omega, rfl, NX⟩
            | false =>
              have EN : Hid (Ending.returned (.int .i64 (k : Int)) = Ending.returned (.int .i64 (R : Int))) := Lib.hid (by rw [← K.out, namk_stop (fun _ => by rw [namB_r, h1, h2]; rfl)]; rfl)
              have H1 := Lib.hid h1
              have H2 := Lib.hid h2
              clear h1 h2
              go_wp2_with fail
              rw [HC.out]
              refine (refLetter_c _ _).mono ?_
              rintro e w' ⟨rfl, rfl⟩
              rw [H1.out]
              go_wp2_with fail
              rw [HC.out]
              refine (refDigit_c _ _).mono ?_
              rintro e w' ⟨rfl, rfl⟩
              rw [H2.out]
              go_wp2_with fail
              go_ret
              exact ⟨EN.out, rfl⟩
        · have z1 : ¬ (k : Int) < (s.size : Int) := by omega
          have EN : Hid (Ending.returned (.int .i64 (k : Int)) = Ending.returned (.int .i64 (R : Int))) := Lib.hid (by rw [← K.out, namk_stop (fun h => absurd h hlt)]; rfl)
          go_wp2_with fail
          go_ret
          exact ⟨EN.out, rfl⟩
  · have z0 : ¬ (i0 : Int) < (s.size : Int) := by omega
    have z00 : (s.size : Int) ≤ (i0 : Int) := by omega
    have EN : Hid (Ending.returned (.int .i64 (i0 : Int)) = Ending.returned (.int .i64 (R : Int))) := Lib.hid (by rw [← hR, drop_all (by omega)]; rfl)
    clear hR
    go_enter Tryd.func28, Tryd.ntmps28
    go_wp2_with fail
    go_ret
    exact ⟨EN.out, rfl⟩
set_option maxHeartbeats 1600000 in
theorem refQuo7_c (s : ByteArray) (hs : s.size ≤ 4294967294) (i0 : Nat) (hi0 : i0 < s.size) (w : World) :
    Calls Tryd.prog 31 #[.string s, .int .i64 (i0 : Int)] w fun e w' => e = .returned (.int .i64 ((if i0 + 1 + endQ false (s.data.toList.drop (i0 + 1)) < s.size then i0 + 1 + endQ false (s.data.toList.drop (i0 + 1)) + 1 else i0 : Nat) : Int)) ∧ w = w' := by
  obtain ⟨R, hR⟩ : ∃ R, i0 + 1 + endQ false (s.data.toList.drop (i0 + 1)) = R := ⟨_, rfl⟩
  rw [hR]
  have K0 := Lib.hid hR
  clear hR
  obtain ⟨T, hT⟩ : ∃ T, (if R < s.size then R + 1 else i0) = T := ⟨_, rfl⟩
  rw [hT]
  have HT := Lib.hid hT
  clear hT
  go_enter Tryd.func31, Tryd.ntmps31
  go_wp2_with fail
  go_loopg [5, 6] s.size (fun gk vo va wr => ∃ (o : Bool) (k : Nat), vo = .bool o ∧ va = .int .i64 (k : Int) ∧ k ≤ s.size ∧ s.size - k ≤ gk ∧ w = wr ∧ Hid (k + endQ o (s.data.toList.drop k) = R))
  case atStart => exact ⟨false, i0 + 1, rfl, by go_num, by omega, by omega, rfl, K0⟩
  case round =>
    obtain ⟨o, k, rfl, rfl, hk, hg, rfl, K⟩ := hrel
    by_cases hlt : k < s.size
    · have z1 : (k : Int) < (s.size : Int) := by omega
      have q1 : ((s[k].toNat : Int) == 34) = (gb s k == 34) := by rw [gb_lt hlt]; exact eqb (gb s k) 34
      have q2 : ((s[k].toNat : Int) == 92) = (gb s k == 92) := by rw [gb_lt hlt]; exact eqb (gb s k) 92
      have st : endQ o (s.data.toList.drop k) = if (gb s k == 34 && !o) = true then 0 else endQ (gb s k == 92 && !o) (s.data.toList.drop (k + 1)) + 1 := by rw [drop_gb hlt]; rfl
      by_cases h0 : (gb s k == 34 && !o) = true
      · have h1 : (gb s k == 34) = true := by simp at h0; simp [h0]
        have ho : o = false := by simp at h0; exact h0.2
        subst ho
        rw [if_pos h0] at st
        have EN : Hid (Ending.returned (.int .i64 ((k : Int) + 1)) = Ending.returned (.int .i64 (T : Int))) := Lib.hid (by
          have : k = R := by rw [← K.out, st]; rfl
          rw [← HT.out, ← this, if_pos hlt]; simp)
        rw [h1] at q1
        clear h0 h1 st q2
        go_wp2_with fail
        go_ret
        exact ⟨EN.out, rfl⟩
      · rw [if_neg h0] at st
        have NX : Hid (k + 1 + endQ (gb s k == 92 && !o) (s.data.toList.drop (k + 1)) = R) := Lib.hid (by rw [← K.out, st]; omega)
        clear st
        cases h1 : gb s k == 34
        · cases h2 : gb s k == 92
          · rw [h2] at NX
            rw [h1] at q1; rw [h2] at q2
            clear h0 h1 h2
            go_wp2_with fail
            go_roundg (s.size - (k + 1))
            case measure => omega
            case rel => exact ⟨_, k + 1, rfl, by go_num, by omega, by omega, rfl, NX⟩
          · rw [h2] at NX
            rw [h1] at q1; rw [h2] at q2
            clear h0 h1 h2
            cases o
            · go_wp2_with fail
              go_roundg (s.size - (k + 1))
              case measure => omega
              case rel => exact ⟨_, k + 1, rfl, by go_num, by omega, by omega, rfl, NX⟩
            · go_wp2_with fail
              go_roundg (s.size - (k + 1))
              case measure => omega
              case rel => exact ⟨_, k + 1, rfl, by go_num, by omega, by omega, rfl, NX⟩
        · cases o
          · rw [h1] at h0; exact absurd rfl h0
          · have h2 : (gb s k == 92) = false := by simp at h1; rw [h1]; decide
            rw [h2] at NX
            rw [h1] at q1; rw [h2] at q2
            clear h0 h1 h2
            go_wp2_with fail
            go_roundg (s.size - (k + 1))
            case measure => omega
            case rel => exact ⟨_, k + 1, rfl, by go_num, by omega, by omega, rfl, NX⟩
    · have z1 : ¬ (k : Int) < (s.size : Int) := by omega
      have EN : Hid (Ending.returned (.int .i64 (i0 : Int)) = Ending.returned (.int .i64 (T : Int))) := Lib.hid (by
        have : k = R := by rw [← K.out, drop_all (by omega)]; cases o <;> rfl
        rw [← HT.out, ← this, if_neg hlt])
      go_wp2_with fail
      go_ret
      exact ⟨EN.out, rfl⟩
end Go.Proofs.YtdblkjcimegoeaaDoor
