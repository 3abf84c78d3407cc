/- Names between two colons are paths of those on both sides, and no others; a name is a path. Condition: the library's variable holds a number. -/
import Derived.Test.YtcckikaafjmolaaAwakeT
namespace Go.Proofs.Ytcckikaafjmolaa
open Go.RowKit
theorem name_bad {l : List UInt8} (h : l.all namB = false) : nameB l = false := by
  cases l with
  | nil => rfl
  | cons c r => show (!digB c && (c :: r).all namB) = false; rw [h, Bool.and_false]
theorem pathS_bad (l acc : List UInt8) (h : acc.all namB = false) : pathS acc l = false := by
  induction l generalizing acc with
  | nil => exact name_bad h
  | cons c r ih =>
    by_cases hc : c = 58 ∧ r.head? = some 58
    · obtain ⟨rfl, hr⟩ := hc
      match r, hr with
      | d :: r, hr =>
        simp at hr; subst hr
        rw [pathS_colons, name_bad h, Bool.false_and]
    · rw [pathS_other _ _ _ hc]
      exact ih _ (by rw [List.all_append, h, Bool.false_and])
theorem bad58 (acc : List UInt8) : (acc ++ [58]).all namB = false := by
  rw [List.all_append]; simp; intro _; decide
theorem pathS_three (b : List UInt8) : pathS [] (58 :: b) = false := by
  by_cases hb : b.head? = some 58
  · match b, hb with
    | d :: r, hb => simp at hb; subst hb; rw [pathS_colons]; rfl
  · rw [pathS_other _ _ _ (fun h => hb h.2)]
    exact pathS_bad _ _ (bad58 [])
theorem path_join : ∀ (a acc b : List UInt8), pathS acc (a ++ 58 :: 58 :: b) = (pathS acc a && pathS [] b)
  | [], acc, b => by rw [List.nil_append, pathS_colons]; rfl
  | [c], acc, b => by
    by_cases hc : c = 58
    · subst hc
      have e1 : pathS acc [58] = false := name_bad (bad58 acc)
      show pathS acc (58 :: 58 :: 58 :: b) = _
      rw [pathS_colons, pathS_three, e1, Bool.and_false, Bool.false_and]
    · show pathS acc (c :: 58 :: 58 :: b) = _
      rw [pathS_other _ _ _ (fun h => hc h.1), pathS_colons]; rfl
  | c :: d :: r, acc, b => by
    by_cases hc : c = 58 ∧ d = 58
    · obtain ⟨rfl, rfl⟩ := hc
      show pathS acc (58 :: 58 :: (r ++ 58 :: 58 :: b)) = _
      rw [pathS_colons, pathS_colons, path_join r [] b, Bool.and_assoc]
    · have h1 : ¬ (c = 58 ∧ (d :: r).head? = some 58) := fun h => hc ⟨h.1, by simpa using h.2⟩
      have h2 : ¬ (c = 58 ∧ (d :: r ++ 58 :: 58 :: b).head? = some 58) := fun h => hc ⟨h.1, by simpa using h.2⟩
      rw [pathS_other _ _ _ h1, ← path_join (d :: r) (acc ++ [c]) b]
      exact pathS_other _ _ _ h2
theorem name_path {l : List UInt8} (h : nameB l = true) : pathB l = true := by
  have hn : l.all namB = true := by
    cases ha : l.all namB with
    | true => rfl
    | false => rw [name_bad ha] at h; exact absurd h (by decide)
  unfold pathB
  rw [pathS_none [] l fun i hi hc => ?_]
  · exact h
  · rw [List.all_eq_true] at hn
    have := hn 58 (List.mem_of_getElem? hc.1)
    exact absurd this (by decide)
theorem name_join (a b : List UInt8) : nameB (a ++ b) = (nameB a && nameB (95 :: b) || (a.isEmpty && nameB b)) := by
  cases a with
  | nil => simp [nameB]
  | cons c r =>
    have h1 : digB 95 = false := by decide
    have h2 : namB 95 = true := by decide
    simp only [nameB, List.cons_append, List.all_cons, List.all_append, h1, h2, List.isEmpty_cons, Bool.false_and, Bool.or_false, Bool.not_false, Bool.true_and]
    cases digB c <;> cases namB c <;> cases r.all namB <;> cases b.all namB <;> rfl
theorem path_b (s : ByteArray) (x : Bool) (h : pathB s.data.toList = x) (hs : s.size < 4294967281) (w : World) (hm : Mx w) :
    Calls Try.prog 11 #[.string s] w fun e w' => e = .returned (.bool x) ∧ ∃ n, w' = w.drewN n := by
  subst h; exact path_c s hs w hm
theorem name_b (s : ByteArray) (x : Bool) (h : nameB s.data.toList = x) (hs : s.size ≤ 9223372036854775807) (w : World) :
    Calls Try.prog 9 #[.string s] w fun e w' => e = .returned (.bool x) ∧ w = w' := by
  subst h; exact name_c s hs w
set_option maxHeartbeats 3200000 in
theorem paths_main (a b : ByteArray) (ha : a.size ≤ 1000) (hb : b.size ≤ 1000) (w : World) (hm : Mx w) :
    Calls Try.prog 7 #[.string a, .string b] w fun e w' => e = .returned (.bool true) ∧ Low w w' := by
  have h2 : (a.size : Int) ≤ 1000 := by omega
  have h3 : (b.size : Int) ≤ 1000 := by omega
  have PJ : pathB (a ++ ⟨#[58, 58]⟩ ++ b).data.toList = (pathB a.data.toList && pathB b.data.toList) := by
    rw [app_data, app_data]
    have := path_join a.data.toList [] b.data.toList
    unfold pathB; rw [← this]; simp
  have NJ : nameB (a ++ b).data.toList = (nameB a.data.toList && nameB (⟨#[95]⟩ ++ b : ByteArray).data.toList || (a.data.toList.isEmpty && nameB b.data.toList)) := by
    rw [app_data, app_data]
    exact name_join _ _
  have NP := name_path (l := a.data.toList)
  have NE : nameB a.data.toList = true → a.data.toList.isEmpty = false := by
    intro h; cases e : a.data.toList with
    | nil => rw [e] at h; exact absurd h (by decide)
    | cons c r => rfl
  have z1 : (a ++ ⟨#[58, 58]⟩ ++ b).size = a.size + 2 + b.size := by rw [ByteArray.size_append, ByteArray.size_append]; rfl
  have z2 : (a ++ b).size = a.size + b.size := ByteArray.size_append
  have z3 : (⟨#[95]⟩ ++ b : ByteArray).size = 1 + b.size := by rw [ByteArray.size_append]; rfl
  have z1 : (a ++ ⟨#[58, 58]⟩ ++ b).size < 4294967281 := by omega
  have z2 : (a ++ b).size ≤ 9223372036854775807 := by omega
  have z3 : (⟨#[95]⟩ ++ b : ByteArray).size ≤ 9223372036854775807 := by omega
  obtain ⟨pb, hpb⟩ : ∃ x, pathB b.data.toList = x := ⟨_, rfl⟩
  obtain ⟨n95, hn95⟩ : ∃ x, nameB (⟨#[95]⟩ ++ b : ByteArray).data.toList = x := ⟨_, rfl⟩
  obtain ⟨nb, hnb⟩ : ∃ x, nameB b.data.toList = x := ⟨_, rfl⟩
  rw [hpb] at PJ
  rw [hn95, hnb] at NJ
  have HPB := Lib.hid hpb
  have HN95 := Lib.hid hn95
  have HNB := Lib.hid hnb
  clear hpb hn95 hnb
  cases hn : nameB a.data.toList with
  | true =>
    have hp := NP hn
    have h0 : 0 < a.size := by
      rcases Nat.eq_zero_or_pos a.size with h | h
      · rw [show a.data.toList = [] from List.eq_nil_of_length_eq_zero h] at hn; exact absurd hn (by decide)
      · exact h
    obtain ⟨g1, g2⟩ := ne_list h0
    rw [hp, Bool.true_and] at PJ
    rw [hn, NE hn, Bool.true_and, Bool.false_and, Bool.or_false] at NJ
    have HP := Lib.hid hp
    have HN := Lib.hid hn
    have HPJ := Lib.hid PJ
    have HNJ := Lib.hid NJ
    clear PJ NJ NP NE hp hn
    go_enter Try.func7, Try.ntmps7
    go_wp2_with fail
    refine (awakeT_c _ hm).mono ?_
    rintro e w1 ⟨rfl, l1⟩
    have m1 := hm.low l1
    go_wp2_with fail
    refine (path_b _ _ HPJ.out z1 _ m1).mono ?_
    rintro e w' ⟨rfl, q1, rfl⟩
    go_wp2_with fail
    refine (path_b _ _ HP.out (by omega) _ (m1.drewN q1)).mono ?_
    rintro e w' ⟨rfl, q2, rfl⟩
    go_wp2_with fail
    refine (path_b _ _ HPB.out (by omega) _ (m1.drewN _)).mono ?_
    rintro e w' ⟨rfl, q3, rfl⟩
    go_wp2_with fail
    refine (name_b _ _ HN.out (by omega) _).mono ?_
    rintro e w' ⟨rfl, rfl⟩
    go_wp2_with fail
    refine (path_b _ _ HP.out (by omega) _ (m1.drewN _)).mono ?_
    rintro e w' ⟨rfl, q4, rfl⟩
    go_wp2_with fail
    refine (name_b _ _ HNJ.out z2 _).mono ?_
    rintro e w' ⟨rfl, rfl⟩
    go_wp2_with fail
    refine (name_b _ _ HN.out (by omega) _).mono ?_
    rintro e w' ⟨rfl, rfl⟩
    go_wp2_with fail
    refine (name_b _ _ HN95.out z3 _).mono ?_
    rintro e w' ⟨rfl, rfl⟩
    cases n95
    all_goals
      go_wp2_with fail
      go_ret
      exact ⟨rfl, l1.trans (Low.drewN _ _)⟩
  | false =>
    rw [hn, Bool.false_and, Bool.false_or] at NJ
    have HN := Lib.hid hn
    clear NP NE hn
    by_cases h0 : 0 < a.size
    · obtain ⟨g1, g2⟩ := ne_list h0
      have ne : a.data.toList.isEmpty = false := by rw [← ByteArray.toList_eq]; exact g1
      rw [ne, Bool.false_and] at NJ
      have HNJ := Lib.hid NJ
      clear NJ ne
      cases hp : pathB a.data.toList with
      | true =>
        rw [hp, Bool.true_and] at PJ
        have HPJ := Lib.hid PJ
        have HP := Lib.hid hp
        clear PJ hp
        go_enter Try.func7, Try.ntmps7
        go_wp2_with fail
        refine (awakeT_c _ hm).mono ?_
        rintro e w1 ⟨rfl, l1⟩
        have m1 := hm.low l1
        go_wp2_with fail
        refine (path_b _ _ HPJ.out z1 _ m1).mono ?_
        rintro e w' ⟨rfl, q1, rfl⟩
        go_wp2_with fail
        refine (path_b _ _ HP.out (by omega) _ (m1.drewN q1)).mono ?_
        rintro e w' ⟨rfl, q2, rfl⟩
        go_wp2_with fail
        refine (path_b _ _ HPB.out (by omega) _ (m1.drewN _)).mono ?_
        rintro e w' ⟨rfl, q3, rfl⟩
        go_wp2_with fail
        refine (name_b _ _ HN.out (by omega) _).mono ?_
        rintro e w' ⟨rfl, rfl⟩
        go_wp2_with fail
        refine (name_b _ _ HNJ.out z2 _).mono ?_
        rintro e w' ⟨rfl, rfl⟩
        go_wp2_with fail
        refine (name_b _ _ HN.out (by omega) _).mono ?_
        rintro e w' ⟨rfl, rfl⟩
        go_wp2_with fail
        go_ret
        exact ⟨rfl, l1.trans (Low.drewN _ _)⟩
      | false =>
        rw [hp, Bool.false_and] at PJ
        have HPJ := Lib.hid PJ
        have HP := Lib.hid hp
        clear PJ hp
        go_enter Try.func7, Try.ntmps7
        go_wp2_with fail
        refine (awakeT_c _ hm).mono ?_
        rintro e w1 ⟨rfl, l1⟩
        have m1 := hm.low l1
        go_wp2_with fail
        refine (path_b _ _ HPJ.out z1 _ m1).mono ?_
        rintro e w' ⟨rfl, q1, rfl⟩
        go_wp2_with fail
        refine (path_b _ _ HP.out (by omega) _ (m1.drewN q1)).mono ?_
        rintro e w' ⟨rfl, q2, rfl⟩
        go_wp2_with fail
        refine (name_b _ _ HN.out (by omega) _).mono ?_
        rintro e w' ⟨rfl, rfl⟩
        go_wp2_with fail
        refine (name_b _ _ HNJ.out z2 _).mono ?_
        rintro e w' ⟨rfl, rfl⟩
        go_wp2_with fail
        refine (name_b _ _ HN.out (by omega) _).mono ?_
        rintro e w' ⟨rfl, rfl⟩
        go_wp2_with fail
        go_ret
        exact ⟨rfl, l1.trans (Low.drewN _ _)⟩
    · have e0 : a.data.toList = [] := List.eq_nil_of_length_eq_zero (show a.size = 0 by omega)
      have g2 : a.toList = [] := by rw [ByteArray.toList_eq]; exact e0
      have g1 : a.toList.isEmpty = true := by rw [g2]; rfl
      have hp : pathB a.data.toList = false := by rw [e0]; rfl
      rw [hp, Bool.false_and] at PJ
      rw [e0, List.isEmpty_nil, Bool.true_and] at NJ
      have HPJ := Lib.hid PJ
      have HP := Lib.hid hp
      have HNJ := Lib.hid NJ
      clear PJ hp NJ e0 g2
      go_enter Try.func7, Try.ntmps7
      go_wp2_with fail
      refine (awakeT_c _ hm).mono ?_
      rintro e w1 ⟨rfl, l1⟩
      have m1 := hm.low l1
      go_wp2_with fail
      refine (path_b _ _ HPJ.out z1 _ m1).mono ?_
      rintro e w' ⟨rfl, q1, rfl⟩
      go_wp2_with fail
      refine (path_b _ _ HP.out (by omega) _ (m1.drewN q1)).mono ?_
      rintro e w' ⟨rfl, q2, rfl⟩
      go_wp2_with fail
      refine (name_b _ _ HN.out (by omega) _).mono ?_
      rintro e w' ⟨rfl, rfl⟩
      go_wp2_with fail
      refine (name_b _ _ HNJ.out z2 _).mono ?_
      rintro e w' ⟨rfl, rfl⟩
      go_wp2_with fail
      refine (name_b _ _ HN.out (by omega) _).mono ?_
      rintro e w' ⟨rfl, rfl⟩
      go_wp2_with fail
      refine (name_b _ _ HNB.out (by omega) _).mono ?_
      rintro e w' ⟨rfl, rfl⟩
      go_wp2_with fail
      go_ret
      exact ⟨rfl, l1.trans (Low.drewN _ _)⟩
set_option maxHeartbeats 800000 in
theorem textsPaths_walk (a0 a1 : ByteArray) (w0 : a0.size ≤ maxLen) (w1 : a1.size ≤ maxLen) (w : World) (hm : Mx w) :
    Calls Try.prog 7 #[.string a0, .string a1] w fun e w' => e = .returned (.bool true) ∧ Low w w' := by
  unfold maxLen at w0 w1
  by_cases hl : 1000 < a0.size
  · have h2 : (1000 : Int) < (a0.size : Int) := by omega
    go_enter Try.func7, Try.ntmps7
    go_wp2_with fail
    refine (awakeT_c _ hm).mono ?_
    rintro e w1 ⟨rfl, l1⟩
    go_wp2_with fail
    go_ret
    exact ⟨rfl, l1⟩
  · by_cases hl2 : 1000 < a1.size
    · have h2 : (a0.size : Int) ≤ 1000 := by omega
      have h3 : (1000 : Int) < (a1.size : Int) := by omega
      go_enter Try.func7, Try.ntmps7
      go_wp2_with fail
      refine (awakeT_c _ hm).mono ?_
      rintro e w1 ⟨rfl, l1⟩
      go_wp2_with fail
      go_ret
      exact ⟨rfl, l1⟩
    · exact paths_main a0 a1 (by omega) (by omega) w hm
end Go.Proofs.Ytcckikaafjmolaa
