/- The reference's one word, and all words of any text. Condition: the text is shorter than 2^32. -/
import Derived.Test.YtdblkjcimegoeaaDoorLexS
namespace Go.Proofs.YtdblkjcimegoeaaDoor
open Go.RowKit
/-- What the reference tells of the word at a place. -/
def OneP (x : Fw) (i : Nat) (w : World) (e : Ending) (w' : World) : Prop :=
  ∃ (k : Int) (t : ByteArray) (n a b : Int), e = .returned (.tuple #[.agg #[.int .i64 k, .string t, .int .i64 n, .int .i64 a], .int .i64 b, .int .i64 x.e]) ∧ (x.e = 0 → k = x.k ∧ t = ⟨x.t.toArray⟩ ∧ n = x.n ∧ a = (i : Int) ∧ b = ((i + x.w : Nat) : Int)) ∧ Low w w'
theorem let_facts (c : UInt8) (h : letR c = true) : (c == 34) = false ∧ (c == 63) = false ∧ digB c = false := by
  have all : ∀ j : Fin 256, letR (UInt8.ofNat j.val) = true → (UInt8.ofNat j.val == 34) = false ∧ (UInt8.ofNat j.val == 63) = false ∧ digB (UInt8.ofNat j.val) = false := by decide +kernel
  have := all ⟨c.toNat, c.toNat_lt⟩
  simpa using this (by simpa using h)
theorem dig_facts (c : UInt8) (h : digB c = true) : (c == 34) = false ∧ (c == 63) = false := by
  have all : ∀ j : Fin 256, digB (UInt8.ofNat j.val) = true → (UInt8.ofNat j.val == 34) = false ∧ (UInt8.ofNat j.val == 63) = false := by decide +kernel
  have := all ⟨c.toNat, c.toNat_lt⟩
  simpa using this (by simpa using h)
theorem ext_part (s : ByteArray) (i n : Nat) : s.extract i (i + n) = ⟨((s.data.toList.drop i).take n).toArray⟩ := by rw [ext_mk, show i + n - i = n from by omega]
theorem ext_partd (s : ByteArray) (i n : Nat) : (s.extract i (i + n)).data.toList = (s.data.toList.drop i).take n := by rw [ext_data, show i + n - i = n from by omega]
set_option maxHeartbeats 1600000 in
theorem one_let (s : ByteArray) (hs : s.size ≤ 4294967294) (i : Nat) (hi : i < s.size) (hc : letR (gb s i) = true) (w : World) :
    Calls Tryd.prog 15 #[.string s, .int .i64 (i : Int)] w (OneP (fst1 (s.data.toList.drop i)) i w) := by
  have hz : s.data.toList.length = s.size := by simp
  have z0 : (i : Int) < (s.size : Int) := by omega
  have HC := Lib.hid (gb_lt hi)
  have hd := drop_gb hi
  obtain ⟨h1, h2, h3⟩ := let_facts _ hc
  obtain ⟨n, hn⟩ : ∃ n, nameN (s.data.toList.drop i) = n := ⟨_, rfl⟩
  have zn := nameN_le (s.data.toList.drop i)
  rw [hn, List.length_drop, hz] at zn
  have HF : fst1 (s.data.toList.drop i) = ⟨0, 1, (s.data.toList.drop i).take n, 0, n⟩ := by
    rw [← hn, hd, fst1_cons, if_neg (by simp [h1]), if_neg (by simp [h2]), if_neg (by simp [h3]), if_pos hc]
  rw [HF]
  have HN := Lib.hid hn
  have HL := Lib.hid hc
  have z1 : (i : Int) + (n : Int) ≤ (s.size : Int) := by omega
  clear hn HF h1 h2 h3 hc hd hz
  go_enter Tryd.func15, Tryd.ntmps15
  go_wp2_with fail
  rw [HC.out]
  refine (refLetter_c _ _).mono ?_
  rintro e w' ⟨rfl, rfl⟩
  rw [HL.out]
  go_wp2_with fail
  refine (refName7_c s hs i (by omega) _).mono ?_
  rintro e w' ⟨rfl, rfl⟩
  rw [HN.out]
  have LW : Hid (Low (w.alloc (.cells #[.int .i64 0, .string ⟨#[]⟩, .int .i64 0, .int .i64 0] 42)) (w.alloc (.cells #[.int .i64 0, .string ⟨#[]⟩, .int .i64 0, .int .i64 0] 42))) := Lib.hid (Low.refl _)
  obtain ⟨⟨c0, c1, c2, c3⟩, f0, f1, f2, f3⟩ := word_cells (b := w.heap.size) LW.out (alloc_at _ _)
  go_wp2_with fail
  refine bodyPost_ret (v := .tuple #[.agg #[.int .i64 1, .string (s.extract i (i + n)), .int .i64 0, .int .i64 (i : Int)], .int .i64 ((i : Int) + (n : Int)), .int .i64 0]) (by simp [results, Tryd.results15, go_sem]) rfl ?_
  exact ⟨_, _, _, _, _, rfl, fun _ => ⟨rfl, ext_part s i n, rfl, rfl, by simp⟩, low_new (Low.refl _) _⟩
set_option maxHeartbeats 1600000 in
theorem one_dig (s : ByteArray) (hs : s.size ≤ 4294967294) (i : Nat) (hi : i < s.size) (hl : letR (gb s i) = false) (hc : digB (gb s i) = true) (w : World) :
    Calls Tryd.prog 15 #[.string s, .int .i64 (i : Int)] w (OneP (fst1 (s.data.toList.drop i)) i w) := by
  have hz : s.data.toList.length = s.size := by simp
  have z0 : (i : Int) < (s.size : Int) := by omega
  have HC := Lib.hid (gb_lt hi)
  have hd := drop_gb hi
  obtain ⟨h1, h2⟩ := dig_facts _ hc
  obtain ⟨n, hn⟩ : ∃ n, spanN digB (s.data.toList.drop i) = n := ⟨_, rfl⟩
  have zn := spanN_le digB (s.data.toList.drop i)
  rw [hn, List.length_drop, hz] at zn
  have HF : fst1 (s.data.toList.drop i) = numW (s.data.toList.drop i) := by
    rw [hd, fst1_cons, if_neg (by simp [h1]), if_neg (by simp [h2]), if_pos hc]
  obtain ⟨rv, hv⟩ : ∃ rv, readV ((s.data.toList.drop i).take n) = rv := ⟨_, rfl⟩
  obtain ⟨re, he⟩ : ∃ re, readE ((s.data.toList.drop i).take n) = re := ⟨_, rfl⟩
  have HFE : (fst1 (s.data.toList.drop i)).e = re ∧ (re = 0 → fst1 (s.data.toList.drop i) = ⟨0, 2, (s.data.toList.drop i).take n, rv, n⟩) := by
    rw [HF]
    by_cases h0 : re = 0
    · rw [num_ok (by rw [hn, he, h0]), hn, hv]
      exact ⟨h0.symm, fun _ => rfl⟩
    · rw [num_bad (by rw [hn, he]) h0]
      exact ⟨rfl, fun h => absurd h h0⟩
  rw [← ext_partd] at hv he
  generalize fst1 (s.data.toList.drop i) = x at HFE
  obtain ⟨hxe, hx0⟩ := HFE
  have HV := Lib.hid hv
  have HE := Lib.hid he
  have HL := Lib.hid hl
  have HD := Lib.hid hc
  have HX := Lib.hid hxe
  have HX0 := Lib.hid hx0
  have EL : Hid ((s.extract i (i + n)).size ≤ 9223372036854775807) := Lib.hid (Nat.le_trans (ext_le _ _ _) (by omega))
  have z1 : (i : Int) + (n : Int) ≤ (s.size : Int) := by omega
  have HN := Lib.hid hn
  clear hn HF h1 h2 hc hl hd hz hv he hxe hx0
  go_enter Tryd.func15, Tryd.ntmps15
  go_wp2_with fail
  rw [HC.out]
  refine (refLetter_c _ _).mono ?_
  rintro e w' ⟨rfl, rfl⟩
  rw [HL.out]
  go_wp2_with fail
  refine (refDigit_c _ _).mono ?_
  rintro e w' ⟨rfl, rfl⟩
  rw [HD.out]
  go_wp2_with fail
  go_loopg [9] s.size (fun gk va wr => ∃ k : Nat, va = .int .i64 (k : Int) ∧ k ≤ s.size ∧ s.size - k ≤ gk ∧ i ≤ k ∧ Hid (Low (w.alloc (.cells #[.int .i64 0, .string ⟨#[]⟩, .int .i64 0, .int .i64 0] 42)) wr) ∧ Hid (k + spanN digB (s.data.toList.drop k) = i + n))
  case atStart => exact ⟨i, rfl, by omega, by omega, Nat.le_refl _, Lib.hid (Low.refl _), Lib.hid (by rw [HN.out])⟩
  case round =>
    obtain ⟨k, rfl, hk, hg, hik, LW, K⟩ := hrel
    by_cases hlt : k < s.size
    · have z2 : (k : Int) < (s.size : Int) := by omega
      have HCk := Lib.hid (gb_lt hlt)
      cases h1 : digB (gb s k) with
      | true =>
        have NX : Hid (k + 1 + spanN digB (s.data.toList.drop (k + 1)) = i + n) := Lib.hid (by rw [← K.out, namk_next hlt h1]; omega)
        have H1 := Lib.hid h1
        clear h1
        go_wp2_with fail
        rw [HCk.out]
        refine (refDigit_c _ _).mono ?_
        rintro e w' ⟨rfl, rfl⟩
        rw [H1.out]
        go_wp2_with fail
        go_roundg (s.size - (k + 1))
        case measure => omega
        case rel => exact ⟨k + 1, by go_num, by omega, by omega, by omega, LW, NX⟩
      | false =>
        have hkn : k = i + n := by rw [← K.out, namk_stop (fun _ => h1)]; rfl
        subst hkn
        have H1 := Lib.hid h1
        clear h1 K
        have z3 : (i : Int) + (n : Int) < (s.size : Int) := by omega
        go_wp2_with fail
        rw [HCk.out]
        refine (refDigit_c _ _).mono ?_
        rintro e w' ⟨rfl, rfl⟩
        rw [H1.out]
        go_wp2_with fail
        refine (refRead_c _ EL.out _).mono ?_
        rintro e w1 ⟨rfl, hgr⟩
        rw [HV.out, HE.out]
        have LX := Lib.hid (LW.out.trans (Low.of_grown hgr))
        clear hgr
        obtain ⟨⟨c0, c1, c2, c3⟩, f0, f1, f2, f3⟩ := word_cells (b := w.heap.size) LX.out (alloc_at _ _)
        go_wp2_with fail
        obtain ⟨E0, E1, E2, E3⟩ := word_put c0 c1 c2 c3
        refine bodyPost_ret (v := .tuple #[.agg #[.int .i64 2, .string (s.extract i (i + n)), .int .i64 rv, .int .i64 (i : Int)], .int .i64 ((i : Int) + (n : Int)), .int .i64 re]) (by simp [results, Tryd.results15, go_sem, E0, E1, E2, E3]) rfl ?_
        exact ⟨_, _, _, _, _, by rw [HX.out], fun h => by rw [HX0.out (HX.out.symm.trans h)]; exact ⟨rfl, ext_part s i n, rfl, rfl, by simp⟩, by repeat (first | with_reducible exact (low_new (Low.refl _) _).trans LX.out | with_reducible exact low_new (Low.refl _) _ | with_reducible refine low_put ?_ (by simp))⟩
    · have hkn : k = i + n := by
        have := K.out
        rw [namk_stop (fun h => absurd h hlt)] at this
        omega
      subst hkn
      clear K
      have z2 : ¬ ((i : Int) + (n : Int)) < (s.size : Int) := by omega
      go_wp2_with fail
      refine (refRead_c _ EL.out _).mono ?_
      rintro e w1 ⟨rfl, hgr⟩
      rw [HV.out, HE.out]
      have LX := Lib.hid (LW.out.trans (Low.of_grown hgr))
      clear hgr
      obtain ⟨⟨c0, c1, c2, c3⟩, f0, f1, f2, f3⟩ := word_cells (b := w.heap.size) LX.out (alloc_at _ _)
      go_wp2_with fail
      obtain ⟨E0, E1, E2, E3⟩ := word_put c0 c1 c2 c3
      refine bodyPost_ret (v := .tuple #[.agg #[.int .i64 2, .string (s.extract i (i + n)), .int .i64 rv, .int .i64 (i : Int)], .int .i64 ((i : Int) + (n : Int)), .int .i64 re]) (by simp [results, Tryd.results15, go_sem, E0, E1, E2, E3]) rfl ?_
      exact ⟨_, _, _, _, _, by rw [HX.out], fun h => by rw [HX0.out (HX.out.symm.trans h)]; exact ⟨rfl, ext_part s i n, rfl, rfl, by simp⟩, by repeat (first | with_reducible exact (low_new (Low.refl _) _).trans LX.out | with_reducible exact low_new (Low.refl _) _ | with_reducible refine low_put ?_ (by simp))⟩
set_option maxHeartbeats 1600000 in
theorem one_quo (s : ByteArray) (hs : s.size ≤ 4294967294) (i : Nat) (hi : i < s.size) (hc : (gb s i == 34) = true) (w : World) :
    Calls Tryd.prog 15 #[.string s, .int .i64 (i : Int)] w (OneP (fst1 (s.data.toList.drop i)) i w) := by
  have hz : s.data.toList.length = s.size := by simp
  have z0 : (i : Int) < (s.size : Int) := by omega
  have HC := Lib.hid (gb_lt hi)
  have hd := drop_gb hi
  have h1 : letR (gb s i) = false := by simp at hc; rw [hc]; decide
  have h2 : digB (gb s i) = false := by simp at hc; rw [hc]; decide
  have q1 : (((gb s i).toNat : Int) == 34) = true := (eqb (gb s i) 34).trans hc
  have HF : fst1 (s.data.toList.drop i) = quoW (s.data.toList.drop i) := by rw [hd, fst1_cons, if_pos hc]
  obtain ⟨n, hn⟩ : ∃ n, endQ false ((s.data.toList.drop i).drop 1) + 1 = n := ⟨_, rfl⟩
  have hn2 := hn
  rw [List.drop_drop] at hn2
  have F0 := quo_far (l := s.data.toList.drop i) hn
  have F1 := fun e => quo_bad (l := s.data.toList.drop i) (e := e) hn
  have F2 := quo_ok (l := s.data.toList.drop i) hn
  rw [← HF, List.length_drop, hz] at F0 F2
  simp only [← HF, List.length_drop, hz] at F1
  rw [← ext_partd] at F2
  simp only [← ext_partd] at F1
  have hq := refQuo7_c s hs i hi
  rw [show i + 1 + endQ false (s.data.toList.drop (i + 1)) = i + n from by omega] at hq
  have HL := Lib.hid h1
  have HD := Lib.hid h2
  generalize fst1 (s.data.toList.drop i) = x at F0 F1 F2
  by_cases hl : i + n < s.size
  · have F1 := fun e => F1 e (by omega)
    have F2 := F2 (by omega)
    simp only [if_pos hl] at hq
    obtain ⟨ut, hut⟩ : ∃ ut, unqT (s.extract i (i + (n + 1))).data.toList = ut := ⟨_, rfl⟩
    obtain ⟨ue, hue⟩ : ∃ ue, unqE (s.extract i (i + (n + 1))).data.toList = ue := ⟨_, rfl⟩
    rw [hue, hut] at F2
    simp only [hue] at F1
    have HT := Lib.hid hut
    have HE := Lib.hid hue
    have hx : x.e = ue ∧ (ue = 0 → x = ⟨0, 3, ut, 0, n + 1⟩) := by
      by_cases h0 : ue = 0
      · rw [F2 h0]; exact ⟨h0.symm, fun _ => rfl⟩
      · rw [F1 ue rfl h0]; exact ⟨rfl, fun h => absurd h h0⟩
    have HX := Lib.hid hx.1
    have HX0 := Lib.hid hx.2
    have HQ := Lib.hid hq
    have EL : Hid ((s.extract i (i + (n + 1))).size ≤ 4294967295) := Lib.hid (Nat.le_trans (ext_le _ _ _) (by omega))
    have z1 : ((i + (n + 1) : Nat) : Int) ≤ (s.size : Int) := by omega
    have z2 : (((i + (n + 1) : Nat) : Int) == (i : Int)) = false := by simp; omega
    have hto : i + n + 1 = i + (n + 1) := by omega
    rw [hto] at HQ
    obtain ⟨m, hm⟩ : ∃ m, m = i + (n + 1) := ⟨_, rfl⟩
    rw [← hm] at HQ HT HE EL z1 z2
    have z3 : i ≤ m := by omega
    have z4 : (i : Int) ≤ (m : Int) := by omega
    have HM := Lib.hid hm
    clear hm hto hq hx hut hue F0 F1 F2 hn hn2 HF h1 h2 hc hd hz hl
    go_enter Tryd.func15, Tryd.ntmps15
    go_wp2_with fail
    rw [HC.out]
    refine (refLetter_c _ _).mono ?_
    rintro e w' ⟨rfl, rfl⟩
    rw [HL.out]
    go_wp2_with fail
    refine (refDigit_c _ _).mono ?_
    rintro e w' ⟨rfl, rfl⟩
    rw [HD.out]
    go_wp2_with fail
    refine (HQ.out _).mono ?_
    rintro e w' ⟨rfl, rfl⟩
    go_wp2_with fail
    refine (refUnq_c _ EL.out _).mono ?_
    rintro e w1 ⟨rfl, hw⟩
    rw [HT.out, HE.out]
    have LX := Lib.hid hw
    clear hw
    obtain ⟨⟨c0, c1, c2, c3⟩, f0, f1, f2, f3⟩ := word_cells (b := w.heap.size) LX.out (alloc_at _ _)
    go_wp2_with fail
    obtain ⟨E0, E1, E2, E3⟩ := word_put c0 c1 c2 c3
    refine bodyPost_ret (v := .tuple #[.agg #[.int .i64 3, .string ⟨ut.toArray⟩, .int .i64 0, .int .i64 (i : Int)], .int .i64 (m : Int), .int .i64 ue]) (by simp [results, Tryd.results15, go_sem, E0, E1, E2, E3]) rfl ?_
    exact ⟨_, _, _, _, _, by rw [HX.out], fun h => by rw [HX0.out (HX.out.symm.trans h), HM.out]; exact ⟨rfl, rfl, rfl, rfl, rfl⟩, by repeat (first | with_reducible exact (low_new (Low.refl _) _).trans LX.out | with_reducible exact low_new (Low.refl _) _ | with_reducible refine low_put ?_ (by simp))⟩
  · have F0 := F0 (by omega)
    simp only [if_neg hl] at hq
    have HQ := Lib.hid hq
    have z1 : ((i : Int) == (i : Int)) = true := by simp
    clear hq F1 F2 hn hn2 HF h1 h2 hc hd hz
    rw [F0]
    clear F0
    go_enter Tryd.func15, Tryd.ntmps15
    go_wp2_with fail
    rw [HC.out]
    refine (refLetter_c _ _).mono ?_
    rintro e w' ⟨rfl, rfl⟩
    rw [HL.out]
    go_wp2_with fail
    refine (refDigit_c _ _).mono ?_
    rintro e w' ⟨rfl, rfl⟩
    rw [HD.out]
    go_wp2_with fail
    refine (HQ.out _).mono ?_
    rintro e w' ⟨rfl, rfl⟩
    have LW : Hid (Low (w.alloc (.cells #[.int .i64 0, .string ⟨#[]⟩, .int .i64 0, .int .i64 0] 42)) (w.alloc (.cells #[.int .i64 0, .string ⟨#[]⟩, .int .i64 0, .int .i64 0] 42))) := Lib.hid (Low.refl _)
    obtain ⟨⟨c0, c1, c2, c3⟩, f0, f1, f2, f3⟩ := word_cells (b := w.heap.size) LW.out (alloc_at _ _)
    go_wp2_with fail
    refine bodyPost_ret (v := .tuple #[.agg #[.int .i64 0, .string ⟨#[]⟩, .int .i64 0, .int .i64 0], .int .i64 (i : Int), .int .i64 10]) (by simp [results, Tryd.results15, go_sem]) rfl ?_
    exact ⟨_, _, _, _, _, rfl, fun h => absurd h (by decide), low_new (Low.refl _) _⟩
set_option maxHeartbeats 1600000 in
theorem one_slo (s : ByteArray) (hs : s.size ≤ 4294967294) (i : Nat) (hi : i < s.size) (hc : (gb s i == 63) = true) (w : World) :
    Calls Tryd.prog 15 #[.string s, .int .i64 (i : Int)] w (OneP (fst1 (s.data.toList.drop i)) i w) := by
  have hz : s.data.toList.length = s.size := by simp
  have z0 : (i : Int) < (s.size : Int) := by omega
  have HC := Lib.hid (gb_lt hi)
  have hd := drop_gb hi
  have h1 : letR (gb s i) = false := by simp at hc; rw [hc]; decide
  have h2 : digB (gb s i) = false := by simp at hc; rw [hc]; decide
  have h3 : (gb s i == 34) = false := by simp at hc; rw [hc]; decide
  have q1 : (((gb s i).toNat : Int) == 34) = false := (eqb (gb s i) 34).trans h3
  have q2 : (((gb s i).toNat : Int) == 63) = true := (eqb (gb s i) 63).trans hc
  have HF : fst1 (s.data.toList.drop i) = sloW (s.data.toList.drop i) := by rw [hd, fst1_cons, if_neg (by simp [h3]), if_pos hc]
  obtain ⟨n, hn⟩ : ∃ n, nameN ((s.data.toList.drop i).drop 1) = n := ⟨_, rfl⟩
  have F0 := slo_bad (l := s.data.toList.drop i)
  have F1 := slo_ok (l := s.data.toList.drop i) hn
  have zn := nameN_le ((s.data.toList.drop i).drop 1)
  rw [hn] at F0 zn
  rw [← HF] at F0 F1
  rw [List.length_drop, List.length_drop, hz] at zn
  rw [List.drop_drop] at F1 hn
  have HL := Lib.hid h1
  have HD := Lib.hid h2
  have HN := Lib.hid hn
  have z1 : (i : Int) + 1 + (n : Int) ≤ (s.size : Int) := by omega
  generalize fst1 (s.data.toList.drop i) = x at F0 F1
  clear hn HF h1 h2 h3 hc hd hz
  by_cases h0 : n = 0
  · subst h0
    have F := F0 rfl
    have hq := refName7_c s hs (i + 1) (by omega)
    rw [HN.out] at hq
    have HQ := Lib.hid hq
    rw [F]
    clear hq F0 F1 F
    go_enter Tryd.func15, Tryd.ntmps15
    go_wp2_with fail
    rw [HC.out]
    refine (refLetter_c _ _).mono ?_
    rintro e w' ⟨rfl, rfl⟩
    rw [HL.out]
    go_wp2_with fail
    refine (refDigit_c _ _).mono ?_
    rintro e w' ⟨rfl, rfl⟩
    rw [HD.out]
    go_wp2_with fail
    refine (HQ.out _).mono ?_
    rintro e w' ⟨rfl, rfl⟩
    have LW : Hid (Low (w.alloc (.cells #[.int .i64 0, .string ⟨#[]⟩, .int .i64 0, .int .i64 0] 42)) (w.alloc (.cells #[.int .i64 0, .string ⟨#[]⟩, .int .i64 0, .int .i64 0] 42))) := Lib.hid (Low.refl _)
    obtain ⟨⟨c0, c1, c2, c3⟩, f0, f1, f2, f3⟩ := word_cells (b := w.heap.size) LW.out (alloc_at _ _)
    go_wp2_with fail
    refine bodyPost_ret (v := .tuple #[.agg #[.int .i64 0, .string ⟨#[]⟩, .int .i64 0, .int .i64 0], .int .i64 (i : Int), .int .i64 10]) (by simp [results, Tryd.results15, go_sem]) rfl ?_
    exact ⟨_, _, _, _, _, rfl, fun h => absurd h (by decide), low_new (Low.refl _) _⟩
  · have F := F1 h0
    have hq := refName7_c s hs (i + 1) (by omega)
    rw [HN.out] at hq
    have HQ := Lib.hid hq
    have z2 : ((i : Int) + 1 + (n : Int) == (i : Int) + 1) = false := by simp; omega
    rw [F]
    clear hq F0 F1 F
    go_enter Tryd.func15, Tryd.ntmps15
    go_wp2_with fail
    rw [HC.out]
    refine (refLetter_c _ _).mono ?_
    rintro e w' ⟨rfl, rfl⟩
    rw [HL.out]
    go_wp2_with fail
    refine (refDigit_c _ _).mono ?_
    rintro e w' ⟨rfl, rfl⟩
    rw [HD.out]
    go_wp2_with fail
    refine (HQ.out _).mono ?_
    rintro e w' ⟨rfl, rfl⟩
    have LW : Hid (Low (w.alloc (.cells #[.int .i64 0, .string ⟨#[]⟩, .int .i64 0, .int .i64 0] 42)) (w.alloc (.cells #[.int .i64 0, .string ⟨#[]⟩, .int .i64 0, .int .i64 0] 42))) := Lib.hid (Low.refl _)
    obtain ⟨⟨c0, c1, c2, c3⟩, f0, f1, f2, f3⟩ := word_cells (b := w.heap.size) LW.out (alloc_at _ _)
    go_wp2_with fail
    refine bodyPost_ret (v := .tuple #[.agg #[.int .i64 4, .string (s.extract (i + 1) (i + 1 + n)), .int .i64 0, .int .i64 (i : Int)], .int .i64 ((i : Int) + 1 + (n : Int)), .int .i64 0]) (by simp [results, Tryd.results15, go_sem]) rfl ?_
    exact ⟨_, _, _, _, _, rfl, fun _ => ⟨rfl, ext_part s (i + 1) n, rfl, rfl, by simp; omega⟩, low_new (Low.refl _) _⟩
set_option maxHeartbeats 1600000 in
theorem one_mrk (s : ByteArray) (hs : s.size ≤ 4294967294) (i : Nat) (hi : i < s.size) (h1 : letR (gb s i) = false) (h2 : digB (gb s i) = false) (h3 : (gb s i == 34) = false) (h4 : (gb s i == 63) = false) (w : World) :
    Calls Tryd.prog 15 #[.string s, .int .i64 (i : Int)] w (OneP (fst1 (s.data.toList.drop i)) i w) := by
  have hz : s.data.toList.length = s.size := by simp
  have z0 : (i : Int) < (s.size : Int) := by omega
  have HC := Lib.hid (gb_lt hi)
  have hd := drop_gb hi
  have q1 : (((gb s i).toNat : Int) == 34) = false := (eqb (gb s i) 34).trans h3
  have q2 : (((gb s i).toNat : Int) == 63) = false := (eqb (gb s i) 63).trans h4
  have HF : fst1 (s.data.toList.drop i) = mrkW (s.data.toList.drop i) := by rw [hd, fst1_cons, if_neg (by simp [h3]), if_neg (by simp [h4]), if_neg (by simp [h2]), if_neg (by simp [h1])]
  obtain ⟨n, hn⟩ : ∃ n, mrkN (s.data.toList.drop i) = n := ⟨_, rfl⟩
  have F0 := mrk_bad (l := s.data.toList.drop i)
  have F1 := mrk_ok (l := s.data.toList.drop i)
  have zn := mrkN_le (s.data.toList.drop i)
  rw [hn] at F0 F1 zn
  rw [← HF] at F0 F1
  rw [List.length_drop, hz] at zn
  have HL := Lib.hid h1
  have HD := Lib.hid h2
  have hq := refMark_c s hs i hi
  rw [hn] at hq
  have HQ := Lib.hid hq
  have z1 : (i : Int) + (n : Int) ≤ (s.size : Int) := by omega
  generalize fst1 (s.data.toList.drop i) = x at F0 F1
  clear hn HF h1 h2 h3 h4 hd hz hq
  by_cases h0 : n = 0
  · subst h0
    have F := F0 rfl
    rw [F]
    clear F0 F1 F
    go_enter Tryd.func15, Tryd.ntmps15
    go_wp2_with fail
    rw [HC.out]
    refine (refLetter_c _ _).mono ?_
    rintro e w' ⟨rfl, rfl⟩
    rw [HL.out]
    go_wp2_with fail
    refine (refDigit_c _ _).mono ?_
    rintro e w' ⟨rfl, rfl⟩
    rw [HD.out]
    go_wp2_with fail
    refine (HQ.out _).mono ?_
    rintro e w1 ⟨rfl, hw⟩
    have LX := Lib.hid hw
    clear hw
    obtain ⟨⟨c0, c1, c2, c3⟩, f0, f1, f2, f3⟩ := word_cells (b := w.heap.size) LX.out (alloc_at _ _)
    go_wp2_with fail
    obtain ⟨E0, E1, E2, E3⟩ := word_put c0 c1 c2 c3
    refine bodyPost_ret (v := .tuple #[.agg #[.int .i64 0, .string ⟨#[]⟩, .int .i64 0, .int .i64 0], .int .i64 (i : Int), .int .i64 10]) (by simp [results, Tryd.results15, go_sem, E0, E1, E2, E3]) rfl ?_
    exact ⟨_, _, _, _, _, rfl, fun h => absurd h (by decide), by repeat (first | with_reducible exact (low_new (Low.refl _) _).trans LX.out | with_reducible exact low_new (Low.refl _) _ | with_reducible refine low_put ?_ (by simp))⟩
  · have F := F1 h0
    have z2 : ((i : Int) + (n : Int) == (i : Int)) = false := by simp; omega
    rw [F]
    clear F0 F1 F
    go_enter Tryd.func15, Tryd.ntmps15
    go_wp2_with fail
    rw [HC.out]
    refine (refLetter_c _ _).mono ?_
    rintro e w' ⟨rfl, rfl⟩
    rw [HL.out]
    go_wp2_with fail
    refine (refDigit_c _ _).mono ?_
    rintro e w' ⟨rfl, rfl⟩
    rw [HD.out]
    go_wp2_with fail
    refine (HQ.out _).mono ?_
    rintro e w1 ⟨rfl, hw⟩
    have LX := Lib.hid hw
    clear hw
    obtain ⟨⟨c0, c1, c2, c3⟩, f0, f1, f2, f3⟩ := word_cells (b := w.heap.size) LX.out (alloc_at _ _)
    go_wp2_with fail
    obtain ⟨E0, E1, E2, E3⟩ := word_put c0 c1 c2 c3
    refine bodyPost_ret (v := .tuple #[.agg #[.int .i64 5, .string (s.extract i (i + n)), .int .i64 0, .int .i64 (i : Int)], .int .i64 ((i : Int) + (n : Int)), .int .i64 0]) (by simp [results, Tryd.results15, go_sem, E0, E1, E2, E3]) rfl ?_
    exact ⟨_, _, _, _, _, rfl, fun _ => ⟨rfl, ext_part s i n, rfl, rfl, by simp⟩, by repeat (first | with_reducible exact (low_new (Low.refl _) _).trans LX.out | with_reducible exact low_new (Low.refl _) _ | with_reducible refine low_put ?_ (by simp))⟩
theorem one_c (s : ByteArray) (hs : s.size ≤ 4294967294) (i : Nat) (hi : i < s.size) (w : World) :
    Calls Tryd.prog 15 #[.string s, .int .i64 (i : Int)] w (OneP (fst1 (s.data.toList.drop i)) i w) := by
  cases h1 : letR (gb s i) with
  | true => exact one_let s hs i hi h1 w
  | false =>
    cases h2 : digB (gb s i) with
    | true => exact one_dig s hs i hi h1 h2 w
    | false =>
      cases h3 : gb s i == 34 with
      | true => exact one_quo s hs i hi h3 w
      | false =>
        cases h4 : gb s i == 63 with
        | true => exact one_slo s hs i hi h4 w
        | false => exact one_mrk s hs i hi h1 h2 h3 h4 w
end Go.Proofs.YtdblkjcimegoeaaDoor
