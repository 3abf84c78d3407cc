/- Package lex's first word, and all words, of any text. Condition: the text is shorter than 2^32; the table of marks is as it was laid. -/
import Derived.Test.YtdblkjcimegoeaaDoorLexD
import Derived.Test.YtdblkjcimegoeaaDoorOwnG
namespace Go.Proofs.YtdblkjcimegoeaaDoor
open Go.RowKit
theorem nam_none {s : ByteArray} (_h : 0 < s.size) (hl : letR (gb s 0) = false) : nameN s.data.toList = 0 := by
  have e : gb s 0 = s.data.toList.getD 0 0 := rfl
  have hz : s.data.toList.length = s.size := by simp
  rw [e] at hl
  generalize s.data.toList = l at *
  match l with
  | [] => rfl
  | c :: r =>
    show (if letR c = true then spanN namB r + 1 else 0) = 0
    have h' : letR c = false := hl
    rw [if_neg (by simp [h'])]
theorem list_gb {s : ByteArray} (h : 0 < s.size) : ∃ r, s.data.toList = gb s 0 :: r := by
  have e : gb s 0 = s.data.toList.getD 0 0 := rfl
  have hz : s.data.toList.length = s.size := by simp
  rw [e]
  generalize s.data.toList = l at *
  match l with
  | [] => simp at hz; omega
  | c :: r => exact ⟨r, rfl⟩
theorem lf_quo {s : ByteArray} (h : 0 < s.size) (h1 : (gb s 0 == 34) = true) : fst1 s.data.toList = quoW s.data.toList := by
  obtain ⟨r, hr⟩ := list_gb h
  rw [hr, fst1_cons, if_pos h1]
theorem lf_slo {s : ByteArray} (h : 0 < s.size) (h1 : (gb s 0 == 34) = false) (h2 : (gb s 0 == 63) = true) : fst1 s.data.toList = sloW s.data.toList := by
  obtain ⟨r, hr⟩ := list_gb h
  rw [hr, fst1_cons, if_neg (by simp [h1]), if_pos h2]
theorem lf_num {s : ByteArray} (h : 0 < s.size) (h1 : (gb s 0 == 34) = false) (h2 : (gb s 0 == 63) = false) (h3 : digB (gb s 0) = true) : fst1 s.data.toList = numW s.data.toList := by
  obtain ⟨r, hr⟩ := list_gb h
  rw [hr, fst1_cons, if_neg (by simp [h1]), if_neg (by simp [h2]), if_pos h3]
theorem lf_nam {s : ByteArray} (h : 0 < s.size) (h1 : (gb s 0 == 34) = false) (h2 : (gb s 0 == 63) = false) (h3 : digB (gb s 0) = false) (h4 : letR (gb s 0) = true) : fst1 s.data.toList = ⟨0, 1, s.data.toList.take (nameN s.data.toList), 0, nameN s.data.toList⟩ := by
  obtain ⟨r, hr⟩ := list_gb h
  rw [hr, fst1_cons, if_neg (by simp [h1]), if_neg (by simp [h2]), if_neg (by simp [h3]), if_pos h4]
theorem lf_mrk {s : ByteArray} (h : 0 < s.size) (h1 : (gb s 0 == 34) = false) (h2 : (gb s 0 == 63) = false) (h3 : digB (gb s 0) = false) (h4 : letR (gb s 0) = false) : fst1 s.data.toList = mrkW s.data.toList := by
  obtain ⟨r, hr⟩ := list_gb h
  rw [hr, fst1_cons, if_neg (by simp [h1]), if_neg (by simp [h2]), if_neg (by simp [h3]), if_neg (by simp [h4])]
set_option maxHeartbeats 1600000 in
theorem first1_c (s : ByteArray) (hs : s.size ≤ 4294967294) (hp : 0 < s.size) (w : World) (hm : MkAt w) : Calls Tryd.prog 13 #[.string s] w fun e w' => e = .returned (fwV (fst1 s.data.toList)) ∧ Low w w' := by
  have q1 : ((s[0].toNat : Int) == 34) = (gb s 0 == 34) := by rw [gb_lt hp]; exact eqb (gb s 0) 34
  have q2 : ((s[0].toNat : Int) == 63) = (gb s 0 == 63) := by rw [gb_lt hp]; exact eqb (gb s 0) 63
  have HC := Lib.hid (gb_lt hp)
  have HM : ∀ X, Hid (MkAt (w.alloc X)) := fun X => Lib.hid (hm.low (low_new (Low.refl _) X))
  clear hm
  cases h1 : gb s 0 == 34 with
  | true =>
    have F := Lib.hid (lf_quo hp h1)
    have H34 : Hid (s.data.toList.head? = some 34) := by
      obtain ⟨r, hr⟩ := list_gb hp
      exact Lib.hid (by rw [hr]; simp at h1; simp [h1])
    rw [h1] at q1
    clear h1
    go_enter Tryd.func13, Tryd.ntmps13
    go_wp2_with fail
    refine (quoted_c s hs H34.out _).mono ?_
    rintro e w1 ⟨rfl, hw⟩
    have HW := Lib.hid hw
    clear hw
    unfold fwV
    obtain ⟨x, hx⟩ : ∃ x, quoW s.data.toList = x := ⟨_, rfl⟩
    rw [hx]
    obtain ⟨⟨c0, c1, c2, c3⟩, f0, f1, f2, f3⟩ := word_cells (b := w.heap.size) HW.out (alloc_at _ _)
    go_wp2_with fail
    obtain ⟨E0, E1, E2, E3⟩ := word_put c0 c1 c2 c3
    refine bodyPost_ret (v := .tuple #[.agg #[.int .i64 x.k, .string ⟨x.t.toArray⟩, .int .i64 x.n, .int .i64 0], .int .i64 (x.w : Int), .int .i64 x.e]) (by simp [results, Tryd.results13, go_sem, E0, E1, E2, E3]) rfl ?_
    exact ⟨by rw [F.out, hx]; rfl, by repeat (first | with_reducible exact (low_new (Low.refl _) _).trans HW.out | with_reducible refine low_put ?_ (by simp))⟩
  | false =>
    cases h2 : gb s 0 == 63 with
    | true =>
      have F := Lib.hid (lf_slo hp h1 h2)
      rw [h1] at q1
      rw [h2] at q2
      clear h1 h2
      go_enter Tryd.func13, Tryd.ntmps13
      go_wp2_with fail
      refine (slot_c s hs hp _).mono ?_
      rintro e w1 ⟨rfl, hw⟩
      have HW := Lib.hid hw
      clear hw
      unfold fwV
      obtain ⟨x, hx⟩ : ∃ x, sloW s.data.toList = x := ⟨_, rfl⟩
      rw [hx]
      obtain ⟨⟨c0, c1, c2, c3⟩, f0, f1, f2, f3⟩ := word_cells (b := w.heap.size) HW.out (alloc_at _ _)
      go_wp2_with fail
      obtain ⟨E0, E1, E2, E3⟩ := word_put c0 c1 c2 c3
      refine bodyPost_ret (v := .tuple #[.agg #[.int .i64 x.k, .string ⟨x.t.toArray⟩, .int .i64 x.n, .int .i64 0], .int .i64 (x.w : Int), .int .i64 x.e]) (by simp [results, Tryd.results13, go_sem, E0, E1, E2, E3]) rfl ?_
      exact ⟨by rw [F.out, hx]; rfl, by repeat (first | with_reducible exact (low_new (Low.refl _) _).trans HW.out | with_reducible refine low_put ?_ (by simp))⟩
    | false =>
      cases h3 : digB (gb s 0) with
      | true =>
        have F := Lib.hid (lf_num hp h1 h2 h3)
        rw [h1] at q1
        rw [h2] at q2
        have H3 := Lib.hid h3
        clear h1 h2 h3
        go_enter Tryd.func13, Tryd.ntmps13
        go_wp2_with fail
        rw [HC.out]
        refine (lexDigit_c _ _).mono ?_
        rintro e w' ⟨rfl, rfl⟩
        rw [H3.out]
        go_wp2_with fail
        refine (number_c s (by omega) _).mono ?_
        rintro e w1 ⟨rfl, hw⟩
        have HW := Lib.hid hw
        clear hw
        unfold fwV
        obtain ⟨x, hx⟩ : ∃ x, numW s.data.toList = x := ⟨_, rfl⟩
        rw [hx]
        obtain ⟨⟨c0, c1, c2, c3⟩, f0, f1, f2, f3⟩ := word_cells (b := w.heap.size) HW.out (alloc_at _ _)
        go_wp2_with fail
        obtain ⟨E0, E1, E2, E3⟩ := word_put c0 c1 c2 c3
        refine bodyPost_ret (v := .tuple #[.agg #[.int .i64 x.k, .string ⟨x.t.toArray⟩, .int .i64 x.n, .int .i64 0], .int .i64 (x.w : Int), .int .i64 x.e]) (by simp [results, Tryd.results13, go_sem, E0, E1, E2, E3]) rfl ?_
        exact ⟨by rw [F.out, hx]; rfl, by repeat (first | with_reducible exact (low_new (Low.refl _) _).trans HW.out | with_reducible refine low_put ?_ (by simp))⟩
      | false =>
        have ND : ∀ n, nameN s.data.toList = n → Hid (nameN s.data.toList = n) := fun n h => Lib.hid h
        cases h4 : letR (gb s 0) with
        | true =>
          have F := Lib.hid (lf_nam hp h1 h2 h3 h4)
          have zp : 0 < nameN s.data.toList := by
            obtain ⟨r, hr⟩ := list_gb hp
            rw [hr]; exact nameN_pos h4
          have zl := nameN_le s.data.toList
          have hz : s.data.toList.length = s.size := by simp
          obtain ⟨n, hn⟩ : ∃ n, nameN s.data.toList = n := ⟨_, rfl⟩
          rw [hn] at zp zl F
          have HN := Lib.hid hn
          have z1 : (0 : Int) < (n : Int) := by omega
          have z2 : (n : Int) ≤ (s.size : Int) := by omega
          rw [h1] at q1
          rw [h2] at q2
          have H3 := Lib.hid h3
          clear h1 h2 h3 h4 hn hz ND
          go_enter Tryd.func13, Tryd.ntmps13
          go_wp2_with fail
          rw [HC.out]
          refine (lexDigit_c _ _).mono ?_
          rintro e w' ⟨rfl, rfl⟩
          rw [H3.out]
          go_wp2_with fail
          refine (nameLength_c s (by omega) _).mono ?_
          rintro e w1 ⟨rfl, hw⟩
          rw [HN.out]
          have HW := Lib.hid hw
          clear hw
          obtain ⟨⟨c0, c1, c2, c3⟩, f0, f1, f2, f3⟩ := word_cells (b := w.heap.size) HW.out (alloc_at _ _)
          go_wp2_with fail
          obtain ⟨E0, E1, E2, E3⟩ := word_put c0 c1 c2 c3
          refine bodyPost_ret (v := .tuple #[.agg #[.int .i64 1, .string (s.extract 0 n), .int .i64 0, .int .i64 0], .int .i64 (n : Int), .int .i64 0]) (by simp [results, Tryd.results13, go_sem, E0, E1, E2, E3]) rfl ?_
          exact ⟨by rw [F.out, ext_mk0]; rfl, by repeat (first | with_reducible exact (low_new (Low.refl _) _).trans HW.out | with_reducible refine low_put ?_ (by simp))⟩
        | false =>
          have F := Lib.hid (lf_mrk hp h1 h2 h3 h4)
          have HN := Lib.hid (nam_none hp h4)
          rw [h1] at q1
          rw [h2] at q2
          have H3 := Lib.hid h3
          clear h1 h2 h3 h4 ND
          go_enter Tryd.func13, Tryd.ntmps13
          go_wp2_with fail
          rw [HC.out]
          refine (lexDigit_c _ _).mono ?_
          rintro e w' ⟨rfl, rfl⟩
          rw [H3.out]
          go_wp2_with fail
          refine (nameLength_c s (by omega) _).mono ?_
          rintro e w2 ⟨rfl, hw2⟩
          rw [HN.out]
          have HM2 : Hid (MkAt w2) := Lib.hid ((HM _).out.low hw2)
          have HW2 := Lib.hid hw2
          clear hw2
          go_wp2_with fail
          refine (mark_c s hs _ HM2.out).mono ?_
          rintro e w1 ⟨rfl, hw⟩
          have HW := Lib.hid (HW2.out.trans hw)
          clear hw
          unfold fwV
          obtain ⟨x, hx⟩ : ∃ x, mrkW s.data.toList = x := ⟨_, rfl⟩
          rw [hx]
          obtain ⟨⟨c0, c1, c2, c3⟩, f0, f1, f2, f3⟩ := word_cells (b := w.heap.size) HW.out (alloc_at _ _)
          go_wp2_with fail
          obtain ⟨E0, E1, E2, E3⟩ := word_put c0 c1 c2 c3
          refine bodyPost_ret (v := .tuple #[.agg #[.int .i64 x.k, .string ⟨x.t.toArray⟩, .int .i64 x.n, .int .i64 0], .int .i64 (x.w : Int), .int .i64 x.e]) (by simp [results, Tryd.results13, go_sem, E0, E1, E2, E3]) rfl ?_
          exact ⟨by rw [F.out, hx]; rfl, by repeat (first | with_reducible exact (low_new (Low.refl _) _).trans HW.out | with_reducible refine low_put ?_ (by simp))⟩
end Go.Proofs.YtdblkjcimegoeaaDoor
