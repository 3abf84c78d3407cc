/- Package lex's first word, and all words, of any text. Condition: the text is shorter than 2^32; the table of marks is as it was laid. Package lex's words of any text. Condition: the text is shorter than 2^32; the table of marks is as it was laid. -/
import Derived.Test.YtflpidnkppljlaaDoorLexD
import Derived.Test.YtflpidnkppljlaaDoorOwnG
set_option linter.unusedVariables false
set_option linter.unnecessarySimpa false
set_option linter.unusedSimpArgs false
namespace Go.Proofs.YtflpidnkppljlaaDoor
open Go.RowKit
theorem nam_none {s : ByteArray} (_h : 0 < s.size) (hl : letR (gb s 0) = false) : nameN s.data.toList = 0 := by
  have e : gb s 0 = s.data.toList.getD 0 0 := rfl
  have hz : s.data.toList.length = s.size := by simp
  rw [e] at hl
  generalize s.data.toList = l at *
  match l with
  | [] => rfl
  | c :: r =>
    show (if letR c = true then spanN namB r + 1 else 0) = 0
    have h' : letR c = false := hl
    rw [if_neg (by simp [h'])]
theorem list_gb {s : ByteArray} (h : 0 < s.size) : ∃ r, s.data.toList = gb s 0 :: r := by
  have e : gb s 0 = s.data.toList.getD 0 0 := rfl
  have hz : s.data.toList.length = s.size := by simp
  rw [e]
  generalize s.data.toList = l at *
  match l with
  | [] => simp at hz; omega
  | c :: r => exact ⟨r, rfl⟩
theorem lf_quo {s : ByteArray} (h : 0 < s.size) (h1 : (gb s 0 == 34) = true) : fst1 s.data.toList = quoW s.data.toList := by
  obtain ⟨r, hr⟩ := list_gb h
  rw [hr, fst1_cons, if_pos h1]
theorem lf_slo {s : ByteArray} (h : 0 < s.size) (h1 : (gb s 0 == 34) = false) (h2 : (gb s 0 == 63) = true) : fst1 s.data.toList = sloW s.data.toList := by
  obtain ⟨r, hr⟩ := list_gb h
  rw [hr, fst1_cons, if_neg (by simp [h1]), if_pos h2]
theorem lf_num {s : ByteArray} (h : 0 < s.size) (h1 : (gb s 0 == 34) = false) (h2 : (gb s 0 == 63) = false) (h3 : digB (gb s 0) = true) : fst1 s.data.toList = numW s.data.toList := by
  obtain ⟨r, hr⟩ := list_gb h
  rw [hr, fst1_cons, if_neg (by simp [h1]), if_neg (by simp [h2]), if_pos h3]
theorem lf_nam {s : ByteArray} (h : 0 < s.size) (h1 : (gb s 0 == 34) = false) (h2 : (gb s 0 == 63) = false) (h3 : digB (gb s 0) = false) (h4 : letR (gb s 0) = true) : fst1 s.data.toList = ⟨0, 1, s.data.toList.take (nameN s.data.toList), 0, nameN s.data.toList⟩ := by
  obtain ⟨r, hr⟩ := list_gb h
  rw [hr, fst1_cons, if_neg (by simp [h1]), if_neg (by simp [h2]), if_neg (by simp [h3]), if_pos h4]
theorem lf_mrk {s : ByteArray} (h : 0 < s.size) (h1 : (gb s 0 == 34) = false) (h2 : (gb s 0 == 63) = false) (h3 : digB (gb s 0) = false) (h4 : letR (gb s 0) = false) : fst1 s.data.toList = mrkW s.data.toList := by
  obtain ⟨r, hr⟩ := list_gb h
  rw [hr, fst1_cons, if_neg (by simp [h1]), if_neg (by simp [h2]), if_neg (by simp [h3]), if_neg (by simp [h4])]
set_option maxHeartbeats 1600000 in
theorem first1_c (s : ByteArray) (hs : s.size ≤ 4294967294) (hp : 0 < s.size) (w : World) (hm : MkAt w) : Calls Tryd.prog 14 #[.string s] w fun e w' => e = .returned (fwV (fst1 s.data.toList)) ∧ Low w w' := by
  have q1 : ((s[0].toNat : Int) == 34) = (gb s 0 == 34) := by rw [gb_lt hp]; exact eqb (gb s 0) 34
  have q2 : ((s[0].toNat : Int) == 63) = (gb s 0 == 63) := by rw [gb_lt hp]; exact eqb (gb s 0) 63
  have HC := Lib.hid (gb_lt hp)
  have HM : ∀ X, Hid (MkAt (w.alloc X)) := fun X => Lib.hid (hm.low (low_new (Low.refl _) X))
  clear hm
  cases h1 : gb s 0 == 34 with
  | true =>
    have F := Lib.hid (lf_quo hp h1)
    have H34 : Hid (s.data.toList.head? = some 34) := by
      obtain ⟨r, hr⟩ := list_gb hp
      exact Lib.hid (by rw [hr]; simp at h1; simp [h1])
    rw [h1] at q1
    clear h1
    go_enter Tryd.func14, Tryd.ntmps14
    go_wp2_with fail
    refine (quoted_c s hs H34.out _).mono ?_
    rintro e w1 ⟨rfl, hw⟩
    have HW := Lib.hid hw
    clear hw
    unfold fwV
    obtain ⟨x, hx⟩ : ∃ x, quoW s.data.toList = x := ⟨_, rfl⟩
    rw [hx]
    obtain ⟨⟨c0, c1, c2, c3⟩, f0, f1, f2, f3⟩ := word_cells (b := w.heap.size) HW.out (alloc_at _ _)
    go_wp2_with fail
    obtain ⟨E0, E1, E2, E3⟩ := word_put c0 c1 c2 c3
    refine bodyPost_ret (v := .tuple #[.agg #[.int .i64 x.k, .string ⟨x.t.toArray⟩, .int .i64 x.n, .int .i64 0], .int .i64 (x.w : Int), .int .i64 x.e]) (by simp [results, Tryd.results14, go_sem, E0, E1, E2, E3]) rfl ?_
    exact ⟨by rw [F.out, hx]; rfl, by repeat (first | with_reducible exact (low_new (Low.refl _) _).trans HW.out | with_reducible refine low_put ?_ (by simp))⟩
  | false =>
    cases h2 : gb s 0 == 63 with
    | true =>
      have F := Lib.hid (lf_slo hp h1 h2)
      rw [h1] at q1
      rw [h2] at q2
      clear h1 h2
      go_enter Tryd.func14, Tryd.ntmps14
      go_wp2_with fail
      refine (slot_c s hs hp _).mono ?_
      rintro e w1 ⟨rfl, hw⟩
      have HW := Lib.hid hw
      clear hw
      unfold fwV
      obtain ⟨x, hx⟩ : ∃ x, sloW s.data.toList = x := ⟨_, rfl⟩
      rw [hx]
      obtain ⟨⟨c0, c1, c2, c3⟩, f0, f1, f2, f3⟩ := word_cells (b := w.heap.size) HW.out (alloc_at _ _)
      go_wp2_with fail
      obtain ⟨E0, E1, E2, E3⟩ := word_put c0 c1 c2 c3
      refine bodyPost_ret (v := .tuple #[.agg #[.int .i64 x.k, .string ⟨x.t.toArray⟩, .int .i64 x.n, .int .i64 0], .int .i64 (x.w : Int), .int .i64 x.e]) (by simp [results, Tryd.results14, go_sem, E0, E1, E2, E3]) rfl ?_
      exact ⟨by rw [F.out, hx]; rfl, by repeat (first | with_reducible exact (low_new (Low.refl _) _).trans HW.out | with_reducible refine low_put ?_ (by simp))⟩
    | false =>
      cases h3 : digB (gb s 0) with
      | true =>
        have F := Lib.hid (lf_num hp h1 h2 h3)
        rw [h1] at q1
        rw [h2] at q2
        have H3 := Lib.hid h3
        clear h1 h2 h3
        go_enter Tryd.func14, Tryd.ntmps14
        go_wp2_with fail
        rw [HC.out]
        refine (lexDigit_c _ _).mono ?_
        rintro e w' ⟨rfl, rfl⟩
        rw [H3.out]
        go_wp2_with fail
        refine (number_c s (by omega) _).mono ?_
        rintro e w1 ⟨rfl, hw⟩
        have HW := Lib.hid hw
        clear hw
        unfold fwV
        obtain ⟨x, hx⟩ : ∃ x, numW s.data.toList = x := ⟨_, rfl⟩
        rw [hx]
        obtain ⟨⟨c0, c1, c2, c3⟩, f0, f1, f2, f3⟩ := word_cells (b := w.heap.size) HW.out (alloc_at _ _)
        go_wp2_with fail
        obtain ⟨E0, E1, E2, E3⟩ := word_put c0 c1 c2 c3
        refine bodyPost_ret (v := .tuple #[.agg #[.int .i64 x.k, .string ⟨x.t.toArray⟩, .int .i64 x.n, .int .i64 0], .int .i64 (x.w : Int), .int .i64 x.e]) (by simp [results, Tryd.results14, go_sem, E0, E1, E2, E3]) rfl ?_
        exact ⟨by rw [F.out, hx]; rfl, by repeat (first | with_reducible exact (low_new (Low.refl _) _).trans HW.out | with_reducible refine low_put ?_ (by simp))⟩
      | false =>
        have ND : ∀ n, nameN s.data.toList = n → Hid (nameN s.data.toList = n) := fun n h => Lib.hid h
        cases h4 : letR (gb s 0) with
        | true =>
          have F := Lib.hid (lf_nam hp h1 h2 h3 h4)
          have zp : 0 < nameN s.data.toList := by
            obtain ⟨r, hr⟩ := list_gb hp
            rw [hr]; exact nameN_pos h4
          have zl := nameN_le s.data.toList
          have hz : s.data.toList.length = s.size := by simp
          obtain ⟨n, hn⟩ : ∃ n, nameN s.data.toList = n := ⟨_, rfl⟩
          rw [hn] at zp zl F
          have HN := Lib.hid hn
          have z1 : (0 : Int) < (n : Int) := by omega
          have z2 : (n : Int) ≤ (s.size : Int) := by omega
          rw [h1] at q1
          rw [h2] at q2
          have H3 := Lib.hid h3
          clear h1 h2 h3 h4 hn hz ND
          go_enter Tryd.func14, Tryd.ntmps14
          go_wp2_with fail
          rw [HC.out]
          refine (lexDigit_c _ _).mono ?_
          rintro e w' ⟨rfl, rfl⟩
          rw [H3.out]
          go_wp2_with fail
          refine (nameLength_c s (by omega) _).mono ?_
          rintro e w1 ⟨rfl, hw⟩
          rw [HN.out]
          have HW := Lib.hid hw
          clear hw
          obtain ⟨⟨c0, c1, c2, c3⟩, f0, f1, f2, f3⟩ := word_cells (b := w.heap.size) HW.out (alloc_at _ _)
          go_wp2_with fail
          obtain ⟨E0, E1, E2, E3⟩ := word_put c0 c1 c2 c3
          refine bodyPost_ret (v := .tuple #[.agg #[.int .i64 1, .string (s.extract 0 n), .int .i64 0, .int .i64 0], .int .i64 (n : Int), .int .i64 0]) (by simp [results, Tryd.results14, go_sem, E0, E1, E2, E3]) rfl ?_
          exact ⟨by rw [F.out, ext_mk0]; rfl, by repeat (first | with_reducible exact (low_new (Low.refl _) _).trans HW.out | with_reducible refine low_put ?_ (by simp))⟩
        | false =>
          have F := Lib.hid (lf_mrk hp h1 h2 h3 h4)
          have HN := Lib.hid (nam_none hp h4)
          rw [h1] at q1
          rw [h2] at q2
          have H3 := Lib.hid h3
          clear h1 h2 h3 h4 ND
          go_enter Tryd.func14, Tryd.ntmps14
          go_wp2_with fail
          rw [HC.out]
          refine (lexDigit_c _ _).mono ?_
          rintro e w' ⟨rfl, rfl⟩
          rw [H3.out]
          go_wp2_with fail
          refine (nameLength_c s (by omega) _).mono ?_
          rintro e w2 ⟨rfl, hw2⟩
          rw [HN.out]
          have HM2 : Hid (MkAt w2) := Lib.hid ((HM _).out.low hw2)
          have HW2 := Lib.hid hw2
          clear hw2
          go_wp2_with fail
          refine (mark_c s hs _ HM2.out).mono ?_
          rintro e w1 ⟨rfl, hw⟩
          have HW := Lib.hid (HW2.out.trans hw)
          clear hw
          unfold fwV
          obtain ⟨x, hx⟩ : ∃ x, mrkW s.data.toList = x := ⟨_, rfl⟩
          rw [hx]
          obtain ⟨⟨c0, c1, c2, c3⟩, f0, f1, f2, f3⟩ := word_cells (b := w.heap.size) HW.out (alloc_at _ _)
          go_wp2_with fail
          obtain ⟨E0, E1, E2, E3⟩ := word_put c0 c1 c2 c3
          refine bodyPost_ret (v := .tuple #[.agg #[.int .i64 x.k, .string ⟨x.t.toArray⟩, .int .i64 x.n, .int .i64 0], .int .i64 (x.w : Int), .int .i64 x.e]) (by simp [results, Tryd.results14, go_sem, E0, E1, E2, E3]) rfl ?_
          exact ⟨by rw [F.out, hx]; rfl, by repeat (first | with_reducible exact (low_new (Low.refl _) _).trans HW.out | with_reducible refine low_put ?_ (by simp))⟩
end Go.Proofs.YtflpidnkppljlaaDoor
namespace Go.Proofs.YtflpidnkppljlaaDoor
open Go.RowKit
theorem lw_info : (Tryd.prog.info? 46).map (fun i => (i.zero, i.size, i.bytes)) = some (some (.agg #[.int .i64 0, .string ⟨#[]⟩, .int .i64 0, .int .i64 0]), 4, 40) := by kernel_rfl
theorem Low.trans_below {a b d : World} (h : Low a b) {B : Nat} (k : RowKit.Below B b d) (hB : a.heap.size ≤ B) : Low a d :=
  ⟨k.os.trans h.1, k.output.trans h.2.1, Nat.le_trans h.2.2.1 k.size, fun i hi => (k.block i (Nat.lt_of_lt_of_le hi hB)).trans (h.2.2.2 i hi)⟩
/-- The words lie in a row of the call's own. -/
abbrev OwnW (B : Nat) (w : World) (v : Value) (l : List Wd) : Prop := OwnR 46 4 encW B w v l
def WordsP (L : List UInt8) (w : World) (e : Ending) (w' : World) : Prop :=
  ∃ v, e = .returned (.tuple #[v, .int .i64 (lexL L).1, .int .i64 ((lexL L).2.1 : Nat)]) ∧ OwnW w.heap.size w' v (lexL L).2.2 ∧ Low w w'
theorem lexF_place : ∀ (f : Nat) (l : List UInt8) (a : Nat), (lexF f l a).1 = 0 → (lexF f l a).2.1 = 0
  | 0, _, _, _ => rfl
  | f + 1, l, a, h => by
    rw [lexF] at h ⊢
    by_cases h0 : l.isEmpty = true
    · rw [if_pos h0]
    · rw [if_neg h0] at h ⊢
      by_cases he : (fst1 l).e = 0
      · rw [if_pos he] at h ⊢
        split
        · rfl
        · rename_i hr
          rw [if_neg hr] at h
          exact absurd h hr
      · rw [if_neg he] at h
        exact absurd h he
theorem comb_nil (l : List UInt8) (a : Nat) : comb [] (lexR l a) = lexR l a := by
  have h := lexF_place l.length l a
  unfold comb lexR
  generalize lexF l.length l a = R at *
  split
  · rename_i hr
    have := h hr
    obtain ⟨x, y, z⟩ := R
    simp at hr this
    simp [hr, this]
  · rfl
theorem lexL_long {l : List UInt8} (h : 65536 < l.length) : lexL l = (12, 0, []) := by unfold lexL; rw [if_pos h]
theorem lexL_start {l : List UInt8} (h : ¬ 65536 < l.length) : lexL l = comb [] (lexR (l.drop (skp false l)) (skp false l)) := by unfold lexL; rw [if_neg h, comb_nil]
theorem comb_bad {l : List UInt8} {a : Nat} {ws : List Wd} (h0 : l ≠ []) (he : ¬ (fst1 l).e = 0) : comb ws (lexR l a) = ((fst1 l).e, a, []) := by
  rw [lexR_bad h0 he]; unfold comb; rw [if_neg he]
theorem comb_end (ws : List Wd) (a : Nat) : comb ws (lexR [] a) = (0, 0, ws ++ [⟨0, [], 0, a⟩]) := rfl
set_option maxHeartbeats 3200000 in
theorem words_c (s : ByteArray) (hs : s.size ≤ 4294967294) (w : World) (hm : MkAt w) : Calls Tryd.prog 10 #[.string s] w (WordsP s.data.toList w) := by
  have hz : s.data.toList.length = s.size := by simp
  by_cases hl : 65536 < s.size
  · have R := lexL_long (l := s.data.toList) (by omega)
    have z0 : (65536 : Int) < (s.size : Int) := by omega
    unfold WordsP
    rw [R]
    clear R
    go_enter Tryd.func10, Tryd.ntmps10
    go_wp2_with fail
    go_ret3
    exact ⟨_, rfl, OwnR.nil _ _ _ _ _, Low.refl _⟩
  · have R := lexL_start (l := s.data.toList) (by omega)
    have z0 : ¬ (65536 : Int) < (s.size : Int) := by omega
    have zk := skp_le false s.data.toList
    obtain ⟨k0, hk0⟩ : ∃ k0, skp false s.data.toList = k0 := ⟨_, rfl⟩
    rw [hk0] at R zk
    rw [hz] at zk
    have HK := Lib.hid hk0
    have HR := Lib.hid R
    have HM := Lib.hid hm
    clear hk0 R hm
    go_enter Tryd.func10, Tryd.ntmps10
    go_wp2_with fail
    refine (gap_c s (by omega) _).mono ?_
    rintro e w1 ⟨rfl, hw1⟩
    rw [HK.out]
    have L1 := Lib.hid hw1
    clear hw1
    go_wp2_with fail
    go_loopg [5, 6] s.size (fun gk vs va wr => ∃ (v : Value) (k : Nat) (ws : List Wd), v = vs ∧ va = .int .i64 (k : Int) ∧ k ≤ s.size ∧ s.size - k ≤ gk ∧ ws.length ≤ k ∧ Hid (Low w wr) ∧ Hid (OwnW w.heap.size wr v ws) ∧ Hid (lexL s.data.toList = comb ws (lexR (s.data.toList.drop k) k)))
    case atStart => exact ⟨_, k0, [], rfl, rfl, zk, by omega, Nat.zero_le _, L1, Lib.hid (OwnR.nil _ _ _ _ _), HR⟩
    case round =>
      obtain ⟨v, k, ws, rfl, rfl, hk, hg, hwl, G, O, K⟩ := hrel
      by_cases hlt : k < s.size
      · have z1 : (k : Int) < (s.size : Int) := by omega
        have z2 : (k : Int) ≤ (s.size : Int) := by omega
        have hne : s.data.toList.drop k ≠ [] := by
          intro e
          have := congrArg List.length e
          rw [List.length_drop] at this
          simp at this; omega
        have DZ : (s.extract k s.size).size = s.size - k := by rw [ByteArray.size_extract]; omega
        have HF := Lib.hid (first1_c (s.extract k s.size) (by omega) (by omega) wr (HM.out.low G.out))
        obtain ⟨x, hx⟩ : ∃ x, fst1 (s.data.toList.drop k) = x := ⟨_, rfl⟩
        have HX : Hid (fst1 (s.extract k s.size).data.toList = x) := Lib.hid (by rw [ext_to]; exact hx)
        clear DZ
        by_cases he : x.e = 0
        · have hw := fst1_w (l := s.data.toList.drop k) (by rw [hx]; exact he)
          rw [hx, List.length_drop, hz] at hw
          have hstep := lexR_step (a := k) hne (by rw [hx]; exact he) ws
          rw [hx] at hstep
          have hsk := skp_le false ((s.data.toList.drop k).drop x.w)
          rw [List.length_drop, List.length_drop, hz] at hsk
          obtain ⟨g, hg0⟩ : ∃ g, skp false ((s.data.toList.drop k).drop x.w) = g := ⟨_, rfl⟩
          rw [hg0] at hstep hsk
          rw [List.drop_drop] at hstep
          obtain ⟨xe, xk, xt, xn, xw⟩ := x
          simp only at hw hsk hstep he hg0
          subst he
          have NX : Hid (lexL s.data.toList = comb (ws ++ [⟨xk, xt, xn, k⟩]) (lexR (s.data.toList.drop (k + xw + g)) (k + xw + g))) := Lib.hid (by rw [K.out, hstep, Nat.add_assoc])
          have HG : Hid (skp false (s.extract (k + xw) s.size).data.toList = g) := Lib.hid (by rw [ext_to, ← hg0, List.drop_drop])
          have GL : Hid ((s.extract (k + xw) s.size).size ≤ 9223372036854775807) := Lib.hid (Nat.le_trans (ext_le _ _ _) (by omega))
          have z4 : (k : Int) + (xw : Int) ≤ (s.size : Int) := by omega
          have z5 : (k : Int) + (xw : Int) + (g : Int) ≤ (s.size : Int) := by omega
          have hsz : w.heap.size ≤ wr.heap.size := G.out.size
          have hw1 := hw.1
          clear hstep hg0 hw hx hne
          go_wp2_with fail
          refine HF.out.mono ?_
          rintro e w2 ⟨rfl, hw2⟩
          rw [HX.out]
          unfold fwV
          have L2 := Lib.hid hw2
          have hsz2 : wr.heap.size ≤ w2.heap.size := hw2.size
          clear hw2
          go_wp2_with (at_builtin; refine appR rfl _ _ _ rfl Tryd.underlying38 lw_info rfl (by decide) (by decide) encW_len encW_one w.heap.size v ws rfl (OwnR.alloc (OwnR.alloc (OwnR.low O.out L2.out) _) _) ⟨xk, xt, xn, k⟩ ⟨w2.heap.size + 1, 0, none⟩ 1 rfl (fun j u hj => newcell_at _ _ _ _ _ rfl hj) (by omega) (by show w.heap.size ≤ ((w2.alloc _).alloc _).heap.size; simp; omega) ?_; intro v2 w3 h2 b2 k2 n2)
          have LL : Hid (Low w w3) := Lib.hid ((low_new (low_new (G.out.trans L2.out) _) _).trans_below b2 (Nat.le_refl _))
          have H2 := Lib.hid h2
          clear h2 b2 k2 n2
          refine (gap_c _ GL.out _).mono ?_
          rintro e w4 ⟨rfl, hw4⟩
          rw [HG.out]
          have L4 := Lib.hid hw4
          clear hw4
          go_wp2_with fail
          go_roundg (s.size - (k + xw + g))
          case measure => omega
          case rel => exact ⟨v2, k + xw + g, _, rfl, by go_num, by omega, by omega, by simp; omega, Lib.hid (LL.out.trans L4.out), Lib.hid (OwnR.low H2.out L4.out), NX⟩
        · have HEND : Hid (lexL s.data.toList = (x.e, k, [])) := Lib.hid (by rw [K.out, comb_bad hne (by rw [hx]; exact he), hx])
          have z3 : (x.e != 0) = true := by simpa using he
          clear hne hx he
          go_wp2_with fail
          refine HF.out.mono ?_
          rintro e w2 ⟨rfl, hw2⟩
          rw [HX.out]
          unfold fwV
          have L2 := Lib.hid (G.out.trans hw2)
          clear hw2
          go_wp2_with fail
          go_ret3
          unfold WordsP
          rw [HEND.out]
          exact ⟨_, rfl, OwnR.nil _ _ _ _ _, low_new L2.out _⟩
      · have hke : k = s.size := by omega
        have z1 : ¬ (k : Int) < (s.size : Int) := by omega
        have HEND : Hid (lexL s.data.toList = (0, 0, ws ++ [⟨0, [], 0, k⟩])) := Lib.hid (by rw [K.out, List.drop_eq_nil_of_le (by omega), comb_end])
        have hsz : w.heap.size ≤ wr.heap.size := G.out.size
        clear hke
        go_wp2_with (at_builtin; refine appR rfl _ _ _ rfl Tryd.underlying38 lw_info rfl (by decide) (by decide) encW_len encW_one w.heap.size v ws rfl (OwnR.alloc O.out _) ⟨0, [], 0, k⟩ ⟨wr.heap.size, 0, none⟩ 1 rfl (fun j u hj => newcell_at _ _ _ _ _ rfl hj) (by omega) (by simp; omega) ?_; intro v2 w2 h2 b2 k2 n2)
        go_ret3
        unfold WordsP
        rw [HEND.out]
        exact ⟨_, rfl, h2, (low_new G.out _).trans_below b2 (Nat.le_refl _)⟩
end Go.Proofs.YtflpidnkppljlaaDoor
