/- The law TypesLaws walked. No condition. -/
import Derived.Test.YtjipncpgmajeeaaTyC2
import Derived.Test.YtjipncpgmajeeaaTyJn
namespace Go.Proofs.Ytjipncpgmajeeaa
open Go.RowKit
theorem gen_w {P : World → Prop} {W : World} (h : ∀ V, V = W → P V) : P W := h W rfl
theorem in_low {P : World → Prop} {W : World} (h : ∀ p : InL W, P p.w) : P W := h ⟨W, Low.refl W⟩
set_option maxHeartbeats 12800000 in
set_option maxRecDepth 100000 in
theorem typesLaws_v (n : Nat) (a : T) (m : Nat) (b : T) (o : Nat) (c : T) (w : World) (e0 u0 e1 u1 e2 u2 : Value) (ha : RT (fun _ => True) w n a e0 u0) (hb : RT (fun _ => True) w m b e1 u1) (hc : RT (fun _ => True) w o c e2 u2) : Calls Try.prog 6 #[tv a e0 u0, tv b e1 u1, tv c e2 u2] w fun e w' => e = .returned (.bool true) ∧ Low w w' := by
  obtain ⟨pe0, ce0, pv0, cv0, rfl, rfl, z1, z2, z3, z4⟩ := ha.sl
  obtain ⟨pe1, ce1, pv1, cv1, rfl, rfl, z1', z2', z3', z4'⟩ := hb.sl
  obtain ⟨pe2, ce2, pv2, cv2, rfl, rfl, y1, y2, y3, y4⟩ := hc.sl
  obtain ⟨U, hU⟩ : ∃ U, U = ((w.alloc (.cells #[.int .i64 a.k, .string a.n, .slice pe0 a.l.length ce0, .slice pv0 a.ats.length cv0] 25)).alloc (.cells #[.int .i64 b.k, .string b.n, .slice pe1 b.l.length ce1, .slice pv1 b.ats.length cv1] 25)).alloc (.cells #[.int .i64 c.k, .string c.n, .slice pe2 c.l.length ce2, .slice pv2 c.ats.length cv2] 25) := ⟨_, rfl⟩
  have LU := Lib.hid (show Low w U by rw [hU]; exact low_new (low_new (low_new (Low.refl w) _) _) _)
  have ZA := Lib.hid (show BoxAt U w.heap.size [.int .i64 a.k, .string a.n, .slice pe0 a.l.length ce0, .slice pv0 a.ats.length cv0] by rw [hU]; exact (BoxAt.made (w := w) rfl rfl rfl).low (low_new (low_new (Low.refl _) _) _))
  have ZB := Lib.hid (show BoxAt U (w.heap.size + 1) [.int .i64 b.k, .string b.n, .slice pe1 b.l.length ce1, .slice pv1 b.ats.length cv1] by rw [hU]; exact (BoxAt.made (w := w.alloc (.cells #[.int .i64 a.k, .string a.n, .slice pe0 a.l.length ce0, .slice pv0 a.ats.length cv0] 25)) rfl (by simp) rfl).low (low_new (Low.refl _) _))
  have ZC := Lib.hid (show BoxAt U (w.heap.size + 2) [.int .i64 c.k, .string c.n, .slice pe2 c.l.length ce2, .slice pv2 c.ats.length cv2] from BoxAt.made hU (by simp) rfl)
  have HAw := Lib.hid (awake11_c U)
  have HF := Lib.hid fun W (l : Low U W) => fit_c a b W _ _ _ _ (ha.low (LU.out.trans l)) (hb.low (LU.out.trans l))
  have HF2 := Lib.hid fun W (l : Low U W) => fit_c b c W _ _ _ _ (hb.low (LU.out.trans l)) (hc.low (LU.out.trans l))
  have HTA := Lib.hid ha
  have HTB := Lib.hid hb
  have HTC := Lib.hid hc
  have HU := Lib.hid hU
  unfold tv at *
  clear ha hb hc hU
  go_enter Try.func6, Try.ntmps6
  go_upto_region 1 with fail
  rw [← HU.out]
  go_wp2_with fail
  refine HAw.out.mono ?_
  rintro e w1 ⟨rfl, l1⟩
  have L1 := Lib.hid l1
  obtain ⟨f0, f1, f2, f3⟩ := (ZA.out.low l1).at4
  obtain ⟨g0, g1, g2, g3⟩ := (ZB.out.low l1).at4
  have HF1 := Lib.hid (HF.out w1 l1)
  clear l1 HAw HF HU
  go_wp2_with fail
  refine HF1.out.mono ?_
  rintro e w2 ⟨q, rfl, hq, l2⟩
  have L2 := Lib.hid (L1.out.trans l2)
  have HQ := Lib.hid hq
  clear f0 f1 f2 f3 g0 g1 g2 g3 l2 hq HF1
  obtain ⟨g0, g1, g2, g3⟩ := (ZB.out.low L2.out).at4
  obtain ⟨h0, h1, h2, h3⟩ := (ZC.out.low L2.out).at4
  have HF3 := Lib.hid (HF2.out w2 L2.out)
  clear HF2
  go_wp2_with fail
  refine HF3.out.mono ?_
  rintro e w3 ⟨q', rfl, hq, l3⟩
  have L3 := Lib.hid (L2.out.trans l3)
  have HQ' := Lib.hid hq
  clear g0 g1 g2 g3 h0 h1 h2 h3 l3 hq HF3
  cases q with
  | false =>
    go_wp2_with fail
    go_ret
    exact ⟨rfl, LU.out.trans L3.out⟩
  | true =>
  cases q' with
  | false =>
    go_wp2_with fail
    go_ret
    exact ⟨rfl, LU.out.trans L3.out⟩
  | true =>
  obtain ⟨hA, hB⟩ := HQ.out (by first | rfl | trivial)
  obtain ⟨-, hC⟩ := HQ'.out (by first | rfl | trivial)
  have HA := Lib.hid hA
  have HB := Lib.hid hB
  have HC := Lib.hid hC
  clear hA hB hC HQ HQ'
  have RA := Lib.hid (show RT (fun _ => True) w 61 a (.slice pe0 a.l.length ce0) (.slice pv0 a.ats.length cv0) from RT.re HA.out.sm.dp HTA.out)
  have RB := Lib.hid (show RT (fun _ => True) w 61 b (.slice pe1 b.l.length ce1) (.slice pv1 b.ats.length cv1) from RT.re HB.out.sm.dp HTB.out)
  have RC := Lib.hid (show RT (fun _ => True) w 61 c (.slice pe2 c.l.length ce2) (.slice pv2 c.ats.length cv2) from RT.re HC.out.sm.dp HTC.out)
  clear HTA HTB HTC
  obtain ⟨aa, haa⟩ : ∃ x, x = belB 61 a a := ⟨_, rfl⟩
  obtain ⟨ab, hab⟩ : ∃ x, x = belB 61 a b := ⟨_, rfl⟩
  obtain ⟨ba, hba⟩ : ∃ x, x = belB 61 b a := ⟨_, rfl⟩
  obtain ⟨bc, hbc⟩ : ∃ x, x = belB 61 b c := ⟨_, rfl⟩
  obtain ⟨ac, hac⟩ : ∃ x, x = belB 61 a c := ⟨_, rfl⟩
  obtain ⟨sb, hsb⟩ : ∃ x, x = smB 61 a b := ⟨_, rfl⟩
  obtain ⟨R, hR⟩ : ∃ x, x = jn 61 a b := ⟨_, rfl⟩
  obtain ⟨R', hR'⟩ : ∃ x, x = jn 61 b a := ⟨_, rfl⟩
  have t1 : aa = true := by rw [haa]; exact bel_refl 61 a HA.out.may
  have t2 : sb = (ab && ba) := by rw [hsb, hab, hba, smB_bel]
  have t3 : ab = true → bc = true → ac = true := fun h k => by rw [hac]; exact bel_trans 61 a b c (hab ▸ h) (hbc ▸ k)
  have t4 : ac = true → bc = true → R ≠ none := fun h k => by rw [hR]; exact jn_ex 61 a b c (hac ▸ h) (hbc ▸ k)
  have t5 : ab = true → R ≠ none := fun h => by rw [hR]; exact jn_ex 61 a b b (hab ▸ h) (bel_refl 61 b HB.out.may)
  have t6 : R = none → R' = none := fun h => by
    cases hr : R' with
    | none => rfl
    | some k =>
      obtain ⟨k1, k2⟩ := jn_up 61 b a k HB.out.may HA.out.may (hR'.symm.trans hr)
      exact absurd (hR.symm.trans h) (jn_ex 61 a b k k2 k1)
  have t7 : R' = none → R = none := fun h => by
    cases hr : R with
    | none => rfl
    | some k =>
      obtain ⟨k1, k2⟩ := jn_up 61 a b k HA.out.may HB.out.may (hR.symm.trans hr)
      exact absurd (hR'.symm.trans h) (jn_ex 61 b a k k2 k1)
  have TR := Lib.hid hR
  have TR' := Lib.hid hR'
  have TAC := Lib.hid hac
  have TBC := Lib.hid hbc
  have CAA := Lib.hid fun p : InL w3 => Calls.low p (Below_c a a p.w _ _ _ _ (by omega) (RA.out.low ((LU.out.trans L3.out).trans p.ok)) (RA.out.low ((LU.out.trans L3.out).trans p.ok)) HA.out.sm HA.out.sm HA.out.may HA.out.may)
  have CAB := Lib.hid fun p : InL w3 => Calls.low p (Below_c a b p.w _ _ _ _ (by omega) (RA.out.low ((LU.out.trans L3.out).trans p.ok)) (RB.out.low ((LU.out.trans L3.out).trans p.ok)) HA.out.sm HB.out.sm HA.out.may HB.out.may)
  have CBA := Lib.hid fun p : InL w3 => Calls.low p (Below_c b a p.w _ _ _ _ (by omega) (RB.out.low ((LU.out.trans L3.out).trans p.ok)) (RA.out.low ((LU.out.trans L3.out).trans p.ok)) HB.out.sm HA.out.sm HB.out.may HA.out.may)
  have CBC := Lib.hid fun p : InL w3 => Calls.low p (Below_c b c p.w _ _ _ _ (by omega) (RB.out.low ((LU.out.trans L3.out).trans p.ok)) (RC.out.low ((LU.out.trans L3.out).trans p.ok)) HB.out.sm HC.out.sm HB.out.may HC.out.may)
  have CAC := Lib.hid fun p : InL w3 => Calls.low p (Below_c a c p.w _ _ _ _ (by omega) (RA.out.low ((LU.out.trans L3.out).trans p.ok)) (RC.out.low ((LU.out.trans L3.out).trans p.ok)) HA.out.sm HC.out.sm HA.out.may HC.out.may)
  have CS := Lib.hid fun p : InL w3 => Calls.low p (Same_c a b p.w _ _ _ _ (by omega) (RA.out.low ((LU.out.trans L3.out).trans p.ok)) (RB.out.low ((LU.out.trans L3.out).trans p.ok)) HA.out.sm HB.out.sm HA.out.may HB.out.may)
  have CJ := Lib.hid fun W (l : Low U W) => Join_c a b W _ _ _ _ (by omega) (RA.out.low (LU.out.trans l)) (RB.out.low (LU.out.trans l)) HA.out.sm HB.out.sm HA.out.may HB.out.may
  have CK := Lib.hid fun W (l : Low U W) => Join_c b a W _ _ _ _ (by omega) (RB.out.low (LU.out.trans l)) (RA.out.low (LU.out.trans l)) HB.out.sm HA.out.sm HB.out.may HA.out.may
  rw [← haa] at CAA
  rw [← hab] at CAB
  rw [← hba] at CBA
  rw [← hbc] at CBC
  rw [← hac] at CAC
  rw [← hsb] at CS
  rw [← hR] at CJ
  rw [← hR'] at CK
  unfold tv at CAA CAB CBA CBC CAC CS CJ CK
  clear haa hab hba hbc hac hsb hR hR'
  subst t1
  subst t2
  have f := fun p : InL w3 => (ZA.out.low (L3.out.trans p.ok)).at4
  have g := fun p : InL w3 => (ZB.out.low (L3.out.trans p.ok)).at4
  have h := fun p : InL w3 => (ZC.out.low (L3.out.trans p.ok)).at4
  have f0 := fun p => (f p).1
  have f1 := fun p => (f p).2.1
  have f2 := fun p => (f p).2.2.1
  have f3 := fun p => (f p).2.2.2
  have g0 := fun p => (g p).1
  have g1 := fun p => (g p).2.1
  have g2 := fun p => (g p).2.2.1
  have g3 := fun p => (g p).2.2.2
  have h0 := fun p => (h p).1
  have h1 := fun p => (h p).2.1
  have h2 := fun p => (h p).2.2.1
  have h3 := fun p => (h p).2.2.2
  clear f g h
  haveI := InL.some w3
  have TC : (R = none ∧ R' = none ∧ ab = false ∧ ((ac = false) ∨ (ac = true ∧ bc = false))) ∨ (∃ j k, R = some j ∧ R' = some k ∧ ((ab = false ∧ ((ac = false) ∨ (ac = true ∧ bc = false) ∨ (ac = true ∧ bc = true))) ∨ (ab = true ∧ ba = true ∧ ((bc = false ∧ ac = false) ∨ (bc = false ∧ ac = true) ∨ (bc = true ∧ ac = true))) ∨ (ab = true ∧ ba = false ∧ ((bc = false ∧ ac = false) ∨ (bc = false ∧ ac = true) ∨ (bc = true ∧ ac = true))))) := by
    clear CAA CAB CBA CBC CAC CS CJ CK f0 f1 f2 f3 g0 g1 g2 g3 h0 h1 h2 h3 this
    cases R with
    | none => cases ab <;> cases bc <;> cases ac <;> simp_all
    | some j =>
      cases R' with
      | none => exact absurd (t7 rfl) (by simp)
      | some k =>
        refine .inr ⟨j, k, rfl, rfl, ?_⟩
        cases ab <;> cases ba <;> cases bc <;> cases ac <;> simp_all
  clear t3 t4 t5 t6 t7
  rcases TC with ⟨rfl, rfl, rfl, rfl | ⟨rfl, rfl⟩⟩ | ⟨j, k, rfl, rfl, hh⟩
  rotate_left
  rotate_left
  rcases hh with ⟨rfl, rfl | ⟨rfl, rfl⟩ | ⟨rfl, rfl⟩⟩ | ⟨rfl, rfl, ⟨rfl, rfl⟩ | ⟨rfl, rfl⟩ | ⟨rfl, rfl⟩⟩ | ⟨rfl, rfl, ⟨rfl, rfl⟩ | ⟨rfl, rfl⟩ | ⟨rfl, rfl⟩⟩
  ·
    go_wp2_with fail
    refine wp_region_low mixedT (by kernel_rfl) ?_
    repeat (go_big_quiet_step (first | (with_reducible exact CAB.out _) | (with_reducible exact CAA.out _) | (with_reducible exact CBA.out _) | (with_reducible exact CBC.out _) | (with_reducible exact CAC.out _) | (with_reducible exact CS.out _)))
    refine wpQuiet_nil ?_
    rintro W8 ⟨p8, hW8⟩
    have L8 := Lib.hid (show Low U W8 by rw [hW8]; exact L3.out.trans p8.ok)
    clear hW8 p8 CAA CAB CBA CBC CAC CS f0 f1 f2 f3 g0 g1 g2 g3 h0 h1 h2 h3 this
    obtain ⟨f0, f1, f2, f3⟩ := (ZA.out.low L8.out).at4
    obtain ⟨g0, g1, g2, g3⟩ := (ZB.out.low L8.out).at4
    have CJ8 := Lib.hid (CJ.out W8 L8.out)
    go_wp2_with fail
    refine CJ8.out.mono ?_
    rintro e w9 ⟨t, qe, de, qv, dv, er, rfl, ⟨rfl, rfl⟩, hrt, l9⟩
    have L9 := Lib.hid (L8.out.trans l9)
    have HRT := Lib.hid hrt
    clear l9 hrt CJ8 CJ f0 f1 f2 f3 g0 g1 g2 g3
    go_upto_region 11 with fail
    refine gen_w (P := fun W => Code.wp _ _ _ _ W) (fun V1 hV1 => ?_)
    have LQ1 := Lib.hid (show Low w9 V1 by rw [hV1]; exact low_new (Low.refl _) _)
    have LV1 := Lib.hid (L9.out.trans LQ1.out)
    have BJ := Lib.hid (BoxAt.made (cs := [.int .i64 t.k, .string t.n, .slice qe t.l.length de, .slice qv t.ats.length dv]) hV1 rfl rfl)
    clear hV1
    obtain ⟨f0, f1, f2, f3⟩ := (ZA.out.low LV1.out).at4
    obtain ⟨g0, g1, g2, g3⟩ := (ZB.out.low LV1.out).at4
    have CK1 := Lib.hid (CK.out V1 LV1.out)
    go_wp2_with fail
    refine CK1.out.mono ?_
    rintro e wA ⟨t', re, me, rv, mv, er', rfl, ⟨rfl, rfl⟩, hrt, lA⟩
    have LA := Lib.hid lA
    have HRT' := Lib.hid hrt
    clear lA hrt CK1 CK f0 f1 f2 f3 g0 g1 g2 g3
    go_upto_region 12 with fail
    refine gen_w (P := fun W => Code.wp _ _ _ _ W) (fun V2 hV2 => ?_)
    have LQ2 := Lib.hid (show Low wA V2 by rw [hV2]; exact low_new (Low.refl _) _)
    have LV2 := Lib.hid (LV1.out.trans (LA.out.trans LQ2.out))
    have BK := Lib.hid (BoxAt.made (cs := [.int .i64 t'.k, .string t'.n, .slice re t'.l.length me, .slice rv t'.ats.length mv]) hV2 rfl rfl)
    clear hV2
    have CAC := Lib.hid fun p : InL V2 => Calls.low p (Below_c a c p.w _ _ _ _ (by omega) (RA.out.low ((LU.out.trans LV2.out).trans p.ok)) (RC.out.low ((LU.out.trans LV2.out).trans p.ok)) HA.out.sm HC.out.sm HA.out.may HC.out.may)
    have CBC := Lib.hid fun p : InL V2 => Calls.low p (Below_c b c p.w _ _ _ _ (by omega) (RB.out.low ((LU.out.trans LV2.out).trans p.ok)) (RC.out.low ((LU.out.trans LV2.out).trans p.ok)) HB.out.sm HC.out.sm HB.out.may HC.out.may)
    rw [← TAC.out] at CAC
    rw [← TBC.out] at CBC
    unfold tv at CAC CBC
    have f := fun p : InL V2 => (ZA.out.low (LV2.out.trans p.ok)).at4
    have g := fun p : InL V2 => (ZB.out.low (LV2.out.trans p.ok)).at4
    have h := fun p : InL V2 => (ZC.out.low (LV2.out.trans p.ok)).at4
    have f0 := fun p => (f p).1
    have f1 := fun p => (f p).2.1
    have f2 := fun p => (f p).2.2.1
    have f3 := fun p => (f p).2.2.2
    have g0 := fun p => (g p).1
    have g1 := fun p => (g p).2.1
    have g2 := fun p => (g p).2.2.1
    have g3 := fun p => (g p).2.2.2
    have h0 := fun p => (h p).1
    have h1 := fun p => (h p).2.1
    have h2 := fun p => (h p).2.2.1
    have h3 := fun p => (h p).2.2.2
    clear f g h
    have SJ := Lib.hid (jn_sm 61 a b t ⟨HA.out.sm, HA.out.may⟩ ⟨HB.out.sm, HB.out.may⟩ TR.out.symm)
    have SK := Lib.hid (jn_sm 61 b a t' ⟨HB.out.sm, HB.out.may⟩ ⟨HA.out.sm, HA.out.may⟩ TR'.out.symm)
    have UJ := Lib.hid (jn_up 61 a b t HA.out.may HB.out.may TR.out.symm)
    have UK := Lib.hid (jn_up 61 b a t' HB.out.may HA.out.may TR'.out.symm)
    have EJK := Lib.hid (show smB 61 t t' = true by rw [smB_bel, jn_least 61 a b t t' TR.out.symm UK.out.2 UK.out.1, jn_least 61 b a t' t TR'.out.symm UJ.out.2 UJ.out.1]; rfl)
    have RJ := Lib.hid (HRT.out.low (LQ1.out.trans (LA.out.trans LQ2.out)))
    have RK := Lib.hid (HRT'.out.low LQ2.out)
    have CAJ := Lib.hid fun p : InL V2 => Calls.low p (Below_c a t p.w _ _ _ _ (by omega) (RA.out.low ((LU.out.trans LV2.out).trans p.ok)) (RJ.out.low p.ok) HA.out.sm SJ.out.1 HA.out.may SJ.out.2)
    have CBJ := Lib.hid fun p : InL V2 => Calls.low p (Below_c b t p.w _ _ _ _ (by omega) (RB.out.low ((LU.out.trans LV2.out).trans p.ok)) (RJ.out.low p.ok) HB.out.sm SJ.out.1 HB.out.may SJ.out.2)
    have CJC := Lib.hid fun p : InL V2 => Calls.low p (Below_c t c p.w _ _ _ _ (by omega) (RJ.out.low p.ok) (RC.out.low ((LU.out.trans LV2.out).trans p.ok)) SJ.out.1 HC.out.sm SJ.out.2 HC.out.may)
    have CJK := Lib.hid fun p : InL V2 => Calls.low p (Same_c t t' p.w _ _ _ _ (by omega) (RJ.out.low p.ok) (RK.out.low p.ok) SJ.out.1 SK.out.1 SJ.out.2 SK.out.2)
    rw [UJ.out.1] at CAJ
    rw [UJ.out.2] at CBJ
    rw [EJK.out] at CJK
    try rw [jn_least 61 a b t c TR.out.symm TAC.out.symm TBC.out.symm] at CJC
    unfold tv at CAJ CBJ CJC CJK
    have x := fun p : InL V2 => (BJ.out.low ((LA.out.trans LQ2.out).trans p.ok)).at4
    have y := fun p : InL V2 => (BK.out.low p.ok).at4
    have x0 := fun p => (x p).1
    have x1 := fun p => (x p).2.1
    have x2 := fun p => (x p).2.2.1
    have x3 := fun p => (x p).2.2.2
    have y0 := fun p => (y p).1
    have y1 := fun p => (y p).2.1
    have y2 := fun p => (y p).2.2.1
    have y3 := fun p => (y p).2.2.2
    clear x y
    refine in_low (P := fun W => Code.wp _ _ _ _ W) (fun p => ?_)
    go_wp2_with (first | ((with_reducible refine Calls.mono (CAC.out _) ?_); rintro _ _ ⟨rfl, q, rfl⟩) | ((with_reducible refine Calls.mono (CBC.out _) ?_); rintro _ _ ⟨rfl, q, rfl⟩) | ((with_reducible refine Calls.mono (CAJ.out _) ?_); rintro _ _ ⟨rfl, q, rfl⟩) | ((with_reducible refine Calls.mono (CBJ.out _) ?_); rintro _ _ ⟨rfl, q, rfl⟩) | ((with_reducible refine Calls.mono (CJC.out _) ?_); rintro _ _ ⟨rfl, q, rfl⟩) | ((with_reducible refine Calls.mono (CJK.out _) ?_); rintro _ _ ⟨rfl, q, rfl⟩))
    go_ret
    exact ⟨rfl, (LU.out.trans LV2.out).trans (InL.ok _)⟩
  ·
    go_wp2_with fail
    refine wp_region_low mixedT (by kernel_rfl) ?_
    repeat (go_big_quiet_step (first | (with_reducible exact CAB.out _) | (with_reducible exact CAA.out _) | (with_reducible exact CBA.out _) | (with_reducible exact CBC.out _) | (with_reducible exact CAC.out _) | (with_reducible exact CS.out _)))
    refine wpQuiet_nil ?_
    rintro W8 ⟨p8, hW8⟩
    have L8 := Lib.hid (show Low U W8 by rw [hW8]; exact L3.out.trans p8.ok)
    clear hW8 p8 CAA CAB CBA CBC CAC CS f0 f1 f2 f3 g0 g1 g2 g3 h0 h1 h2 h3 this
    obtain ⟨f0, f1, f2, f3⟩ := (ZA.out.low L8.out).at4
    obtain ⟨g0, g1, g2, g3⟩ := (ZB.out.low L8.out).at4
    have CJ8 := Lib.hid (CJ.out W8 L8.out)
    go_wp2_with fail
    refine CJ8.out.mono ?_
    rintro e w9 ⟨t, qe, de, qv, dv, er, rfl, ⟨rfl, rfl⟩, hrt, l9⟩
    have L9 := Lib.hid (L8.out.trans l9)
    have HRT := Lib.hid hrt
    clear l9 hrt CJ8 CJ f0 f1 f2 f3 g0 g1 g2 g3
    go_upto_region 11 with fail
    refine gen_w (P := fun W => Code.wp _ _ _ _ W) (fun V1 hV1 => ?_)
    have LQ1 := Lib.hid (show Low w9 V1 by rw [hV1]; exact low_new (Low.refl _) _)
    have LV1 := Lib.hid (L9.out.trans LQ1.out)
    have BJ := Lib.hid (BoxAt.made (cs := [.int .i64 t.k, .string t.n, .slice qe t.l.length de, .slice qv t.ats.length dv]) hV1 rfl rfl)
    clear hV1
    obtain ⟨f0, f1, f2, f3⟩ := (ZA.out.low LV1.out).at4
    obtain ⟨g0, g1, g2, g3⟩ := (ZB.out.low LV1.out).at4
    have CK1 := Lib.hid (CK.out V1 LV1.out)
    go_wp2_with fail
    refine CK1.out.mono ?_
    rintro e wA ⟨t', re, me, rv, mv, er', rfl, ⟨rfl, rfl⟩, hrt, lA⟩
    have LA := Lib.hid lA
    have HRT' := Lib.hid hrt
    clear lA hrt CK1 CK f0 f1 f2 f3 g0 g1 g2 g3
    go_upto_region 12 with fail
    refine gen_w (P := fun W => Code.wp _ _ _ _ W) (fun V2 hV2 => ?_)
    have LQ2 := Lib.hid (show Low wA V2 by rw [hV2]; exact low_new (Low.refl _) _)
    have LV2 := Lib.hid (LV1.out.trans (LA.out.trans LQ2.out))
    have BK := Lib.hid (BoxAt.made (cs := [.int .i64 t'.k, .string t'.n, .slice re t'.l.length me, .slice rv t'.ats.length mv]) hV2 rfl rfl)
    clear hV2
    have CAC := Lib.hid fun p : InL V2 => Calls.low p (Below_c a c p.w _ _ _ _ (by omega) (RA.out.low ((LU.out.trans LV2.out).trans p.ok)) (RC.out.low ((LU.out.trans LV2.out).trans p.ok)) HA.out.sm HC.out.sm HA.out.may HC.out.may)
    have CBC := Lib.hid fun p : InL V2 => Calls.low p (Below_c b c p.w _ _ _ _ (by omega) (RB.out.low ((LU.out.trans LV2.out).trans p.ok)) (RC.out.low ((LU.out.trans LV2.out).trans p.ok)) HB.out.sm HC.out.sm HB.out.may HC.out.may)
    rw [← TAC.out] at CAC
    rw [← TBC.out] at CBC
    unfold tv at CAC CBC
    have f := fun p : InL V2 => (ZA.out.low (LV2.out.trans p.ok)).at4
    have g := fun p : InL V2 => (ZB.out.low (LV2.out.trans p.ok)).at4
    have h := fun p : InL V2 => (ZC.out.low (LV2.out.trans p.ok)).at4
    have f0 := fun p => (f p).1
    have f1 := fun p => (f p).2.1
    have f2 := fun p => (f p).2.2.1
    have f3 := fun p => (f p).2.2.2
    have g0 := fun p => (g p).1
    have g1 := fun p => (g p).2.1
    have g2 := fun p => (g p).2.2.1
    have g3 := fun p => (g p).2.2.2
    have h0 := fun p => (h p).1
    have h1 := fun p => (h p).2.1
    have h2 := fun p => (h p).2.2.1
    have h3 := fun p => (h p).2.2.2
    clear f g h
    have SJ := Lib.hid (jn_sm 61 a b t ⟨HA.out.sm, HA.out.may⟩ ⟨HB.out.sm, HB.out.may⟩ TR.out.symm)
    have SK := Lib.hid (jn_sm 61 b a t' ⟨HB.out.sm, HB.out.may⟩ ⟨HA.out.sm, HA.out.may⟩ TR'.out.symm)
    have UJ := Lib.hid (jn_up 61 a b t HA.out.may HB.out.may TR.out.symm)
    have UK := Lib.hid (jn_up 61 b a t' HB.out.may HA.out.may TR'.out.symm)
    have EJK := Lib.hid (show smB 61 t t' = true by rw [smB_bel, jn_least 61 a b t t' TR.out.symm UK.out.2 UK.out.1, jn_least 61 b a t' t TR'.out.symm UJ.out.2 UJ.out.1]; rfl)
    have RJ := Lib.hid (HRT.out.low (LQ1.out.trans (LA.out.trans LQ2.out)))
    have RK := Lib.hid (HRT'.out.low LQ2.out)
    have CAJ := Lib.hid fun p : InL V2 => Calls.low p (Below_c a t p.w _ _ _ _ (by omega) (RA.out.low ((LU.out.trans LV2.out).trans p.ok)) (RJ.out.low p.ok) HA.out.sm SJ.out.1 HA.out.may SJ.out.2)
    have CBJ := Lib.hid fun p : InL V2 => Calls.low p (Below_c b t p.w _ _ _ _ (by omega) (RB.out.low ((LU.out.trans LV2.out).trans p.ok)) (RJ.out.low p.ok) HB.out.sm SJ.out.1 HB.out.may SJ.out.2)
    have CJC := Lib.hid fun p : InL V2 => Calls.low p (Below_c t c p.w _ _ _ _ (by omega) (RJ.out.low p.ok) (RC.out.low ((LU.out.trans LV2.out).trans p.ok)) SJ.out.1 HC.out.sm SJ.out.2 HC.out.may)
    have CJK := Lib.hid fun p : InL V2 => Calls.low p (Same_c t t' p.w _ _ _ _ (by omega) (RJ.out.low p.ok) (RK.out.low p.ok) SJ.out.1 SK.out.1 SJ.out.2 SK.out.2)
    rw [UJ.out.1] at CAJ
    rw [UJ.out.2] at CBJ
    rw [EJK.out] at CJK
    try rw [jn_least 61 a b t c TR.out.symm TAC.out.symm TBC.out.symm] at CJC
    unfold tv at CAJ CBJ CJC CJK
    have x := fun p : InL V2 => (BJ.out.low ((LA.out.trans LQ2.out).trans p.ok)).at4
    have y := fun p : InL V2 => (BK.out.low p.ok).at4
    have x0 := fun p => (x p).1
    have x1 := fun p => (x p).2.1
    have x2 := fun p => (x p).2.2.1
    have x3 := fun p => (x p).2.2.2
    have y0 := fun p => (y p).1
    have y1 := fun p => (y p).2.1
    have y2 := fun p => (y p).2.2.1
    have y3 := fun p => (y p).2.2.2
    clear x y
    refine in_low (P := fun W => Code.wp _ _ _ _ W) (fun p => ?_)
    go_wp2_with (first | ((with_reducible refine Calls.mono (CAC.out _) ?_); rintro _ _ ⟨rfl, q, rfl⟩) | ((with_reducible refine Calls.mono (CBC.out _) ?_); rintro _ _ ⟨rfl, q, rfl⟩) | ((with_reducible refine Calls.mono (CAJ.out _) ?_); rintro _ _ ⟨rfl, q, rfl⟩) | ((with_reducible refine Calls.mono (CBJ.out _) ?_); rintro _ _ ⟨rfl, q, rfl⟩) | ((with_reducible refine Calls.mono (CJC.out _) ?_); rintro _ _ ⟨rfl, q, rfl⟩) | ((with_reducible refine Calls.mono (CJK.out _) ?_); rintro _ _ ⟨rfl, q, rfl⟩))
    go_ret
    exact ⟨rfl, (LU.out.trans LV2.out).trans (InL.ok _)⟩
  ·
    go_wp2_with fail
    refine wp_region_low mixedT (by kernel_rfl) ?_
    repeat (go_big_quiet_step (first | (with_reducible exact CAB.out _) | (with_reducible exact CAA.out _) | (with_reducible exact CBA.out _) | (with_reducible exact CBC.out _) | (with_reducible exact CAC.out _) | (with_reducible exact CS.out _)))
    refine wpQuiet_nil ?_
    rintro W8 ⟨p8, hW8⟩
    have L8 := Lib.hid (show Low U W8 by rw [hW8]; exact L3.out.trans p8.ok)
    clear hW8 p8 CAA CAB CBA CBC CAC CS f0 f1 f2 f3 g0 g1 g2 g3 h0 h1 h2 h3 this
    obtain ⟨f0, f1, f2, f3⟩ := (ZA.out.low L8.out).at4
    obtain ⟨g0, g1, g2, g3⟩ := (ZB.out.low L8.out).at4
    have CJ8 := Lib.hid (CJ.out W8 L8.out)
    go_wp2_with fail
    refine CJ8.out.mono ?_
    rintro e w9 ⟨t, qe, de, qv, dv, er, rfl, ⟨rfl, rfl⟩, hrt, l9⟩
    have L9 := Lib.hid (L8.out.trans l9)
    have HRT := Lib.hid hrt
    clear l9 hrt CJ8 CJ f0 f1 f2 f3 g0 g1 g2 g3
    go_upto_region 11 with fail
    refine gen_w (P := fun W => Code.wp _ _ _ _ W) (fun V1 hV1 => ?_)
    have LQ1 := Lib.hid (show Low w9 V1 by rw [hV1]; exact low_new (Low.refl _) _)
    have LV1 := Lib.hid (L9.out.trans LQ1.out)
    have BJ := Lib.hid (BoxAt.made (cs := [.int .i64 t.k, .string t.n, .slice qe t.l.length de, .slice qv t.ats.length dv]) hV1 rfl rfl)
    clear hV1
    obtain ⟨f0, f1, f2, f3⟩ := (ZA.out.low LV1.out).at4
    obtain ⟨g0, g1, g2, g3⟩ := (ZB.out.low LV1.out).at4
    have CK1 := Lib.hid (CK.out V1 LV1.out)
    go_wp2_with fail
    refine CK1.out.mono ?_
    rintro e wA ⟨t', re, me, rv, mv, er', rfl, ⟨rfl, rfl⟩, hrt, lA⟩
    have LA := Lib.hid lA
    have HRT' := Lib.hid hrt
    clear lA hrt CK1 CK f0 f1 f2 f3 g0 g1 g2 g3
    go_upto_region 12 with fail
    refine gen_w (P := fun W => Code.wp _ _ _ _ W) (fun V2 hV2 => ?_)
    have LQ2 := Lib.hid (show Low wA V2 by rw [hV2]; exact low_new (Low.refl _) _)
    have LV2 := Lib.hid (LV1.out.trans (LA.out.trans LQ2.out))
    have BK := Lib.hid (BoxAt.made (cs := [.int .i64 t'.k, .string t'.n, .slice re t'.l.length me, .slice rv t'.ats.length mv]) hV2 rfl rfl)
    clear hV2
    have CAC := Lib.hid fun p : InL V2 => Calls.low p (Below_c a c p.w _ _ _ _ (by omega) (RA.out.low ((LU.out.trans LV2.out).trans p.ok)) (RC.out.low ((LU.out.trans LV2.out).trans p.ok)) HA.out.sm HC.out.sm HA.out.may HC.out.may)
    have CBC := Lib.hid fun p : InL V2 => Calls.low p (Below_c b c p.w _ _ _ _ (by omega) (RB.out.low ((LU.out.trans LV2.out).trans p.ok)) (RC.out.low ((LU.out.trans LV2.out).trans p.ok)) HB.out.sm HC.out.sm HB.out.may HC.out.may)
    rw [← TAC.out] at CAC
    rw [← TBC.out] at CBC
    unfold tv at CAC CBC
    have f := fun p : InL V2 => (ZA.out.low (LV2.out.trans p.ok)).at4
    have g := fun p : InL V2 => (ZB.out.low (LV2.out.trans p.ok)).at4
    have h := fun p : InL V2 => (ZC.out.low (LV2.out.trans p.ok)).at4
    have f0 := fun p => (f p).1
    have f1 := fun p => (f p).2.1
    have f2 := fun p => (f p).2.2.1
    have f3 := fun p => (f p).2.2.2
    have g0 := fun p => (g p).1
    have g1 := fun p => (g p).2.1
    have g2 := fun p => (g p).2.2.1
    have g3 := fun p => (g p).2.2.2
    have h0 := fun p => (h p).1
    have h1 := fun p => (h p).2.1
    have h2 := fun p => (h p).2.2.1
    have h3 := fun p => (h p).2.2.2
    clear f g h
    have SJ := Lib.hid (jn_sm 61 a b t ⟨HA.out.sm, HA.out.may⟩ ⟨HB.out.sm, HB.out.may⟩ TR.out.symm)
    have SK := Lib.hid (jn_sm 61 b a t' ⟨HB.out.sm, HB.out.may⟩ ⟨HA.out.sm, HA.out.may⟩ TR'.out.symm)
    have UJ := Lib.hid (jn_up 61 a b t HA.out.may HB.out.may TR.out.symm)
    have UK := Lib.hid (jn_up 61 b a t' HB.out.may HA.out.may TR'.out.symm)
    have EJK := Lib.hid (show smB 61 t t' = true by rw [smB_bel, jn_least 61 a b t t' TR.out.symm UK.out.2 UK.out.1, jn_least 61 b a t' t TR'.out.symm UJ.out.2 UJ.out.1]; rfl)
    have RJ := Lib.hid (HRT.out.low (LQ1.out.trans (LA.out.trans LQ2.out)))
    have RK := Lib.hid (HRT'.out.low LQ2.out)
    have CAJ := Lib.hid fun p : InL V2 => Calls.low p (Below_c a t p.w _ _ _ _ (by omega) (RA.out.low ((LU.out.trans LV2.out).trans p.ok)) (RJ.out.low p.ok) HA.out.sm SJ.out.1 HA.out.may SJ.out.2)
    have CBJ := Lib.hid fun p : InL V2 => Calls.low p (Below_c b t p.w _ _ _ _ (by omega) (RB.out.low ((LU.out.trans LV2.out).trans p.ok)) (RJ.out.low p.ok) HB.out.sm SJ.out.1 HB.out.may SJ.out.2)
    have CJC := Lib.hid fun p : InL V2 => Calls.low p (Below_c t c p.w _ _ _ _ (by omega) (RJ.out.low p.ok) (RC.out.low ((LU.out.trans LV2.out).trans p.ok)) SJ.out.1 HC.out.sm SJ.out.2 HC.out.may)
    have CJK := Lib.hid fun p : InL V2 => Calls.low p (Same_c t t' p.w _ _ _ _ (by omega) (RJ.out.low p.ok) (RK.out.low p.ok) SJ.out.1 SK.out.1 SJ.out.2 SK.out.2)
    rw [UJ.out.1] at CAJ
    rw [UJ.out.2] at CBJ
    rw [EJK.out] at CJK
    try rw [jn_least 61 a b t c TR.out.symm TAC.out.symm TBC.out.symm] at CJC
    unfold tv at CAJ CBJ CJC CJK
    have x := fun p : InL V2 => (BJ.out.low ((LA.out.trans LQ2.out).trans p.ok)).at4
    have y := fun p : InL V2 => (BK.out.low p.ok).at4
    have x0 := fun p => (x p).1
    have x1 := fun p => (x p).2.1
    have x2 := fun p => (x p).2.2.1
    have x3 := fun p => (x p).2.2.2
    have y0 := fun p => (y p).1
    have y1 := fun p => (y p).2.1
    have y2 := fun p => (y p).2.2.1
    have y3 := fun p => (y p).2.2.2
    clear x y
    refine in_low (P := fun W => Code.wp _ _ _ _ W) (fun p => ?_)
    go_wp2_with (first | ((with_reducible refine Calls.mono (CAC.out _) ?_); rintro _ _ ⟨rfl, q, rfl⟩) | ((with_reducible refine Calls.mono (CBC.out _) ?_); rintro _ _ ⟨rfl, q, rfl⟩) | ((with_reducible refine Calls.mono (CAJ.out _) ?_); rintro _ _ ⟨rfl, q, rfl⟩) | ((with_reducible refine Calls.mono (CBJ.out _) ?_); rintro _ _ ⟨rfl, q, rfl⟩) | ((with_reducible refine Calls.mono (CJC.out _) ?_); rintro _ _ ⟨rfl, q, rfl⟩) | ((with_reducible refine Calls.mono (CJK.out _) ?_); rintro _ _ ⟨rfl, q, rfl⟩))
    go_ret
    exact ⟨rfl, (LU.out.trans LV2.out).trans (InL.ok _)⟩
  ·
    go_wp2_with fail
    refine wp_region_low mixedT (by kernel_rfl) ?_
    repeat (go_big_quiet_step (first | (with_reducible exact CAB.out _) | (with_reducible exact CAA.out _) | (with_reducible exact CBA.out _) | (with_reducible exact CBC.out _) | (with_reducible exact CAC.out _) | (with_reducible exact CS.out _)))
    refine wpQuiet_nil ?_
    rintro W8 ⟨p8, hW8⟩
    have L8 := Lib.hid (show Low U W8 by rw [hW8]; exact L3.out.trans p8.ok)
    clear hW8 p8 CAA CAB CBA CBC CAC CS f0 f1 f2 f3 g0 g1 g2 g3 h0 h1 h2 h3 this
    obtain ⟨f0, f1, f2, f3⟩ := (ZA.out.low L8.out).at4
    obtain ⟨g0, g1, g2, g3⟩ := (ZB.out.low L8.out).at4
    have CJ8 := Lib.hid (CJ.out W8 L8.out)
    go_wp2_with fail
    refine CJ8.out.mono ?_
    rintro e w9 ⟨t, qe, de, qv, dv, er, rfl, ⟨rfl, rfl⟩, hrt, l9⟩
    have L9 := Lib.hid (L8.out.trans l9)
    have HRT := Lib.hid hrt
    clear l9 hrt CJ8 CJ f0 f1 f2 f3 g0 g1 g2 g3
    go_upto_region 11 with fail
    refine gen_w (P := fun W => Code.wp _ _ _ _ W) (fun V1 hV1 => ?_)
    have LQ1 := Lib.hid (show Low w9 V1 by rw [hV1]; exact low_new (Low.refl _) _)
    have LV1 := Lib.hid (L9.out.trans LQ1.out)
    have BJ := Lib.hid (BoxAt.made (cs := [.int .i64 t.k, .string t.n, .slice qe t.l.length de, .slice qv t.ats.length dv]) hV1 rfl rfl)
    clear hV1
    obtain ⟨f0, f1, f2, f3⟩ := (ZA.out.low LV1.out).at4
    obtain ⟨g0, g1, g2, g3⟩ := (ZB.out.low LV1.out).at4
    have CK1 := Lib.hid (CK.out V1 LV1.out)
    go_wp2_with fail
    refine CK1.out.mono ?_
    rintro e wA ⟨t', re, me, rv, mv, er', rfl, ⟨rfl, rfl⟩, hrt, lA⟩
    have LA := Lib.hid lA
    have HRT' := Lib.hid hrt
    clear lA hrt CK1 CK f0 f1 f2 f3 g0 g1 g2 g3
    go_upto_region 12 with fail
    refine gen_w (P := fun W => Code.wp _ _ _ _ W) (fun V2 hV2 => ?_)
    have LQ2 := Lib.hid (show Low wA V2 by rw [hV2]; exact low_new (Low.refl _) _)
    have LV2 := Lib.hid (LV1.out.trans (LA.out.trans LQ2.out))
    have BK := Lib.hid (BoxAt.made (cs := [.int .i64 t'.k, .string t'.n, .slice re t'.l.length me, .slice rv t'.ats.length mv]) hV2 rfl rfl)
    clear hV2
    have CAC := Lib.hid fun p : InL V2 => Calls.low p (Below_c a c p.w _ _ _ _ (by omega) (RA.out.low ((LU.out.trans LV2.out).trans p.ok)) (RC.out.low ((LU.out.trans LV2.out).trans p.ok)) HA.out.sm HC.out.sm HA.out.may HC.out.may)
    have CBC := Lib.hid fun p : InL V2 => Calls.low p (Below_c b c p.w _ _ _ _ (by omega) (RB.out.low ((LU.out.trans LV2.out).trans p.ok)) (RC.out.low ((LU.out.trans LV2.out).trans p.ok)) HB.out.sm HC.out.sm HB.out.may HC.out.may)
    rw [← TAC.out] at CAC
    rw [← TBC.out] at CBC
    unfold tv at CAC CBC
    have f := fun p : InL V2 => (ZA.out.low (LV2.out.trans p.ok)).at4
    have g := fun p : InL V2 => (ZB.out.low (LV2.out.trans p.ok)).at4
    have h := fun p : InL V2 => (ZC.out.low (LV2.out.trans p.ok)).at4
    have f0 := fun p => (f p).1
    have f1 := fun p => (f p).2.1
    have f2 := fun p => (f p).2.2.1
    have f3 := fun p => (f p).2.2.2
    have g0 := fun p => (g p).1
    have g1 := fun p => (g p).2.1
    have g2 := fun p => (g p).2.2.1
    have g3 := fun p => (g p).2.2.2
    have h0 := fun p => (h p).1
    have h1 := fun p => (h p).2.1
    have h2 := fun p => (h p).2.2.1
    have h3 := fun p => (h p).2.2.2
    clear f g h
    have SJ := Lib.hid (jn_sm 61 a b t ⟨HA.out.sm, HA.out.may⟩ ⟨HB.out.sm, HB.out.may⟩ TR.out.symm)
    have SK := Lib.hid (jn_sm 61 b a t' ⟨HB.out.sm, HB.out.may⟩ ⟨HA.out.sm, HA.out.may⟩ TR'.out.symm)
    have UJ := Lib.hid (jn_up 61 a b t HA.out.may HB.out.may TR.out.symm)
    have UK := Lib.hid (jn_up 61 b a t' HB.out.may HA.out.may TR'.out.symm)
    have EJK := Lib.hid (show smB 61 t t' = true by rw [smB_bel, jn_least 61 a b t t' TR.out.symm UK.out.2 UK.out.1, jn_least 61 b a t' t TR'.out.symm UJ.out.2 UJ.out.1]; rfl)
    have RJ := Lib.hid (HRT.out.low (LQ1.out.trans (LA.out.trans LQ2.out)))
    have RK := Lib.hid (HRT'.out.low LQ2.out)
    have CAJ := Lib.hid fun p : InL V2 => Calls.low p (Below_c a t p.w _ _ _ _ (by omega) (RA.out.low ((LU.out.trans LV2.out).trans p.ok)) (RJ.out.low p.ok) HA.out.sm SJ.out.1 HA.out.may SJ.out.2)
    have CBJ := Lib.hid fun p : InL V2 => Calls.low p (Below_c b t p.w _ _ _ _ (by omega) (RB.out.low ((LU.out.trans LV2.out).trans p.ok)) (RJ.out.low p.ok) HB.out.sm SJ.out.1 HB.out.may SJ.out.2)
    have CJC := Lib.hid fun p : InL V2 => Calls.low p (Below_c t c p.w _ _ _ _ (by omega) (RJ.out.low p.ok) (RC.out.low ((LU.out.trans LV2.out).trans p.ok)) SJ.out.1 HC.out.sm SJ.out.2 HC.out.may)
    have CJK := Lib.hid fun p : InL V2 => Calls.low p (Same_c t t' p.w _ _ _ _ (by omega) (RJ.out.low p.ok) (RK.out.low p.ok) SJ.out.1 SK.out.1 SJ.out.2 SK.out.2)
    rw [UJ.out.1] at CAJ
    rw [UJ.out.2] at CBJ
    rw [EJK.out] at CJK
    try rw [jn_least 61 a b t c TR.out.symm TAC.out.symm TBC.out.symm] at CJC
    unfold tv at CAJ CBJ CJC CJK
    have x := fun p : InL V2 => (BJ.out.low ((LA.out.trans LQ2.out).trans p.ok)).at4
    have y := fun p : InL V2 => (BK.out.low p.ok).at4
    have x0 := fun p => (x p).1
    have x1 := fun p => (x p).2.1
    have x2 := fun p => (x p).2.2.1
    have x3 := fun p => (x p).2.2.2
    have y0 := fun p => (y p).1
    have y1 := fun p => (y p).2.1
    have y2 := fun p => (y p).2.2.1
    have y3 := fun p => (y p).2.2.2
    clear x y
    refine in_low (P := fun W => Code.wp _ _ _ _ W) (fun p => ?_)
    go_wp2_with (first | ((with_reducible refine Calls.mono (CAC.out _) ?_); rintro _ _ ⟨rfl, q, rfl⟩) | ((with_reducible refine Calls.mono (CBC.out _) ?_); rintro _ _ ⟨rfl, q, rfl⟩) | ((with_reducible refine Calls.mono (CAJ.out _) ?_); rintro _ _ ⟨rfl, q, rfl⟩) | ((with_reducible refine Calls.mono (CBJ.out _) ?_); rintro _ _ ⟨rfl, q, rfl⟩) | ((with_reducible refine Calls.mono (CJC.out _) ?_); rintro _ _ ⟨rfl, q, rfl⟩) | ((with_reducible refine Calls.mono (CJK.out _) ?_); rintro _ _ ⟨rfl, q, rfl⟩))
    go_ret
    exact ⟨rfl, (LU.out.trans LV2.out).trans (InL.ok _)⟩
  ·
    go_wp2_with fail
    refine wp_region_low mixedT (by kernel_rfl) ?_
    repeat (go_big_quiet_step (first | (with_reducible exact CAB.out _) | (with_reducible exact CAA.out _) | (with_reducible exact CBA.out _) | (with_reducible exact CBC.out _) | (with_reducible exact CAC.out _) | (with_reducible exact CS.out _)))
    refine wpQuiet_nil ?_
    rintro W8 ⟨p8, hW8⟩
    have L8 := Lib.hid (show Low U W8 by rw [hW8]; exact L3.out.trans p8.ok)
    clear hW8 p8 CAA CAB CBA CBC CAC CS f0 f1 f2 f3 g0 g1 g2 g3 h0 h1 h2 h3 this
    obtain ⟨f0, f1, f2, f3⟩ := (ZA.out.low L8.out).at4
    obtain ⟨g0, g1, g2, g3⟩ := (ZB.out.low L8.out).at4
    have CJ8 := Lib.hid (CJ.out W8 L8.out)
    go_wp2_with fail
    refine CJ8.out.mono ?_
    rintro e w9 ⟨t, qe, de, qv, dv, er, rfl, ⟨rfl, rfl⟩, hrt, l9⟩
    have L9 := Lib.hid (L8.out.trans l9)
    have HRT := Lib.hid hrt
    clear l9 hrt CJ8 CJ f0 f1 f2 f3 g0 g1 g2 g3
    go_upto_region 11 with fail
    refine gen_w (P := fun W => Code.wp _ _ _ _ W) (fun V1 hV1 => ?_)
    have LQ1 := Lib.hid (show Low w9 V1 by rw [hV1]; exact low_new (Low.refl _) _)
    have LV1 := Lib.hid (L9.out.trans LQ1.out)
    have BJ := Lib.hid (BoxAt.made (cs := [.int .i64 t.k, .string t.n, .slice qe t.l.length de, .slice qv t.ats.length dv]) hV1 rfl rfl)
    clear hV1
    obtain ⟨f0, f1, f2, f3⟩ := (ZA.out.low LV1.out).at4
    obtain ⟨g0, g1, g2, g3⟩ := (ZB.out.low LV1.out).at4
    have CK1 := Lib.hid (CK.out V1 LV1.out)
    go_wp2_with fail
    refine CK1.out.mono ?_
    rintro e wA ⟨t', re, me, rv, mv, er', rfl, ⟨rfl, rfl⟩, hrt, lA⟩
    have LA := Lib.hid lA
    have HRT' := Lib.hid hrt
    clear lA hrt CK1 CK f0 f1 f2 f3 g0 g1 g2 g3
    go_upto_region 12 with fail
    refine gen_w (P := fun W => Code.wp _ _ _ _ W) (fun V2 hV2 => ?_)
    have LQ2 := Lib.hid (show Low wA V2 by rw [hV2]; exact low_new (Low.refl _) _)
    have LV2 := Lib.hid (LV1.out.trans (LA.out.trans LQ2.out))
    have BK := Lib.hid (BoxAt.made (cs := [.int .i64 t'.k, .string t'.n, .slice re t'.l.length me, .slice rv t'.ats.length mv]) hV2 rfl rfl)
    clear hV2
    have CAC := Lib.hid fun p : InL V2 => Calls.low p (Below_c a c p.w _ _ _ _ (by omega) (RA.out.low ((LU.out.trans LV2.out).trans p.ok)) (RC.out.low ((LU.out.trans LV2.out).trans p.ok)) HA.out.sm HC.out.sm HA.out.may HC.out.may)
    have CBC := Lib.hid fun p : InL V2 => Calls.low p (Below_c b c p.w _ _ _ _ (by omega) (RB.out.low ((LU.out.trans LV2.out).trans p.ok)) (RC.out.low ((LU.out.trans LV2.out).trans p.ok)) HB.out.sm HC.out.sm HB.out.may HC.out.may)
    rw [← TAC.out] at CAC
    rw [← TBC.out] at CBC
    unfold tv at CAC CBC
    have f := fun p : InL V2 => (ZA.out.low (LV2.out.trans p.ok)).at4
    have g := fun p : InL V2 => (ZB.out.low (LV2.out.trans p.ok)).at4
    have h := fun p : InL V2 => (ZC.out.low (LV2.out.trans p.ok)).at4
    have f0 := fun p => (f p).1
    have f1 := fun p => (f p).2.1
    have f2 := fun p => (f p).2.2.1
    have f3 := fun p => (f p).2.2.2
    have g0 := fun p => (g p).1
    have g1 := fun p => (g p).2.1
    have g2 := fun p => (g p).2.2.1
    have g3 := fun p => (g p).2.2.2
    have h0 := fun p => (h p).1
    have h1 := fun p => (h p).2.1
    have h2 := fun p => (h p).2.2.1
    have h3 := fun p => (h p).2.2.2
    clear f g h
    have SJ := Lib.hid (jn_sm 61 a b t ⟨HA.out.sm, HA.out.may⟩ ⟨HB.out.sm, HB.out.may⟩ TR.out.symm)
    have SK := Lib.hid (jn_sm 61 b a t' ⟨HB.out.sm, HB.out.may⟩ ⟨HA.out.sm, HA.out.may⟩ TR'.out.symm)
    have UJ := Lib.hid (jn_up 61 a b t HA.out.may HB.out.may TR.out.symm)
    have UK := Lib.hid (jn_up 61 b a t' HB.out.may HA.out.may TR'.out.symm)
    have EJK := Lib.hid (show smB 61 t t' = true by rw [smB_bel, jn_least 61 a b t t' TR.out.symm UK.out.2 UK.out.1, jn_least 61 b a t' t TR'.out.symm UJ.out.2 UJ.out.1]; rfl)
    have RJ := Lib.hid (HRT.out.low (LQ1.out.trans (LA.out.trans LQ2.out)))
    have RK := Lib.hid (HRT'.out.low LQ2.out)
    have CAJ := Lib.hid fun p : InL V2 => Calls.low p (Below_c a t p.w _ _ _ _ (by omega) (RA.out.low ((LU.out.trans LV2.out).trans p.ok)) (RJ.out.low p.ok) HA.out.sm SJ.out.1 HA.out.may SJ.out.2)
    have CBJ := Lib.hid fun p : InL V2 => Calls.low p (Below_c b t p.w _ _ _ _ (by omega) (RB.out.low ((LU.out.trans LV2.out).trans p.ok)) (RJ.out.low p.ok) HB.out.sm SJ.out.1 HB.out.may SJ.out.2)
    have CJC := Lib.hid fun p : InL V2 => Calls.low p (Below_c t c p.w _ _ _ _ (by omega) (RJ.out.low p.ok) (RC.out.low ((LU.out.trans LV2.out).trans p.ok)) SJ.out.1 HC.out.sm SJ.out.2 HC.out.may)
    have CJK := Lib.hid fun p : InL V2 => Calls.low p (Same_c t t' p.w _ _ _ _ (by omega) (RJ.out.low p.ok) (RK.out.low p.ok) SJ.out.1 SK.out.1 SJ.out.2 SK.out.2)
    rw [UJ.out.1] at CAJ
    rw [UJ.out.2] at CBJ
    rw [EJK.out] at CJK
    try rw [jn_least 61 a b t c TR.out.symm TAC.out.symm TBC.out.symm] at CJC
    unfold tv at CAJ CBJ CJC CJK
    have x := fun p : InL V2 => (BJ.out.low ((LA.out.trans LQ2.out).trans p.ok)).at4
    have y := fun p : InL V2 => (BK.out.low p.ok).at4
    have x0 := fun p => (x p).1
    have x1 := fun p => (x p).2.1
    have x2 := fun p => (x p).2.2.1
    have x3 := fun p => (x p).2.2.2
    have y0 := fun p => (y p).1
    have y1 := fun p => (y p).2.1
    have y2 := fun p => (y p).2.2.1
    have y3 := fun p => (y p).2.2.2
    clear x y
    refine in_low (P := fun W => Code.wp _ _ _ _ W) (fun p => ?_)
    go_wp2_with (first | ((with_reducible refine Calls.mono (CAC.out _) ?_); rintro _ _ ⟨rfl, q, rfl⟩) | ((with_reducible refine Calls.mono (CBC.out _) ?_); rintro _ _ ⟨rfl, q, rfl⟩) | ((with_reducible refine Calls.mono (CAJ.out _) ?_); rintro _ _ ⟨rfl, q, rfl⟩) | ((with_reducible refine Calls.mono (CBJ.out _) ?_); rintro _ _ ⟨rfl, q, rfl⟩) | ((with_reducible refine Calls.mono (CJC.out _) ?_); rintro _ _ ⟨rfl, q, rfl⟩) | ((with_reducible refine Calls.mono (CJK.out _) ?_); rintro _ _ ⟨rfl, q, rfl⟩))
    go_ret
    exact ⟨rfl, (LU.out.trans LV2.out).trans (InL.ok _)⟩
  ·
    go_wp2_with fail
    refine wp_region_low mixedT (by kernel_rfl) ?_
    repeat (go_big_quiet_step (first | (with_reducible exact CAB.out _) | (with_reducible exact CAA.out _) | (with_reducible exact CBA.out _) | (with_reducible exact CBC.out _) | (with_reducible exact CAC.out _) | (with_reducible exact CS.out _)))
    refine wpQuiet_nil ?_
    rintro W8 ⟨p8, hW8⟩
    have L8 := Lib.hid (show Low U W8 by rw [hW8]; exact L3.out.trans p8.ok)
    clear hW8 p8 CAA CAB CBA CBC CAC CS f0 f1 f2 f3 g0 g1 g2 g3 h0 h1 h2 h3 this
    obtain ⟨f0, f1, f2, f3⟩ := (ZA.out.low L8.out).at4
    obtain ⟨g0, g1, g2, g3⟩ := (ZB.out.low L8.out).at4
    have CJ8 := Lib.hid (CJ.out W8 L8.out)
    go_wp2_with fail
    refine CJ8.out.mono ?_
    rintro e w9 ⟨t, qe, de, qv, dv, er, rfl, ⟨rfl, rfl⟩, hrt, l9⟩
    have L9 := Lib.hid (L8.out.trans l9)
    have HRT := Lib.hid hrt
    clear l9 hrt CJ8 CJ f0 f1 f2 f3 g0 g1 g2 g3
    go_upto_region 11 with fail
    refine gen_w (P := fun W => Code.wp _ _ _ _ W) (fun V1 hV1 => ?_)
    have LQ1 := Lib.hid (show Low w9 V1 by rw [hV1]; exact low_new (Low.refl _) _)
    have LV1 := Lib.hid (L9.out.trans LQ1.out)
    have BJ := Lib.hid (BoxAt.made (cs := [.int .i64 t.k, .string t.n, .slice qe t.l.length de, .slice qv t.ats.length dv]) hV1 rfl rfl)
    clear hV1
    obtain ⟨f0, f1, f2, f3⟩ := (ZA.out.low LV1.out).at4
    obtain ⟨g0, g1, g2, g3⟩ := (ZB.out.low LV1.out).at4
    have CK1 := Lib.hid (CK.out V1 LV1.out)
    go_wp2_with fail
    refine CK1.out.mono ?_
    rintro e wA ⟨t', re, me, rv, mv, er', rfl, ⟨rfl, rfl⟩, hrt, lA⟩
    have LA := Lib.hid lA
    have HRT' := Lib.hid hrt
    clear lA hrt CK1 CK f0 f1 f2 f3 g0 g1 g2 g3
    go_upto_region 12 with fail
    refine gen_w (P := fun W => Code.wp _ _ _ _ W) (fun V2 hV2 => ?_)
    have LQ2 := Lib.hid (show Low wA V2 by rw [hV2]; exact low_new (Low.refl _) _)
    have LV2 := Lib.hid (LV1.out.trans (LA.out.trans LQ2.out))
    have BK := Lib.hid (BoxAt.made (cs := [.int .i64 t'.k, .string t'.n, .slice re t'.l.length me, .slice rv t'.ats.length mv]) hV2 rfl rfl)
    clear hV2
    have CAC := Lib.hid fun p : InL V2 => Calls.low p (Below_c a c p.w _ _ _ _ (by omega) (RA.out.low ((LU.out.trans LV2.out).trans p.ok)) (RC.out.low ((LU.out.trans LV2.out).trans p.ok)) HA.out.sm HC.out.sm HA.out.may HC.out.may)
    have CBC := Lib.hid fun p : InL V2 => Calls.low p (Below_c b c p.w _ _ _ _ (by omega) (RB.out.low ((LU.out.trans LV2.out).trans p.ok)) (RC.out.low ((LU.out.trans LV2.out).trans p.ok)) HB.out.sm HC.out.sm HB.out.may HC.out.may)
    rw [← TAC.out] at CAC
    rw [← TBC.out] at CBC
    unfold tv at CAC CBC
    have f := fun p : InL V2 => (ZA.out.low (LV2.out.trans p.ok)).at4
    have g := fun p : InL V2 => (ZB.out.low (LV2.out.trans p.ok)).at4
    have h := fun p : InL V2 => (ZC.out.low (LV2.out.trans p.ok)).at4
    have f0 := fun p => (f p).1
    have f1 := fun p => (f p).2.1
    have f2 := fun p => (f p).2.2.1
    have f3 := fun p => (f p).2.2.2
    have g0 := fun p => (g p).1
    have g1 := fun p => (g p).2.1
    have g2 := fun p => (g p).2.2.1
    have g3 := fun p => (g p).2.2.2
    have h0 := fun p => (h p).1
    have h1 := fun p => (h p).2.1
    have h2 := fun p => (h p).2.2.1
    have h3 := fun p => (h p).2.2.2
    clear f g h
    have SJ := Lib.hid (jn_sm 61 a b t ⟨HA.out.sm, HA.out.may⟩ ⟨HB.out.sm, HB.out.may⟩ TR.out.symm)
    have SK := Lib.hid (jn_sm 61 b a t' ⟨HB.out.sm, HB.out.may⟩ ⟨HA.out.sm, HA.out.may⟩ TR'.out.symm)
    have UJ := Lib.hid (jn_up 61 a b t HA.out.may HB.out.may TR.out.symm)
    have UK := Lib.hid (jn_up 61 b a t' HB.out.may HA.out.may TR'.out.symm)
    have EJK := Lib.hid (show smB 61 t t' = true by rw [smB_bel, jn_least 61 a b t t' TR.out.symm UK.out.2 UK.out.1, jn_least 61 b a t' t TR'.out.symm UJ.out.2 UJ.out.1]; rfl)
    have RJ := Lib.hid (HRT.out.low (LQ1.out.trans (LA.out.trans LQ2.out)))
    have RK := Lib.hid (HRT'.out.low LQ2.out)
    have CAJ := Lib.hid fun p : InL V2 => Calls.low p (Below_c a t p.w _ _ _ _ (by omega) (RA.out.low ((LU.out.trans LV2.out).trans p.ok)) (RJ.out.low p.ok) HA.out.sm SJ.out.1 HA.out.may SJ.out.2)
    have CBJ := Lib.hid fun p : InL V2 => Calls.low p (Below_c b t p.w _ _ _ _ (by omega) (RB.out.low ((LU.out.trans LV2.out).trans p.ok)) (RJ.out.low p.ok) HB.out.sm SJ.out.1 HB.out.may SJ.out.2)
    have CJC := Lib.hid fun p : InL V2 => Calls.low p (Below_c t c p.w _ _ _ _ (by omega) (RJ.out.low p.ok) (RC.out.low ((LU.out.trans LV2.out).trans p.ok)) SJ.out.1 HC.out.sm SJ.out.2 HC.out.may)
    have CJK := Lib.hid fun p : InL V2 => Calls.low p (Same_c t t' p.w _ _ _ _ (by omega) (RJ.out.low p.ok) (RK.out.low p.ok) SJ.out.1 SK.out.1 SJ.out.2 SK.out.2)
    rw [UJ.out.1] at CAJ
    rw [UJ.out.2] at CBJ
    rw [EJK.out] at CJK
    try rw [jn_least 61 a b t c TR.out.symm TAC.out.symm TBC.out.symm] at CJC
    unfold tv at CAJ CBJ CJC CJK
    have x := fun p : InL V2 => (BJ.out.low ((LA.out.trans LQ2.out).trans p.ok)).at4
    have y := fun p : InL V2 => (BK.out.low p.ok).at4
    have x0 := fun p => (x p).1
    have x1 := fun p => (x p).2.1
    have x2 := fun p => (x p).2.2.1
    have x3 := fun p => (x p).2.2.2
    have y0 := fun p => (y p).1
    have y1 := fun p => (y p).2.1
    have y2 := fun p => (y p).2.2.1
    have y3 := fun p => (y p).2.2.2
    clear x y
    refine in_low (P := fun W => Code.wp _ _ _ _ W) (fun p => ?_)
    go_wp2_with (first | ((with_reducible refine Calls.mono (CAC.out _) ?_); rintro _ _ ⟨rfl, q, rfl⟩) | ((with_reducible refine Calls.mono (CBC.out _) ?_); rintro _ _ ⟨rfl, q, rfl⟩) | ((with_reducible refine Calls.mono (CAJ.out _) ?_); rintro _ _ ⟨rfl, q, rfl⟩) | ((with_reducible refine Calls.mono (CBJ.out _) ?_); rintro _ _ ⟨rfl, q, rfl⟩) | ((with_reducible refine Calls.mono (CJC.out _) ?_); rintro _ _ ⟨rfl, q, rfl⟩) | ((with_reducible refine Calls.mono (CJK.out _) ?_); rintro _ _ ⟨rfl, q, rfl⟩))
    go_ret
    exact ⟨rfl, (LU.out.trans LV2.out).trans (InL.ok _)⟩
  ·
    go_wp2_with fail
    refine wp_region_low mixedT (by kernel_rfl) ?_
    repeat (go_big_quiet_step (first | (with_reducible exact CAB.out _) | (with_reducible exact CAA.out _) | (with_reducible exact CBA.out _) | (with_reducible exact CBC.out _) | (with_reducible exact CAC.out _) | (with_reducible exact CS.out _)))
    refine wpQuiet_nil ?_
    rintro W8 ⟨p8, hW8⟩
    have L8 := Lib.hid (show Low U W8 by rw [hW8]; exact L3.out.trans p8.ok)
    clear hW8 p8 CAA CAB CBA CBC CAC CS f0 f1 f2 f3 g0 g1 g2 g3 h0 h1 h2 h3 this
    obtain ⟨f0, f1, f2, f3⟩ := (ZA.out.low L8.out).at4
    obtain ⟨g0, g1, g2, g3⟩ := (ZB.out.low L8.out).at4
    have CJ8 := Lib.hid (CJ.out W8 L8.out)
    go_wp2_with fail
    refine CJ8.out.mono ?_
    rintro e w9 ⟨t, qe, de, qv, dv, er, rfl, ⟨rfl, rfl⟩, hrt, l9⟩
    have L9 := Lib.hid (L8.out.trans l9)
    have HRT := Lib.hid hrt
    clear l9 hrt CJ8 CJ f0 f1 f2 f3 g0 g1 g2 g3
    go_upto_region 11 with fail
    refine gen_w (P := fun W => Code.wp _ _ _ _ W) (fun V1 hV1 => ?_)
    have LQ1 := Lib.hid (show Low w9 V1 by rw [hV1]; exact low_new (Low.refl _) _)
    have LV1 := Lib.hid (L9.out.trans LQ1.out)
    have BJ := Lib.hid (BoxAt.made (cs := [.int .i64 t.k, .string t.n, .slice qe t.l.length de, .slice qv t.ats.length dv]) hV1 rfl rfl)
    clear hV1
    obtain ⟨f0, f1, f2, f3⟩ := (ZA.out.low LV1.out).at4
    obtain ⟨g0, g1, g2, g3⟩ := (ZB.out.low LV1.out).at4
    have CK1 := Lib.hid (CK.out V1 LV1.out)
    go_wp2_with fail
    refine CK1.out.mono ?_
    rintro e wA ⟨t', re, me, rv, mv, er', rfl, ⟨rfl, rfl⟩, hrt, lA⟩
    have LA := Lib.hid lA
    have HRT' := Lib.hid hrt
    clear lA hrt CK1 CK f0 f1 f2 f3 g0 g1 g2 g3
    go_upto_region 12 with fail
    refine gen_w (P := fun W => Code.wp _ _ _ _ W) (fun V2 hV2 => ?_)
    have LQ2 := Lib.hid (show Low wA V2 by rw [hV2]; exact low_new (Low.refl _) _)
    have LV2 := Lib.hid (LV1.out.trans (LA.out.trans LQ2.out))
    have BK := Lib.hid (BoxAt.made (cs := [.int .i64 t'.k, .string t'.n, .slice re t'.l.length me, .slice rv t'.ats.length mv]) hV2 rfl rfl)
    clear hV2
    have CAC := Lib.hid fun p : InL V2 => Calls.low p (Below_c a c p.w _ _ _ _ (by omega) (RA.out.low ((LU.out.trans LV2.out).trans p.ok)) (RC.out.low ((LU.out.trans LV2.out).trans p.ok)) HA.out.sm HC.out.sm HA.out.may HC.out.may)
    have CBC := Lib.hid fun p : InL V2 => Calls.low p (Below_c b c p.w _ _ _ _ (by omega) (RB.out.low ((LU.out.trans LV2.out).trans p.ok)) (RC.out.low ((LU.out.trans LV2.out).trans p.ok)) HB.out.sm HC.out.sm HB.out.may HC.out.may)
    rw [← TAC.out] at CAC
    rw [← TBC.out] at CBC
    unfold tv at CAC CBC
    have f := fun p : InL V2 => (ZA.out.low (LV2.out.trans p.ok)).at4
    have g := fun p : InL V2 => (ZB.out.low (LV2.out.trans p.ok)).at4
    have h := fun p : InL V2 => (ZC.out.low (LV2.out.trans p.ok)).at4
    have f0 := fun p => (f p).1
    have f1 := fun p => (f p).2.1
    have f2 := fun p => (f p).2.2.1
    have f3 := fun p => (f p).2.2.2
    have g0 := fun p => (g p).1
    have g1 := fun p => (g p).2.1
    have g2 := fun p => (g p).2.2.1
    have g3 := fun p => (g p).2.2.2
    have h0 := fun p => (h p).1
    have h1 := fun p => (h p).2.1
    have h2 := fun p => (h p).2.2.1
    have h3 := fun p => (h p).2.2.2
    clear f g h
    have SJ := Lib.hid (jn_sm 61 a b t ⟨HA.out.sm, HA.out.may⟩ ⟨HB.out.sm, HB.out.may⟩ TR.out.symm)
    have SK := Lib.hid (jn_sm 61 b a t' ⟨HB.out.sm, HB.out.may⟩ ⟨HA.out.sm, HA.out.may⟩ TR'.out.symm)
    have UJ := Lib.hid (jn_up 61 a b t HA.out.may HB.out.may TR.out.symm)
    have UK := Lib.hid (jn_up 61 b a t' HB.out.may HA.out.may TR'.out.symm)
    have EJK := Lib.hid (show smB 61 t t' = true by rw [smB_bel, jn_least 61 a b t t' TR.out.symm UK.out.2 UK.out.1, jn_least 61 b a t' t TR'.out.symm UJ.out.2 UJ.out.1]; rfl)
    have RJ := Lib.hid (HRT.out.low (LQ1.out.trans (LA.out.trans LQ2.out)))
    have RK := Lib.hid (HRT'.out.low LQ2.out)
    have CAJ := Lib.hid fun p : InL V2 => Calls.low p (Below_c a t p.w _ _ _ _ (by omega) (RA.out.low ((LU.out.trans LV2.out).trans p.ok)) (RJ.out.low p.ok) HA.out.sm SJ.out.1 HA.out.may SJ.out.2)
    have CBJ := Lib.hid fun p : InL V2 => Calls.low p (Below_c b t p.w _ _ _ _ (by omega) (RB.out.low ((LU.out.trans LV2.out).trans p.ok)) (RJ.out.low p.ok) HB.out.sm SJ.out.1 HB.out.may SJ.out.2)
    have CJC := Lib.hid fun p : InL V2 => Calls.low p (Below_c t c p.w _ _ _ _ (by omega) (RJ.out.low p.ok) (RC.out.low ((LU.out.trans LV2.out).trans p.ok)) SJ.out.1 HC.out.sm SJ.out.2 HC.out.may)
    have CJK := Lib.hid fun p : InL V2 => Calls.low p (Same_c t t' p.w _ _ _ _ (by omega) (RJ.out.low p.ok) (RK.out.low p.ok) SJ.out.1 SK.out.1 SJ.out.2 SK.out.2)
    rw [UJ.out.1] at CAJ
    rw [UJ.out.2] at CBJ
    rw [EJK.out] at CJK
    try rw [jn_least 61 a b t c TR.out.symm TAC.out.symm TBC.out.symm] at CJC
    unfold tv at CAJ CBJ CJC CJK
    have x := fun p : InL V2 => (BJ.out.low ((LA.out.trans LQ2.out).trans p.ok)).at4
    have y := fun p : InL V2 => (BK.out.low p.ok).at4
    have x0 := fun p => (x p).1
    have x1 := fun p => (x p).2.1
    have x2 := fun p => (x p).2.2.1
    have x3 := fun p => (x p).2.2.2
    have y0 := fun p => (y p).1
    have y1 := fun p => (y p).2.1
    have y2 := fun p => (y p).2.2.1
    have y3 := fun p => (y p).2.2.2
    clear x y
    refine in_low (P := fun W => Code.wp _ _ _ _ W) (fun p => ?_)
    go_wp2_with (first | ((with_reducible refine Calls.mono (CAC.out _) ?_); rintro _ _ ⟨rfl, q, rfl⟩) | ((with_reducible refine Calls.mono (CBC.out _) ?_); rintro _ _ ⟨rfl, q, rfl⟩) | ((with_reducible refine Calls.mono (CAJ.out _) ?_); rintro _ _ ⟨rfl, q, rfl⟩) | ((with_reducible refine Calls.mono (CBJ.out _) ?_); rintro _ _ ⟨rfl, q, rfl⟩) | ((with_reducible refine Calls.mono (CJC.out _) ?_); rintro _ _ ⟨rfl, q, rfl⟩) | ((with_reducible refine Calls.mono (CJK.out _) ?_); rintro _ _ ⟨rfl, q, rfl⟩))
    go_ret
    exact ⟨rfl, (LU.out.trans LV2.out).trans (InL.ok _)⟩
  ·
    go_wp2_with fail
    refine wp_region_low mixedT (by kernel_rfl) ?_
    repeat (go_big_quiet_step (first | (with_reducible exact CAB.out _) | (with_reducible exact CAA.out _) | (with_reducible exact CBA.out _) | (with_reducible exact CBC.out _) | (with_reducible exact CAC.out _) | (with_reducible exact CS.out _)))
    refine wpQuiet_nil ?_
    rintro W8 ⟨p8, hW8⟩
    have L8 := Lib.hid (show Low U W8 by rw [hW8]; exact L3.out.trans p8.ok)
    clear hW8 p8 CAA CAB CBA CBC CAC CS f0 f1 f2 f3 g0 g1 g2 g3 h0 h1 h2 h3 this
    obtain ⟨f0, f1, f2, f3⟩ := (ZA.out.low L8.out).at4
    obtain ⟨g0, g1, g2, g3⟩ := (ZB.out.low L8.out).at4
    have CJ8 := Lib.hid (CJ.out W8 L8.out)
    go_wp2_with fail
    refine CJ8.out.mono ?_
    rintro e w9 ⟨t, qe, de, qv, dv, er, rfl, ⟨rfl, rfl⟩, hrt, l9⟩
    have L9 := Lib.hid (L8.out.trans l9)
    have HRT := Lib.hid hrt
    clear l9 hrt CJ8 CJ f0 f1 f2 f3 g0 g1 g2 g3
    go_upto_region 11 with fail
    refine gen_w (P := fun W => Code.wp _ _ _ _ W) (fun V1 hV1 => ?_)
    have LQ1 := Lib.hid (show Low w9 V1 by rw [hV1]; exact low_new (Low.refl _) _)
    have LV1 := Lib.hid (L9.out.trans LQ1.out)
    have BJ := Lib.hid (BoxAt.made (cs := [.int .i64 t.k, .string t.n, .slice qe t.l.length de, .slice qv t.ats.length dv]) hV1 rfl rfl)
    clear hV1
    obtain ⟨f0, f1, f2, f3⟩ := (ZA.out.low LV1.out).at4
    obtain ⟨g0, g1, g2, g3⟩ := (ZB.out.low LV1.out).at4
    have CK1 := Lib.hid (CK.out V1 LV1.out)
    go_wp2_with fail
    refine CK1.out.mono ?_
    rintro e wA ⟨t', re, me, rv, mv, er', rfl, ⟨rfl, rfl⟩, hrt, lA⟩
    have LA := Lib.hid lA
    have HRT' := Lib.hid hrt
    clear lA hrt CK1 CK f0 f1 f2 f3 g0 g1 g2 g3
    go_upto_region 12 with fail
    refine gen_w (P := fun W => Code.wp _ _ _ _ W) (fun V2 hV2 => ?_)
    have LQ2 := Lib.hid (show Low wA V2 by rw [hV2]; exact low_new (Low.refl _) _)
    have LV2 := Lib.hid (LV1.out.trans (LA.out.trans LQ2.out))
    have BK := Lib.hid (BoxAt.made (cs := [.int .i64 t'.k, .string t'.n, .slice re t'.l.length me, .slice rv t'.ats.length mv]) hV2 rfl rfl)
    clear hV2
    have CAC := Lib.hid fun p : InL V2 => Calls.low p (Below_c a c p.w _ _ _ _ (by omega) (RA.out.low ((LU.out.trans LV2.out).trans p.ok)) (RC.out.low ((LU.out.trans LV2.out).trans p.ok)) HA.out.sm HC.out.sm HA.out.may HC.out.may)
    have CBC := Lib.hid fun p : InL V2 => Calls.low p (Below_c b c p.w _ _ _ _ (by omega) (RB.out.low ((LU.out.trans LV2.out).trans p.ok)) (RC.out.low ((LU.out.trans LV2.out).trans p.ok)) HB.out.sm HC.out.sm HB.out.may HC.out.may)
    rw [← TAC.out] at CAC
    rw [← TBC.out] at CBC
    unfold tv at CAC CBC
    have f := fun p : InL V2 => (ZA.out.low (LV2.out.trans p.ok)).at4
    have g := fun p : InL V2 => (ZB.out.low (LV2.out.trans p.ok)).at4
    have h := fun p : InL V2 => (ZC.out.low (LV2.out.trans p.ok)).at4
    have f0 := fun p => (f p).1
    have f1 := fun p => (f p).2.1
    have f2 := fun p => (f p).2.2.1
    have f3 := fun p => (f p).2.2.2
    have g0 := fun p => (g p).1
    have g1 := fun p => (g p).2.1
    have g2 := fun p => (g p).2.2.1
    have g3 := fun p => (g p).2.2.2
    have h0 := fun p => (h p).1
    have h1 := fun p => (h p).2.1
    have h2 := fun p => (h p).2.2.1
    have h3 := fun p => (h p).2.2.2
    clear f g h
    have SJ := Lib.hid (jn_sm 61 a b t ⟨HA.out.sm, HA.out.may⟩ ⟨HB.out.sm, HB.out.may⟩ TR.out.symm)
    have SK := Lib.hid (jn_sm 61 b a t' ⟨HB.out.sm, HB.out.may⟩ ⟨HA.out.sm, HA.out.may⟩ TR'.out.symm)
    have UJ := Lib.hid (jn_up 61 a b t HA.out.may HB.out.may TR.out.symm)
    have UK := Lib.hid (jn_up 61 b a t' HB.out.may HA.out.may TR'.out.symm)
    have EJK := Lib.hid (show smB 61 t t' = true by rw [smB_bel, jn_least 61 a b t t' TR.out.symm UK.out.2 UK.out.1, jn_least 61 b a t' t TR'.out.symm UJ.out.2 UJ.out.1]; rfl)
    have RJ := Lib.hid (HRT.out.low (LQ1.out.trans (LA.out.trans LQ2.out)))
    have RK := Lib.hid (HRT'.out.low LQ2.out)
    have CAJ := Lib.hid fun p : InL V2 => Calls.low p (Below_c a t p.w _ _ _ _ (by omega) (RA.out.low ((LU.out.trans LV2.out).trans p.ok)) (RJ.out.low p.ok) HA.out.sm SJ.out.1 HA.out.may SJ.out.2)
    have CBJ := Lib.hid fun p : InL V2 => Calls.low p (Below_c b t p.w _ _ _ _ (by omega) (RB.out.low ((LU.out.trans LV2.out).trans p.ok)) (RJ.out.low p.ok) HB.out.sm SJ.out.1 HB.out.may SJ.out.2)
    have CJC := Lib.hid fun p : InL V2 => Calls.low p (Below_c t c p.w _ _ _ _ (by omega) (RJ.out.low p.ok) (RC.out.low ((LU.out.trans LV2.out).trans p.ok)) SJ.out.1 HC.out.sm SJ.out.2 HC.out.may)
    have CJK := Lib.hid fun p : InL V2 => Calls.low p (Same_c t t' p.w _ _ _ _ (by omega) (RJ.out.low p.ok) (RK.out.low p.ok) SJ.out.1 SK.out.1 SJ.out.2 SK.out.2)
    rw [UJ.out.1] at CAJ
    rw [UJ.out.2] at CBJ
    rw [EJK.out] at CJK
    try rw [jn_least 61 a b t c TR.out.symm TAC.out.symm TBC.out.symm] at CJC
    unfold tv at CAJ CBJ CJC CJK
    have x := fun p : InL V2 => (BJ.out.low ((LA.out.trans LQ2.out).trans p.ok)).at4
    have y := fun p : InL V2 => (BK.out.low p.ok).at4
    have x0 := fun p => (x p).1
    have x1 := fun p => (x p).2.1
    have x2 := fun p => (x p).2.2.1
    have x3 := fun p => (x p).2.2.2
    have y0 := fun p => (y p).1
    have y1 := fun p => (y p).2.1
    have y2 := fun p => (y p).2.2.1
    have y3 := fun p => (y p).2.2.2
    clear x y
    refine in_low (P := fun W => Code.wp _ _ _ _ W) (fun p => ?_)
    go_wp2_with (first | ((with_reducible refine Calls.mono (CAC.out _) ?_); rintro _ _ ⟨rfl, q, rfl⟩) | ((with_reducible refine Calls.mono (CBC.out _) ?_); rintro _ _ ⟨rfl, q, rfl⟩) | ((with_reducible refine Calls.mono (CAJ.out _) ?_); rintro _ _ ⟨rfl, q, rfl⟩) | ((with_reducible refine Calls.mono (CBJ.out _) ?_); rintro _ _ ⟨rfl, q, rfl⟩) | ((with_reducible refine Calls.mono (CJC.out _) ?_); rintro _ _ ⟨rfl, q, rfl⟩) | ((with_reducible refine Calls.mono (CJK.out _) ?_); rintro _ _ ⟨rfl, q, rfl⟩))
    go_ret
    exact ⟨rfl, (LU.out.trans LV2.out).trans (InL.ok _)⟩
  ·
    go_wp2_with fail
    refine wp_region_low mixedT (by kernel_rfl) ?_
    repeat (go_big_quiet_step (first | (with_reducible exact CAB.out _) | (with_reducible exact CAA.out _) | (with_reducible exact CBA.out _) | (with_reducible exact CBC.out _) | (with_reducible exact CAC.out _) | (with_reducible exact CS.out _)))
    refine wpQuiet_nil ?_
    rintro W8 ⟨p8, hW8⟩
    have L8 := Lib.hid (show Low U W8 by rw [hW8]; exact L3.out.trans p8.ok)
    clear hW8 p8 CAA CAB CBA CBC CAC CS f0 f1 f2 f3 g0 g1 g2 g3 h0 h1 h2 h3 this
    obtain ⟨f0, f1, f2, f3⟩ := (ZA.out.low L8.out).at4
    obtain ⟨g0, g1, g2, g3⟩ := (ZB.out.low L8.out).at4
    have CJ8 := Lib.hid (CJ.out W8 L8.out)
    go_wp2_with fail
    refine CJ8.out.mono ?_
    rintro e w9 ⟨t, qe, de, qv, dv, er, rfl, ⟨rfl, rfl⟩, hrt, l9⟩
    have L9 := Lib.hid (L8.out.trans l9)
    have HRT := Lib.hid hrt
    clear l9 hrt CJ8 CJ f0 f1 f2 f3 g0 g1 g2 g3
    go_upto_region 11 with fail
    refine gen_w (P := fun W => Code.wp _ _ _ _ W) (fun V1 hV1 => ?_)
    have LQ1 := Lib.hid (show Low w9 V1 by rw [hV1]; exact low_new (Low.refl _) _)
    have LV1 := Lib.hid (L9.out.trans LQ1.out)
    have BJ := Lib.hid (BoxAt.made (cs := [.int .i64 t.k, .string t.n, .slice qe t.l.length de, .slice qv t.ats.length dv]) hV1 rfl rfl)
    clear hV1
    obtain ⟨f0, f1, f2, f3⟩ := (ZA.out.low LV1.out).at4
    obtain ⟨g0, g1, g2, g3⟩ := (ZB.out.low LV1.out).at4
    have CK1 := Lib.hid (CK.out V1 LV1.out)
    go_wp2_with fail
    refine CK1.out.mono ?_
    rintro e wA ⟨t', re, me, rv, mv, er', rfl, ⟨rfl, rfl⟩, hrt, lA⟩
    have LA := Lib.hid lA
    have HRT' := Lib.hid hrt
    clear lA hrt CK1 CK f0 f1 f2 f3 g0 g1 g2 g3
    go_upto_region 12 with fail
    refine gen_w (P := fun W => Code.wp _ _ _ _ W) (fun V2 hV2 => ?_)
    have LQ2 := Lib.hid (show Low wA V2 by rw [hV2]; exact low_new (Low.refl _) _)
    have LV2 := Lib.hid (LV1.out.trans (LA.out.trans LQ2.out))
    have BK := Lib.hid (BoxAt.made (cs := [.int .i64 t'.k, .string t'.n, .slice re t'.l.length me, .slice rv t'.ats.length mv]) hV2 rfl rfl)
    clear hV2
    have CAC := Lib.hid fun p : InL V2 => Calls.low p (Below_c a c p.w _ _ _ _ (by omega) (RA.out.low ((LU.out.trans LV2.out).trans p.ok)) (RC.out.low ((LU.out.trans LV2.out).trans p.ok)) HA.out.sm HC.out.sm HA.out.may HC.out.may)
    have CBC := Lib.hid fun p : InL V2 => Calls.low p (Below_c b c p.w _ _ _ _ (by omega) (RB.out.low ((LU.out.trans LV2.out).trans p.ok)) (RC.out.low ((LU.out.trans LV2.out).trans p.ok)) HB.out.sm HC.out.sm HB.out.may HC.out.may)
    rw [← TAC.out] at CAC
    rw [← TBC.out] at CBC
    unfold tv at CAC CBC
    have f := fun p : InL V2 => (ZA.out.low (LV2.out.trans p.ok)).at4
    have g := fun p : InL V2 => (ZB.out.low (LV2.out.trans p.ok)).at4
    have h := fun p : InL V2 => (ZC.out.low (LV2.out.trans p.ok)).at4
    have f0 := fun p => (f p).1
    have f1 := fun p => (f p).2.1
    have f2 := fun p => (f p).2.2.1
    have f3 := fun p => (f p).2.2.2
    have g0 := fun p => (g p).1
    have g1 := fun p => (g p).2.1
    have g2 := fun p => (g p).2.2.1
    have g3 := fun p => (g p).2.2.2
    have h0 := fun p => (h p).1
    have h1 := fun p => (h p).2.1
    have h2 := fun p => (h p).2.2.1
    have h3 := fun p => (h p).2.2.2
    clear f g h
    have SJ := Lib.hid (jn_sm 61 a b t ⟨HA.out.sm, HA.out.may⟩ ⟨HB.out.sm, HB.out.may⟩ TR.out.symm)
    have SK := Lib.hid (jn_sm 61 b a t' ⟨HB.out.sm, HB.out.may⟩ ⟨HA.out.sm, HA.out.may⟩ TR'.out.symm)
    have UJ := Lib.hid (jn_up 61 a b t HA.out.may HB.out.may TR.out.symm)
    have UK := Lib.hid (jn_up 61 b a t' HB.out.may HA.out.may TR'.out.symm)
    have EJK := Lib.hid (show smB 61 t t' = true by rw [smB_bel, jn_least 61 a b t t' TR.out.symm UK.out.2 UK.out.1, jn_least 61 b a t' t TR'.out.symm UJ.out.2 UJ.out.1]; rfl)
    have RJ := Lib.hid (HRT.out.low (LQ1.out.trans (LA.out.trans LQ2.out)))
    have RK := Lib.hid (HRT'.out.low LQ2.out)
    have CAJ := Lib.hid fun p : InL V2 => Calls.low p (Below_c a t p.w _ _ _ _ (by omega) (RA.out.low ((LU.out.trans LV2.out).trans p.ok)) (RJ.out.low p.ok) HA.out.sm SJ.out.1 HA.out.may SJ.out.2)
    have CBJ := Lib.hid fun p : InL V2 => Calls.low p (Below_c b t p.w _ _ _ _ (by omega) (RB.out.low ((LU.out.trans LV2.out).trans p.ok)) (RJ.out.low p.ok) HB.out.sm SJ.out.1 HB.out.may SJ.out.2)
    have CJC := Lib.hid fun p : InL V2 => Calls.low p (Below_c t c p.w _ _ _ _ (by omega) (RJ.out.low p.ok) (RC.out.low ((LU.out.trans LV2.out).trans p.ok)) SJ.out.1 HC.out.sm SJ.out.2 HC.out.may)
    have CJK := Lib.hid fun p : InL V2 => Calls.low p (Same_c t t' p.w _ _ _ _ (by omega) (RJ.out.low p.ok) (RK.out.low p.ok) SJ.out.1 SK.out.1 SJ.out.2 SK.out.2)
    rw [UJ.out.1] at CAJ
    rw [UJ.out.2] at CBJ
    rw [EJK.out] at CJK
    try rw [jn_least 61 a b t c TR.out.symm TAC.out.symm TBC.out.symm] at CJC
    unfold tv at CAJ CBJ CJC CJK
    have x := fun p : InL V2 => (BJ.out.low ((LA.out.trans LQ2.out).trans p.ok)).at4
    have y := fun p : InL V2 => (BK.out.low p.ok).at4
    have x0 := fun p => (x p).1
    have x1 := fun p => (x p).2.1
    have x2 := fun p => (x p).2.2.1
    have x3 := fun p => (x p).2.2.2
    have y0 := fun p => (y p).1
    have y1 := fun p => (y p).2.1
    have y2 := fun p => (y p).2.2.1
    have y3 := fun p => (y p).2.2.2
    clear x y
    refine in_low (P := fun W => Code.wp _ _ _ _ W) (fun p => ?_)
    go_wp2_with (first | ((with_reducible refine Calls.mono (CAC.out _) ?_); rintro _ _ ⟨rfl, q, rfl⟩) | ((with_reducible refine Calls.mono (CBC.out _) ?_); rintro _ _ ⟨rfl, q, rfl⟩) | ((with_reducible refine Calls.mono (CAJ.out _) ?_); rintro _ _ ⟨rfl, q, rfl⟩) | ((with_reducible refine Calls.mono (CBJ.out _) ?_); rintro _ _ ⟨rfl, q, rfl⟩) | ((with_reducible refine Calls.mono (CJC.out _) ?_); rintro _ _ ⟨rfl, q, rfl⟩) | ((with_reducible refine Calls.mono (CJK.out _) ?_); rintro _ _ ⟨rfl, q, rfl⟩))
    go_ret
    exact ⟨rfl, (LU.out.trans LV2.out).trans (InL.ok _)⟩
  ·
    go_wp2_with fail
    refine wp_region_low mixedT (by kernel_rfl) ?_
    repeat (go_big_quiet_step (first | (with_reducible exact CAB.out _) | (with_reducible exact CAA.out _) | (with_reducible exact CBA.out _) | (with_reducible exact CBC.out _) | (with_reducible exact CAC.out _) | (with_reducible exact CS.out _)))
    refine wpQuiet_nil ?_
    rintro W8 ⟨p8, hW8⟩
    have L8 := Lib.hid (show Low U W8 by rw [hW8]; exact L3.out.trans p8.ok)
    clear hW8 p8 CAA CAB CBA CBC CAC CS f0 f1 f2 f3 g0 g1 g2 g3 h0 h1 h2 h3 this
    obtain ⟨f0, f1, f2, f3⟩ := (ZA.out.low L8.out).at4
    obtain ⟨g0, g1, g2, g3⟩ := (ZB.out.low L8.out).at4
    have CJ8 := Lib.hid (CJ.out W8 L8.out)
    go_wp2_with fail
    refine CJ8.out.mono ?_
    rintro e w9 ⟨t, qe, de, qv, dv, er, rfl, ⟨rfl, rfl⟩, hrt, l9⟩
    have L9 := Lib.hid (L8.out.trans l9)
    have HRT := Lib.hid hrt
    clear l9 hrt CJ8 CJ f0 f1 f2 f3 g0 g1 g2 g3
    go_upto_region 11 with fail
    refine gen_w (P := fun W => Code.wp _ _ _ _ W) (fun V1 hV1 => ?_)
    have LQ1 := Lib.hid (show Low w9 V1 by rw [hV1]; exact low_new (Low.refl _) _)
    have LV1 := Lib.hid (L9.out.trans LQ1.out)
    have BJ := Lib.hid (BoxAt.made (cs := [.int .i64 noT.k, .string noT.n, .slice qe noT.l.length de, .slice qv noT.ats.length dv]) hV1 rfl rfl)
    clear hV1
    obtain ⟨f0, f1, f2, f3⟩ := (ZA.out.low LV1.out).at4
    obtain ⟨g0, g1, g2, g3⟩ := (ZB.out.low LV1.out).at4
    have CK1 := Lib.hid (CK.out V1 LV1.out)
    go_wp2_with fail
    refine CK1.out.mono ?_
    rintro e wA ⟨t', re, me, rv, mv, er', rfl, ⟨rfl, rfl⟩, hrt, lA⟩
    have LA := Lib.hid lA
    have HRT' := Lib.hid hrt
    clear lA hrt CK1 CK f0 f1 f2 f3 g0 g1 g2 g3
    go_upto_region 12 with fail
    refine gen_w (P := fun W => Code.wp _ _ _ _ W) (fun V2 hV2 => ?_)
    have LQ2 := Lib.hid (show Low wA V2 by rw [hV2]; exact low_new (Low.refl _) _)
    have LV2 := Lib.hid (LV1.out.trans (LA.out.trans LQ2.out))
    have BK := Lib.hid (BoxAt.made (cs := [.int .i64 noT.k, .string noT.n, .slice re noT.l.length me, .slice rv noT.ats.length mv]) hV2 rfl rfl)
    clear hV2
    have CAC := Lib.hid fun p : InL V2 => Calls.low p (Below_c a c p.w _ _ _ _ (by omega) (RA.out.low ((LU.out.trans LV2.out).trans p.ok)) (RC.out.low ((LU.out.trans LV2.out).trans p.ok)) HA.out.sm HC.out.sm HA.out.may HC.out.may)
    have CBC := Lib.hid fun p : InL V2 => Calls.low p (Below_c b c p.w _ _ _ _ (by omega) (RB.out.low ((LU.out.trans LV2.out).trans p.ok)) (RC.out.low ((LU.out.trans LV2.out).trans p.ok)) HB.out.sm HC.out.sm HB.out.may HC.out.may)
    rw [← TAC.out] at CAC
    rw [← TBC.out] at CBC
    unfold tv at CAC CBC
    have f := fun p : InL V2 => (ZA.out.low (LV2.out.trans p.ok)).at4
    have g := fun p : InL V2 => (ZB.out.low (LV2.out.trans p.ok)).at4
    have h := fun p : InL V2 => (ZC.out.low (LV2.out.trans p.ok)).at4
    have f0 := fun p => (f p).1
    have f1 := fun p => (f p).2.1
    have f2 := fun p => (f p).2.2.1
    have f3 := fun p => (f p).2.2.2
    have g0 := fun p => (g p).1
    have g1 := fun p => (g p).2.1
    have g2 := fun p => (g p).2.2.1
    have g3 := fun p => (g p).2.2.2
    have h0 := fun p => (h p).1
    have h1 := fun p => (h p).2.1
    have h2 := fun p => (h p).2.2.1
    have h3 := fun p => (h p).2.2.2
    clear f g h
    refine in_low (P := fun W => Code.wp _ _ _ _ W) (fun p => ?_)
    go_wp2_with (first | ((with_reducible refine Calls.mono (CAC.out _) ?_); rintro _ _ ⟨rfl, q, rfl⟩) | ((with_reducible refine Calls.mono (CBC.out _) ?_); rintro _ _ ⟨rfl, q, rfl⟩))
    go_ret
    exact ⟨rfl, (LU.out.trans LV2.out).trans (InL.ok _)⟩
  ·
    go_wp2_with fail
    refine wp_region_low mixedT (by kernel_rfl) ?_
    repeat (go_big_quiet_step (first | (with_reducible exact CAB.out _) | (with_reducible exact CAA.out _) | (with_reducible exact CBA.out _) | (with_reducible exact CBC.out _) | (with_reducible exact CAC.out _) | (with_reducible exact CS.out _)))
    refine wpQuiet_nil ?_
    rintro W8 ⟨p8, hW8⟩
    have L8 := Lib.hid (show Low U W8 by rw [hW8]; exact L3.out.trans p8.ok)
    clear hW8 p8 CAA CAB CBA CBC CAC CS f0 f1 f2 f3 g0 g1 g2 g3 h0 h1 h2 h3 this
    obtain ⟨f0, f1, f2, f3⟩ := (ZA.out.low L8.out).at4
    obtain ⟨g0, g1, g2, g3⟩ := (ZB.out.low L8.out).at4
    have CJ8 := Lib.hid (CJ.out W8 L8.out)
    go_wp2_with fail
    refine CJ8.out.mono ?_
    rintro e w9 ⟨t, qe, de, qv, dv, er, rfl, ⟨rfl, rfl⟩, hrt, l9⟩
    have L9 := Lib.hid (L8.out.trans l9)
    have HRT := Lib.hid hrt
    clear l9 hrt CJ8 CJ f0 f1 f2 f3 g0 g1 g2 g3
    go_upto_region 11 with fail
    refine gen_w (P := fun W => Code.wp _ _ _ _ W) (fun V1 hV1 => ?_)
    have LQ1 := Lib.hid (show Low w9 V1 by rw [hV1]; exact low_new (Low.refl _) _)
    have LV1 := Lib.hid (L9.out.trans LQ1.out)
    have BJ := Lib.hid (BoxAt.made (cs := [.int .i64 noT.k, .string noT.n, .slice qe noT.l.length de, .slice qv noT.ats.length dv]) hV1 rfl rfl)
    clear hV1
    obtain ⟨f0, f1, f2, f3⟩ := (ZA.out.low LV1.out).at4
    obtain ⟨g0, g1, g2, g3⟩ := (ZB.out.low LV1.out).at4
    have CK1 := Lib.hid (CK.out V1 LV1.out)
    go_wp2_with fail
    refine CK1.out.mono ?_
    rintro e wA ⟨t', re, me, rv, mv, er', rfl, ⟨rfl, rfl⟩, hrt, lA⟩
    have LA := Lib.hid lA
    have HRT' := Lib.hid hrt
    clear lA hrt CK1 CK f0 f1 f2 f3 g0 g1 g2 g3
    go_upto_region 12 with fail
    refine gen_w (P := fun W => Code.wp _ _ _ _ W) (fun V2 hV2 => ?_)
    have LQ2 := Lib.hid (show Low wA V2 by rw [hV2]; exact low_new (Low.refl _) _)
    have LV2 := Lib.hid (LV1.out.trans (LA.out.trans LQ2.out))
    have BK := Lib.hid (BoxAt.made (cs := [.int .i64 noT.k, .string noT.n, .slice re noT.l.length me, .slice rv noT.ats.length mv]) hV2 rfl rfl)
    clear hV2
    have CAC := Lib.hid fun p : InL V2 => Calls.low p (Below_c a c p.w _ _ _ _ (by omega) (RA.out.low ((LU.out.trans LV2.out).trans p.ok)) (RC.out.low ((LU.out.trans LV2.out).trans p.ok)) HA.out.sm HC.out.sm HA.out.may HC.out.may)
    have CBC := Lib.hid fun p : InL V2 => Calls.low p (Below_c b c p.w _ _ _ _ (by omega) (RB.out.low ((LU.out.trans LV2.out).trans p.ok)) (RC.out.low ((LU.out.trans LV2.out).trans p.ok)) HB.out.sm HC.out.sm HB.out.may HC.out.may)
    rw [← TAC.out] at CAC
    rw [← TBC.out] at CBC
    unfold tv at CAC CBC
    have f := fun p : InL V2 => (ZA.out.low (LV2.out.trans p.ok)).at4
    have g := fun p : InL V2 => (ZB.out.low (LV2.out.trans p.ok)).at4
    have h := fun p : InL V2 => (ZC.out.low (LV2.out.trans p.ok)).at4
    have f0 := fun p => (f p).1
    have f1 := fun p => (f p).2.1
    have f2 := fun p => (f p).2.2.1
    have f3 := fun p => (f p).2.2.2
    have g0 := fun p => (g p).1
    have g1 := fun p => (g p).2.1
    have g2 := fun p => (g p).2.2.1
    have g3 := fun p => (g p).2.2.2
    have h0 := fun p => (h p).1
    have h1 := fun p => (h p).2.1
    have h2 := fun p => (h p).2.2.1
    have h3 := fun p => (h p).2.2.2
    clear f g h
    refine in_low (P := fun W => Code.wp _ _ _ _ W) (fun p => ?_)
    go_wp2_with (first | ((with_reducible refine Calls.mono (CAC.out _) ?_); rintro _ _ ⟨rfl, q, rfl⟩) | ((with_reducible refine Calls.mono (CBC.out _) ?_); rintro _ _ ⟨rfl, q, rfl⟩))
    go_ret
    exact ⟨rfl, (LU.out.trans LV2.out).trans (InL.ok _)⟩

end Go.Proofs.Ytjipncpgmajeeaa
