/- The law ConformRequests walked. No condition. -/
import Derived.Test.YtnenjgngahipdaaGreatZCfAw
import Derived.Test.YtnenjgngahipdaaGreatZg28
import Derived.Test.YtnenjgngahipdaaGreatZCfQ
import Derived.Test.YtnenjgngahipdaaGreatZg40
set_option linter.unusedVariables false
set_option linter.unusedSimpArgs false
set_option linter.unnecessarySimpa false
namespace Go.Proofs.YtnenjgngahipdaaGreat
open Go.RowKit
set_option linter.unusedVariables false
set_option maxHeartbeats 25600000 in
set_option maxRecDepth 100000 in
theorem conformRequests_v (n : Nat) (ts : List Et) (acs : List Ac) (w : World) (vt va : Value) (h : EtsAt n w ts vt) (h2 : AcsAt n w acs va) (pt pi at' ai rt ri : ByteArray) (v : V) (it nm : Value) (hv : R w v it nm) :
    Calls Tryz.prog 5 #[.agg #[vt, va], .agg (rqcs pt pi at' ai rt ri v.h it nm).toArray] w fun e w' => e = .returned (.bool true) ∧ Low w w' := by
  obtain ⟨p, c, rfl, z1, z2⟩ := RowB.sl h
  obtain ⟨p2, c2, rfl, y1, y2⟩ := RowB.sl h2
  obtain ⟨qi, ci, qn, cn, rfl, rfl⟩ := r_slices hv
  obtain ⟨U0, hU0⟩ : ∃ U, U = w.alloc (.cells #[.slice p ts.length c, .slice p2 acs.length c2] 46) := ⟨_, rfl⟩
  obtain ⟨U, hU⟩ : ∃ U, U = U0.alloc (.cells (rqcs pt pi at' ai rt ri v.h (.slice qi v.l.length ci) (.slice qn v.ns.length cn)).toArray 56) := ⟨_, rfl⟩
  have s0 : U0.heap.size = w.heap.size + 1 := by rw [hU0]; simp
  have L0 : Low U0 U := by rw [hU]; exact low_new (Low.refl _) _
  have LU := Lib.hid (show Low w U from (by rw [hU0]; exact low_new (Low.refl w) _ : Low w U0).trans L0)
  have BS := Lib.hid ((BoxAt.made (cs := [.slice p ts.length c, .slice p2 acs.length c2]) hU0 rfl rfl).low L0)
  have BQ := Lib.hid (BoxAt.made (cs := rqcs pt pi at' ai rt ri v.h (.slice qi v.l.length ci) (.slice qn v.ns.length cn)) hU s0 rfl)
  rw [hU0] at hU
  unfold rqcs at hU
  have HU := Lib.hid hU
  have HT := Lib.hid h
  have HA := Lib.hid h2
  have HV := Lib.hid hv
  have HAw := Lib.hid (awake13_c U)
  clear h h2 hv hU hU0 s0 L0
  unfold rqcs
  go_enter Tryz.func5, Tryz.ntmps5
  go_upto_region 1 with fail
  rw [← HU.out]
  clear HU
  go_wp2_with fail
  refine HAw.out.mono ?_
  rintro e w1 ⟨rfl, k1⟩
  have L1 := Lib.hid k1
  have CS := Lib.hid (sized_c n ts acs w1 _ _ (HT.out.low (LU.out.trans k1)) (HA.out.low (LU.out.trans k1)))
  have g0 := (BS.out.low L1.out).at 0 _ rfl
  have g1 := (BS.out.low L1.out).at 1 _ rfl
  clear k1 HAw
  go_wp2_with fail
  refine CS.out.mono ?_
  rintro e w2 ⟨a, rfl, ha, k2⟩
  have L2 := Lib.hid (L1.out.trans k2)
  have HSA := Lib.hid ha
  clear ha k2 CS g0 g1
  have CL := Lib.hid (slight_c (dep v) v _ 0 w2 _ _ (Nat.le_refl _) (Rep.low HV.out (LU.out.trans L2.out)) (by decide) (by decide))
  unfold avv at CL
  obtain ⟨d0, d2, d3, d4, d6, d7, d8, d9, d10, d11, d12, d13⟩ := rq14 (BQ.out.low L2.out)
  go_wp2_with fail
  refine CL.out.mono ?_
  rintro e w3 ⟨b, rfl, hb, g3⟩
  have L3 := Lib.hid (L2.out.trans g3.low)
  have HSB := Lib.hid hb
  clear hb g3 CL d0 d2 d3 d4 d6 d7 d8 d9 d10 d11 d12 d13
  cases a with
  | false =>
    go_wp2_with fail
    go_ret
    exact ⟨rfl, LU.out.trans L3.out⟩
  | true =>
  cases b with
  | false =>
    go_wp2_with fail
    go_ret
    exact ⟨rfl, LU.out.trans L3.out⟩
  | true =>
  have HSZ := Lib.hid (HSA.out rfl)
  obtain ⟨hsm, hdp⟩ := HSB.out rfl
  have HSM := Lib.hid hsm
  have HDP := Lib.hid (show dep v ≤ 1000000 by omega)
  clear hsm hdp HSA HSB
  have ET := Lib.hid (show EtsAt 60 w ts (.slice p ts.length c) from ets_re HSZ.out HT.out)
  have EA := Lib.hid (show AcsAt 60 w acs (.slice p2 acs.length c2) from acs_re HSZ.out HA.out)
  clear HT HA
  have CK := Lib.hid (rcheck12_c 60 (by omega) ts acs w3 _ _ (sz_g2 HSZ.out) (ET.out.low (LU.out.trans L3.out)) (EA.out.low (LU.out.trans L3.out)))
  obtain ⟨c1, hc1⟩ : ∃ x, x = chkS 60 ts acs := ⟨_, rfl⟩
  rw [← hc1] at CK
  have HC1 := Lib.hid hc1
  clear hc1
  have g0 := (BS.out.low L3.out).at 0 _ rfl
  have g1 := (BS.out.low L3.out).at 1 _ rfl
  go_wp2_with fail
  refine CK.out.mono ?_
  rintro e w4 ⟨rfl, k4⟩
  have L4 := Lib.hid (L3.out.trans k4)
  clear k4 CK g0 g1
  by_cases h1 : c1 = 0
  case neg =>
    have hb2 : (c1 != 0) = true := by simp [h1]
    have hb3 : decide (c1 = 0) = false := decide_eq_false h1
    have hb := beq_fv h1
    go_wp2_with fail
    go_ret
    exact ⟨rfl, LU.out.trans L4.out⟩
  case pos =>
  have HSO := Lib.hid (sch_ok (by have := HSZ.out.a; omega) (HC1.out.symm.trans h1))
  subst h1
  have C1 := Lib.hid fun q : InL w4 => Calls.low q (request_c 60 acs pt pi at' ai rt ri v q.w (.slice p ts.length c) _ _ _ ⟨p, ts.length, c, rfl⟩ (EA.out.low (LU.out.trans (L4.out.trans q.ok))) HSM.out HSO.out.a (Rep.low HV.out (LU.out.trans (L4.out.trans q.ok))))
  have C2 := Lib.hid fun q : InL w4 => Calls.low q (rrequest_c 60 acs pt pi at' ai rt ri v q.w (.slice p ts.length c) _ _ _ ⟨p, ts.length, c, rfl⟩ (EA.out.low (LU.out.trans (L4.out.trans q.ok))) HSM.out HDP.out HSO.out.a (Rep.low HV.out (LU.out.trans (L4.out.trans q.ok))))
  obtain ⟨r, hr⟩ : ∃ r, r = reqS 60 acs at' ai pt rt v := ⟨_, rfl⟩
  rw [← hr] at C1 C2
  unfold rqcs at C1 C2
  have rr : (r == r) = true := by simp
  clear hr
  have BQ4 := Lib.hid (BQ.out.low L4.out)
  have BS4 := Lib.hid (BS.out.low L4.out)
  haveI := InL.some w4
  have g0 := fun q : InL w4 => q.cell (BS4.out.at 0 _ rfl)
  have g1 := fun q : InL w4 => q.cell (BS4.out.at 1 _ rfl)
  have d0 := fun q : InL w4 => q.cell (BQ4.out.at 0 _ rfl)
  have d1 := fun q : InL w4 => q.cell (BQ4.out.at 1 _ rfl)
  have d2 := fun q : InL w4 => q.cell (BQ4.out.at 2 _ rfl)
  have d3 := fun q : InL w4 => q.cell (BQ4.out.at 3 _ rfl)
  have d4 := fun q : InL w4 => q.cell (BQ4.out.at 4 _ rfl)
  have d5 := fun q : InL w4 => q.cell (BQ4.out.at 5 _ rfl)
  have d6 := fun q : InL w4 => q.cell (BQ4.out.at 6 _ rfl)
  have d7 := fun q : InL w4 => q.cell (BQ4.out.at 7 _ rfl)
  have d8 := fun q : InL w4 => q.cell (BQ4.out.at 8 _ rfl)
  have d9 := fun q : InL w4 => q.cell (BQ4.out.at 9 _ rfl)
  have d10 := fun q : InL w4 => q.cell (BQ4.out.at 10 _ rfl)
  have d11 := fun q : InL w4 => q.cell (BQ4.out.at 11 _ rfl)
  have d12 := fun q : InL w4 => q.cell (BQ4.out.at 12 _ rfl)
  have d13 := fun q : InL w4 => q.cell (BQ4.out.at 13 _ rfl)
  go_upto_region 8 with fail
  refine wp_region_low mixedT (by kernel_rfl) ?_
  repeat (go_big_quiet_step (first | with_reducible exact C1.out _ | with_reducible exact C2.out _))
  refine wpQuiet_nil ?_
  rintro W8 ⟨p8, hW8⟩
  have L8 := Lib.hid (show Low w4 W8 by rw [hW8]; exact p8.ok)
  clear hW8 p8 g0 g1 d0 d1 d2 d3 d4 d5 d6 d7 d8 d9 d10 d11 d12 d13 C1 C2 this
  go_wp2_with fail
  go_ret
  exact ⟨rfl, LU.out.trans (L4.out.trans L8.out)⟩
end Go.Proofs.YtnenjgngahipdaaGreat
