/- The law ConformValues walked. No condition. -/
import Derived.Test.YtnenjgngahipdaaGreatZCfAw
import Derived.Test.YtnenjgngahipdaaGreatZg28
import Derived.Test.YtnenjgngahipdaaGreatZCfR
import Derived.Test.YtnenjgngahipdaaGreatZg35
import Derived.Test.YtnenjgngahipdaaGreatZTyB
import Derived.Test.YtnenjgngahipdaaGreatZg09
set_option linter.unusedVariables false
set_option linter.unusedSimpArgs false
set_option linter.unnecessarySimpa false
namespace Go.Proofs.YtnenjgngahipdaaGreat
open Go.RowKit
set_option linter.unusedVariables false
theorem valS_can {n : Nat} {v x : V} {t : T} (h : canD v = (0, x)) : valS n x t = isV n x t := by
  have h1 := canD_twice (v := v) (by rw [h])
  rw [h] at h1
  unfold valS
  rw [h1]
  rfl
set_option maxHeartbeats 25600000 in
set_option maxRecDepth 100000 in
theorem conformValues_v (v : V) (w : World) (it nm : Value) (hv : R w v it nm) (n : Nat) (t : T) (e0 u0 : Value) (ht : RT (fun _ => True) w n t e0 u0) (m : Nat) (u : T) (e1 u1 : Value) (hu : RT (fun _ => True) w m u e1 u1) :
    Calls Tryz.prog 3 #[avv v.h it nm, tv t e0 u0, tv u e1 u1] w fun e w' => e = .returned (.bool true) ∧ Low w w' := by
  obtain ⟨ai, ci, an', cn, rfl, rfl⟩ := r_slices hv
  obtain ⟨pe, ce, pv, cv, rfl, rfl, z1, z2, z3, z4⟩ := ht.sl
  obtain ⟨pe', ce', pv', cv', rfl, rfl, z1', z2', z3', z4'⟩ := hu.sl
  obtain ⟨U0, hU0⟩ : ∃ U, U = w.alloc (.cells #[.int .i64 v.h.k, .bool v.h.b, .int .i64 v.h.n, .string v.h.s, .string v.h.t, .string v.h.i, .slice ai v.l.length ci, .slice an' v.ns.length cn] 27) := ⟨_, rfl⟩
  obtain ⟨U1, hU1⟩ : ∃ U, U = U0.alloc (.cells #[.int .i64 t.k, .string t.n, .slice pe t.l.length ce, .slice pv t.ats.length cv] 31) := ⟨_, rfl⟩
  obtain ⟨U, hU⟩ : ∃ U, U = U1.alloc (.cells #[.int .i64 u.k, .string u.n, .slice pe' u.l.length ce', .slice pv' u.ats.length cv'] 31) := ⟨_, rfl⟩
  have s0 : U0.heap.size = w.heap.size + 1 := by rw [hU0]; simp
  have s1 : U1.heap.size = w.heap.size + 1 + 1 := by rw [hU1]; simp [s0]
  have l1 : Low U1 U := by rw [hU]; exact low_new (Low.refl _) _
  have l0 : Low U0 U := (by rw [hU1]; exact low_new (Low.refl _) _ : Low U0 U1).trans l1
  have LU := Lib.hid (show Low w U from (by rw [hU0]; exact low_new (Low.refl w) _ : Low w U0).trans l0)
  have BV := Lib.hid ((BoxAt.made (cs := [.int .i64 v.h.k, .bool v.h.b, .int .i64 v.h.n, .string v.h.s, .string v.h.t, .string v.h.i, .slice ai v.l.length ci, .slice an' v.ns.length cn]) hU0 rfl rfl).low l0)
  have BT := Lib.hid ((BoxAt.made (cs := [.int .i64 t.k, .string t.n, .slice pe t.l.length ce, .slice pv t.ats.length cv]) hU1 s0 rfl).low l1)
  have BW := Lib.hid (BoxAt.made (cs := [.int .i64 u.k, .string u.n, .slice pe' u.l.length ce', .slice pv' u.ats.length cv']) hU s1 rfl)
  rw [hU1, hU0] at hU
  have HU := Lib.hid hU
  have HV := Lib.hid hv
  have HT := Lib.hid ht
  have HW := Lib.hid hu
  have HAw := Lib.hid (awake13_c U)
  clear hv ht hu hU hU0 hU1 s0 s1 l0 l1
  unfold avv tv
  go_enter Tryz.func3, Tryz.ntmps3
  go_upto_region 1 with fail
  rw [← HU.out]
  clear HU
  go_wp2_with fail
  refine HAw.out.mono ?_
  rintro e w1 ⟨rfl, k1⟩
  have L1 := Lib.hid k1
  have CS := Lib.hid (slight_c (dep v) v _ 0 w1 _ _ (Nat.le_refl _) (Rep.low HV.out (LU.out.trans k1)) (by decide) (by decide))
  unfold avv at CS
  obtain ⟨f0, f1, f2, f3, f4, f5, f6, f7⟩ := (BV.out.low L1.out).at8
  clear k1 HAw
  go_wp2_with fail
  refine CS.out.mono ?_
  rintro e w2 ⟨a, rfl, ha, g2⟩
  have L2 := Lib.hid (L1.out.trans g2.low)
  have HA := Lib.hid ha
  clear ha g2 CS f0 f1 f2 f3 f4 f5 f6 f7
  have CF := Lib.hid (few_c t 0 w2 _ _ (by omega) (HT.out.low (LU.out.trans L2.out)))
  unfold tv at CF
  obtain ⟨g0, g1, g2, g3⟩ := (BT.out.low L2.out).at4
  go_wp2_with fail
  refine CF.out.mono ?_
  rintro e w3 ⟨b, rfl, hb, k3⟩
  have L3 := Lib.hid (L2.out.trans k3)
  have HB := Lib.hid hb
  clear hb k3 CF g0 g1 g2 g3
  have CF := Lib.hid (few_c u 0 w3 _ _ (by omega) (HW.out.low (LU.out.trans L3.out)))
  unfold tv at CF
  obtain ⟨g0, g1, g2, g3⟩ := (BW.out.low L3.out).at4
  go_wp2_with fail
  refine CF.out.mono ?_
  rintro e w4 ⟨c, rfl, hc, k4⟩
  have L4 := Lib.hid (L3.out.trans k4)
  have HC := Lib.hid hc
  clear hc k4 CF g0 g1 g2 g3
  cases a with
  | false =>
    go_wp2_with fail
    go_ret
    exact ⟨rfl, LU.out.trans L4.out⟩
  | true =>
  cases b with
  | false =>
    go_wp2_with fail
    go_ret
    exact ⟨rfl, LU.out.trans L4.out⟩
  | true =>
  cases c with
  | false =>
    go_wp2_with fail
    go_ret
    exact ⟨rfl, LU.out.trans L4.out⟩
  | true =>
  obtain ⟨hsm, hdp⟩ := HA.out rfl
  have HSM := Lib.hid hsm
  have HDP := Lib.hid (show dep v ≤ 1000000 by omega)
  have HST := Lib.hid (HB.out rfl).2
  have HSU := Lib.hid (HC.out rfl).2
  clear hsm hdp HA HB HC
  have RT' := Lib.hid (show RT (fun _ => True) w 61 t (.slice pe t.l.length ce) (.slice pv t.ats.length cv) from RT.re HST.out.dp HT.out)
  have RU' := Lib.hid (show RT (fun _ => True) w 61 u (.slice pe' u.l.length ce') (.slice pv' u.ats.length cv') from RT.re HSU.out.dp HW.out)
  clear HT HW
  have CZ := Lib.hid (size_n 61 _ t w4 _ _ (RT'.out.low (LU.out.trans L4.out)))
  unfold tv at CZ
  obtain ⟨g0, g1, g2, g3⟩ := (BT.out.low L4.out).at4
  go_wp2_with fail
  refine CZ.out.mono ?_
  rintro e w5 ⟨n1, rfl, k5⟩
  have L5 := Lib.hid (L4.out.trans k5)
  clear k5 CZ g0 g1 g2 g3
  by_cases hn1 : 200 < n1
  · go_wp2_with fail
    go_ret
    exact ⟨rfl, LU.out.trans L5.out⟩
  have CZ := Lib.hid (size_n 61 _ u w5 _ _ (RU'.out.low (LU.out.trans L5.out)))
  unfold tv at CZ
  obtain ⟨g0, g1, g2, g3⟩ := (BW.out.low L5.out).at4
  go_wp2_with fail
  refine CZ.out.mono ?_
  rintro e w6 ⟨n2, rfl, k6⟩
  have L6 := Lib.hid (L5.out.trans k6)
  clear k6 CZ g0 g1 g2 g3
  by_cases hn2 : 200 < n2
  · go_wp2_with fail
    go_ret
    exact ⟨rfl, LU.out.trans L6.out⟩
  have CK := Lib.hid (rCheck_c (n := 61) (by omega) t w6 _ _ (RT'.out.low (LU.out.trans L6.out)))
  unfold tv at CK
  obtain ⟨g0, g1, g2, g3⟩ := (BT.out.low L6.out).at4
  obtain ⟨c1, hc1⟩ : ∃ c, c = chkE 61 t := ⟨_, rfl⟩
  rw [← hc1] at CK
  have HC1 := Lib.hid hc1
  clear hc1
  go_wp2_with fail
  refine CK.out.mono ?_
  rintro e w7 ⟨rfl, k7⟩
  have L7 := Lib.hid (L6.out.trans k7)
  clear k7 CK g0 g1 g2 g3
  by_cases h1 : c1 = 0
  case neg =>
    have hb2 : (c1 != 0) = true := by simp [h1]
    have hb3 : decide (c1 = 0) = false := decide_eq_false h1
    have hb := beq_fv h1
    go_wp2_with fail
    go_ret
    exact ⟨rfl, LU.out.trans L7.out⟩
  case pos =>
  have HMT := Lib.hid (chkE_ok.1 (HC1.out.symm.trans h1)).2
  subst h1
  have CK := Lib.hid (rCheck_c (n := 61) (by omega) u w7 _ _ (RU'.out.low (LU.out.trans L7.out)))
  unfold tv at CK
  obtain ⟨g0, g1, g2, g3⟩ := (BW.out.low L7.out).at4
  obtain ⟨c2, hc2⟩ : ∃ c, c = chkE 61 u := ⟨_, rfl⟩
  rw [← hc2] at CK
  have HC2 := Lib.hid hc2
  clear hc2
  go_wp2_with fail
  refine CK.out.mono ?_
  rintro e w8 ⟨rfl, k8⟩
  have L8 := Lib.hid (L7.out.trans k8)
  clear k8 CK g0 g1 g2 g3
  by_cases h2 : c2 = 0
  case neg =>
    have hb2 : (c2 != 0) = true := by simp [h2]
    have hb3 : decide (c2 = 0) = false := decide_eq_false h2
    have hb := beq_fv h2
    go_wp2_with fail
    go_ret
    exact ⟨rfl, LU.out.trans L8.out⟩
  case pos =>
  have HMU := Lib.hid (chkE_ok.1 (HC2.out.symm.trans h2)).2
  subst h2
  have CN := Lib.hid (rCanon_c v w8 _ _ (Rep.low HV.out (LU.out.trans L8.out)) HSM.out HDP.out)
  obtain ⟨c3, x, hcx⟩ : ∃ c x, canD v = (c, x) := ⟨_, _, rfl⟩
  rw [hcx] at CN
  have HCX := Lib.hid hcx
  unfold avv at CN
  clear hcx
  obtain ⟨f0, f1, f2, f3, f4, f5, f6, f7⟩ := (BV.out.low L8.out).at8
  go_wp2_with fail
  refine CN.out.mono ?_
  rintro e w9 ⟨bi, di, bn, dn, rfl, hrx, k9⟩
  have L9 := Lib.hid (L8.out.trans k9)
  have HRX := Lib.hid (rep_any hrx)
  clear k9 hrx CN f0 f1 f2 f3 f4 f5 f6 f7
  go_upto_region 10 with fail
  refine gen_w (P := fun W => Code.wp _ _ _ _ W) (fun V2 hV2 => ?_)
  have LQ2 := Lib.hid (show Low w9 V2 by rw [hV2]; exact low_new (Low.refl _) _)
  have LV2 := Lib.hid (L9.out.trans LQ2.out)
  have BX := Lib.hid (BoxAt.made (cs := [.int .i64 x.h.k, .bool x.h.b, .int .i64 x.h.n, .string x.h.s, .string x.h.t, .string x.h.i, .slice bi x.l.length di, .slice bn x.ns.length dn]) hV2 rfl rfl)
  obtain ⟨xb, hxb⟩ : ∃ b, b = w9.heap.size := ⟨_, rfl⟩
  rw [← hxb] at BX ⊢
  clear hV2 hxb
  by_cases h3 : c3 = 0
  case neg =>
    have hb := beq_fv h3
    clear h3
    go_wp2_with fail
    go_ret
    exact ⟨rfl, LU.out.trans LV2.out⟩
  case pos =>
  subst h3
  have HRV := Lib.hid (show R V2 x (.slice bi x.l.length di) (.slice bn x.ns.length dn) from Rep.low HRX.out LQ2.out)
  have HSX := Lib.hid (show Smv x by have := canD_sm (v := v) (by rw [HCX.out]) HSM.out; rwa [HCX.out] at this)
  have HOX := Lib.hid (show Okv x by have := canD_okv (v := v) (by rw [HCX.out]); rwa [HCX.out] at this)
  obtain ⟨q1, hq1⟩ : ∃ q, q = isV 61 x t := ⟨_, rfl⟩
  obtain ⟨q2, hq2⟩ : ∃ q, q = belB 61 t u := ⟨_, rfl⟩
  obtain ⟨q3, hq3⟩ : ∃ q, q = isV 61 x u := ⟨_, rfl⟩
  have HQ := Lib.hid (show q1 = true → q2 = true → q3 = true from fun h1 h2 => by rw [hq3]; exact isV_below 61 x t u (hq1 ▸ h1) (hq2 ▸ h2))
  have CV := Lib.hid (value13_c 61 x t V2 _ _ _ _ HSX.out HMT.out HRV.out (RT'.out.low (LU.out.trans LV2.out)))
  rw [valS_can HCX.out, ← hq1] at CV
  have CB := Lib.hid fun W (l : Low V2 W) => rBelow_c 61 _ _ t u W _ _ _ _ (RT'.out.low ((LU.out.trans LV2.out).trans l)) (RU'.out.low ((LU.out.trans LV2.out).trans l)) HMT.out HMU.out
  rw [← hq2] at CB
  have CR := Lib.hid fun W (l : Low V2 W) => rv_c 61 x t W _ _ _ _ HOX.out HMT.out (Rep.low HRV.out l) (RT'.out.low ((LU.out.trans LV2.out).trans l))
  rw [← hq1] at CR
  have CU := Lib.hid fun W (l : Low V2 W) => value13_c 61 x u W _ _ _ _ HSX.out HMU.out (Rep.low HRV.out l) (RU'.out.low ((LU.out.trans LV2.out).trans l))
  rw [valS_can HCX.out, ← hq3] at CU
  unfold avv tv at CV CR CU
  unfold tv at CB
  clear hq1 hq2 hq3
  obtain ⟨f0, f1, f2, f3, f4, f5, f6, f7⟩ := BX.out.at8
  obtain ⟨g0, g1, g2, g3⟩ := (BT.out.low LV2.out).at4
  go_wp2_with fail
  refine CV.out.mono ?_
  rintro e wA ⟨rfl, kA⟩
  have LA := Lib.hid kA
  have CB1 := Lib.hid (CB.out wA kA)
  clear kA CV CB f0 f1 f2 f3 f4 f5 f6 f7 g0 g1 g2 g3
  obtain ⟨g0, g1, g2, g3⟩ := (BT.out.low (LV2.out.trans LA.out)).at4
  obtain ⟨i0, i1, i2, i3⟩ := (BW.out.low (LV2.out.trans LA.out)).at4
  go_wp2_with fail
  refine CB1.out.mono ?_
  rintro e wB ⟨rfl, kB⟩
  have LB := Lib.hid (LA.out.trans kB)
  have CR1 := Lib.hid (CR.out wB (LA.out.trans kB))
  clear kB CB1 CR g0 g1 g2 g3 i0 i1 i2 i3
  obtain ⟨f0, f1, f2, f3, f4, f5, f6, f7⟩ := (BX.out.low LB.out).at8
  obtain ⟨g0, g1, g2, g3⟩ := (BT.out.low (LV2.out.trans LB.out)).at4
  go_wp2_with fail
  refine CR1.out.mono ?_
  rintro e wC ⟨rfl, kC⟩
  have LC := Lib.hid (LB.out.trans kC)
  have CU1 := Lib.hid (CU.out wC (LB.out.trans kC))
  clear kC CR1 CU f0 f1 f2 f3 f4 f5 f6 f7 g0 g1 g2 g3
  have LWC := Lib.hid ((LU.out.trans LV2.out).trans LC.out)
  cases q1 with
  | false =>
    go_wp2_with fail
    go_ret
    exact ⟨rfl, LWC.out⟩
  | true =>
    cases q2 with
    | false =>
      go_wp2_with fail
      go_ret
      exact ⟨rfl, LWC.out⟩
    | true =>
      have h3 := HQ.out rfl rfl
      subst h3
      obtain ⟨f0, f1, f2, f3, f4, f5, f6, f7⟩ := (BX.out.low LC.out).at8
      obtain ⟨i0, i1, i2, i3⟩ := (BW.out.low (LV2.out.trans LC.out)).at4
      go_wp2_with fail
      refine CU1.out.mono ?_
      rintro e wD ⟨rfl, kD⟩
      have LD := Lib.hid (LWC.out.trans kD)
      clear kD
      go_wp2_with fail
      go_ret
      exact ⟨rfl, LD.out⟩
end Go.Proofs.YtnenjgngahipdaaGreat
