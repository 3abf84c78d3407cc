/- Types and actions of any name, and all kinds of requests, are the document's. No condition but that the library's variable holds a number. -/
import Derived.Test.YtijjbfdbhfjfmaaScFi
import Derived.Test.YtijjbfdbhfjfmaaScGnn
import Derived.Test.YtijjbfdbhfjfmaaScGny
import Derived.Test.YtijjbfdbhfjfmaaScGyn
import Derived.Test.YtijjbfdbhfjfmaaScGyy
namespace Go.Proofs.Ytijjbfdbhfjfmaa
open Go.RowKit
set_option linter.unusedVariables false
set_option maxRecDepth 100000 in
set_option maxHeartbeats 6400000 in
theorem schemaFinds_v (n : Nat) (ts : List Et) (acs : List Ac) (x : Nm) (w : World) (vt va : Value) (hx : Mx w) (h : EtsAt n w ts vt) (h2 : AcsAt n w acs va) : Calls Try.prog 4 #[.agg #[vt, va], .string x.s] w fun e w' => e = .returned (.bool true) ∧ Low w w' := by
  obtain ⟨p, c, rfl, z1, z2⟩ := RowB.sl h
  obtain ⟨p', c', rfl, z3, z4⟩ := RowB.sl h2
  obtain ⟨U, hU⟩ : ∃ U, U = w.alloc (.cells #[.slice p ts.length c, .slice p' acs.length c'] 25) := ⟨_, rfl⟩
  have LU := Lib.hid (show Low w U by rw [hU]; exact low_new (Low.refl w) _)
  have HB := Lib.hid fun (V : World) (hl : Low U V) => box2 (w := w) (wr := V) (c0 := .slice p ts.length c) (c1 := .slice p' acs.length c') (t := 25) (by rw [← hU]; exact hl)
  have HU := Lib.hid hU
  have HAw := Lib.hid (awake12_c U (hx.low LU.out))
  have HSz := Lib.hid fun (V : World) (hl : Low U V) => sized_c n ts acs V _ _ (h.low (LU.out.trans hl)) (h2.low (LU.out.trans hl))
  have HTy := Lib.hid fun (V : World) (hl : Low U V) => type_c n ts x.s V _ (.slice p' acs.length c') (h.low (LU.out.trans hl))
  have HAc := Lib.hid fun (V : World) (hl : Low U V) => act_c n acs x.s V (.slice p ts.length c) _ (h2.low (LU.out.trans hl))
  have HRT := Lib.hid fun (V : World) (hl : Low U V) => rtype_c n ts x.s V _ (.slice p' acs.length c') (h.low (LU.out.trans hl))
  have HRA := Lib.hid fun (V : World) (hl : Low U V) => ract_c n acs x.s V (.slice p ts.length c) _ (h2.low (LU.out.trans hl))
  have HT := Lib.hid h
  have HA := Lib.hid h2
  clear h h2 hU hx
  obtain ⟨b0, b1⟩ := HB.out U (Low.refl U)
  go_enter Try.func4, Try.ntmps4
  go_upto_region 1 with fail
  rw [← HU.out]
  go_wp2_with fail
  refine HAw.out.mono ?_
  rintro e w1 ⟨rfl, l1⟩
  have HS1 := Lib.hid (HSz.out w1 l1)
  have L1 := Lib.hid l1
  clear l1 b0 b1 HAw
  obtain ⟨b0, b1⟩ := HB.out w1 L1.out
  go_wp2_with fail
  refine HS1.out.mono ?_
  rintro e w2 ⟨q, rfl, hq, l2⟩
  have L2 := Lib.hid (L1.out.trans l2)
  clear l2 b0 b1 HS1 HSz
  obtain ⟨b0, b1⟩ := HB.out w2 L2.out
  cases q with
  | false =>
    go_wp2_with fail
    go_ret
    exact ⟨rfl, LU.out.trans L2.out⟩
  | true =>
    have HSD := Lib.hid (hq (by first | rfl | trivial))
    have HTY := Lib.hid (HTy.out w2 L2.out)
    clear hq
    go_wp2_with fail
    refine HTY.out.mono ?_
    rintro e w3 ⟨nm, pi, li, ci, pa, la, ca, q1, rfl, l3, hq1⟩
    have HQ1 := Lib.hid hq1
    have L3 := Lib.hid (L2.out.trans l3)
    clear l3 b0 b1 HTY HTy hq1
    obtain ⟨V1, hV1⟩ : ∃ V, V = w3.alloc (.cells #[.string nm, .slice pi li ci, .slice pa la ca] 33) := ⟨_, rfl⟩
    have LV1 := Lib.hid (show Low U V1 by rw [hV1]; exact L3.out.trans (low_new (Low.refl _) _))
    have HX1 := Lib.hid fun (V : World) (hl : Low V1 V) => box3 (w := w3) (wr := V) (c0 := .string nm) (c1 := .slice pi li ci) (c2 := .slice pa la ca) (t := 33) (by rw [← hV1]; exact hl)
    have HV1 := Lib.hid hV1
    clear hV1
    go_upto_region 8 with fail
    rw [← HV1.out]
    clear HV1
    obtain ⟨b0, b1⟩ := HB.out V1 LV1.out
    have HACC := Lib.hid (HAc.out V1 LV1.out)
    go_wp2_with fail
    refine HACC.out.mono ?_
    rintro e w4 ⟨nm2, pi2, li2, ci2, pp2, lp2, cp2, pr2, lr2, cr2, pa2, la2, ca2, q2, rfl, l4, hq2⟩
    have HQ2 := Lib.hid hq2
    have L4 := Lib.hid l4
    clear l4 b0 b1 HACC HAc hq2
    obtain ⟨V2, hV2⟩ : ∃ V, V = w4.alloc (.cells #[.string nm2, .slice pi2 li2 ci2, .slice pp2 lp2 cp2, .slice pr2 lr2 cr2, .slice pa2 la2 ca2] 37) := ⟨_, rfl⟩
    have LV12 := Lib.hid (show Low V1 V2 by rw [hV2]; exact L4.out.trans (low_new (Low.refl _) _))
    have LV2 := Lib.hid (LV1.out.trans LV12.out)
    have HX2 := Lib.hid fun (V : World) (hl : Low V2 V) => box5 (w := w4) (wr := V) (c0 := .string nm2) (c1 := .slice pi2 li2 ci2) (c2 := .slice pp2 lp2 cp2) (c3 := .slice pr2 lr2 cr2) (c4 := .slice pa2 la2 ca2) (t := 37) (by rw [← hV2]; exact hl)
    have HV2 := Lib.hid hV2
    clear hV2
    go_upto_region 9 with fail
    rw [← HV2.out]
    clear HV2
    obtain ⟨b0, b1⟩ := HB.out V2 LV2.out
    obtain ⟨zt, hzt⟩ : ∃ z, z = firstI ts (fun t => eqN x.s t.nm) := ⟨_, rfl⟩
    obtain ⟨za, hza⟩ : ∃ z, z = firstI acs (fun t => eqN x.s t.nm) := ⟨_, rfl⟩
    rw [← hzt] at HRT HQ1
    rw [← hza] at HRA HQ2
    clear hzt hza
    have HR1 := Lib.hid (HRT.out V2 LV2.out)
    go_wp2_with fail
    refine HR1.out.mono ?_
    rintro e w5 ⟨rfl, l5⟩
    have L5 := Lib.hid l5
    clear l5 b0 b1 HR1
    have HR2 := Lib.hid (HRA.out w5 (LV2.out.trans L5.out))
    have b05 := HB.out w5 (LV2.out.trans L5.out)
    have HB05 := Lib.hid b05
    clear b05
    go_upto_region 10 with fail
    go_cut [12] from 18 to 42 (fun s12 wx => s12 = .int .i64 za ∧ Hid (Low w5 wx))
    case first =>
      obtain ⟨b0, b1⟩ := HB05.out
      go_wp2_with fail
      refine HR2.out.mono ?_
      rintro e w6 ⟨rfl, l6⟩
      go_wp2_with fail
      go_meet
      exact ⟨rfl, Lib.hid l6⟩
    obtain ⟨rfl, L56⟩ := hcut
    rename_i wc6
    obtain ⟨w6, hw6⟩ : ∃ w6, w6 = wc := ⟨_, rfl⟩
    subst hw6
    have L6 := Lib.hid (L5.out.trans L56.out)
    have LU6 := Lib.hid (LV2.out.trans L6.out)
    clear HR2 HRA HRT HB05
    obtain ⟨b0, b1⟩ := HB.out w6 LU6.out
    go_upto_region 11 with fail
    go_cut [122] from 18 to 121 (fun s122 wx => s122 = .bool false ∧ Hid (Low w6 wx))
    case first =>
      obtain ⟨x0, x1, x2⟩ := HX1.out w6 (LV12.out.trans L6.out)
      obtain ⟨y0, y1, y2, y3, y4⟩ := HX2.out w6 L6.out
      rcases HQ1.out with ⟨rfl, rfl, -⟩ | ⟨rfl, i, hi, rfl, rfl, rfl, rfl⟩ <;> rcases HQ2.out with ⟨rfl, rfl, -⟩ | ⟨rfl, j, hj, rfl, rfl, rfl, rfl, rfl⟩
      · refine reg11_nn (pi := none) (pj := none) (qi := none) (qj := none) (bt := 0) (ot := 0) (it := 0) (li := 0) (ci := 0) (di := 0) (lj := 0) (cj := 0) (dj := 0) (pk := none) (pl := none) (qk := none) (ql := none) (ba := 0) (oa := 0) (ia := 0) (lk := 0) (ck := 0) (dk := 0) (ll := 0) (cl := 0) (dl := 0) b0 b1 ?_
        intros
        rename_i L8
        have L8 := Lib.hid L8
        go_wp2_with fail
        go_meet
        exact ⟨rfl, L8⟩
      · obtain ⟨bb2, oo2, qi2, di2, qp2, dp2, qr2, dr2, qa2, da2, rfl, g0, g1, g2, g3, g4, -⟩ := AcsAt.at (AcsAt.low HA.out (LU.out.trans LU6.out)) hj
        refine reg11_ny (p' := none) (pi := none) (pj := none) (qi := none) (qj := none) (bt := 0) (ot := 0) (it := 0) (li := 0) (ci := 0) (di := 0) (lj := 0) (cj := 0) (dj := 0) b0 b1 hj y0 y2 y3 g2 g3 ?_
        intros
        rename_i L8
        have L8 := Lib.hid L8
        go_wp2_with fail
        go_meet
        exact ⟨rfl, L8⟩
      · obtain ⟨bb, oo, qi, di, qa, da, rfl, f0, f1, f2, -⟩ := EtsAt.at (EtsAt.low HT.out (LU.out.trans LU6.out)) hi
        refine reg11_yn (p := none) (pk := none) (pl := none) (qk := none) (ql := none) (ba := 0) (oa := 0) (ia := 0) (lk := 0) (ck := 0) (dk := 0) (ll := 0) (cl := 0) (dl := 0) b0 b1 hi x0 x1 x2 f1 f2 ?_
        intros
        rename_i L8
        have L8 := Lib.hid L8
        go_wp2_with fail
        go_meet
        exact ⟨rfl, L8⟩
      · obtain ⟨bb, oo, qi, di, qa, da, rfl, f0, f1, f2, -⟩ := EtsAt.at (EtsAt.low HT.out (LU.out.trans LU6.out)) hi
        obtain ⟨bb2, oo2, qi2, di2, qp2, dp2, qr2, dr2, qa2, da2, rfl, g0, g1, g2, g3, g4, -⟩ := AcsAt.at (AcsAt.low HA.out (LU.out.trans LU6.out)) hj
        refine reg11_yy (p := none) (p' := none) b0 b1 hi x0 x1 x2 f1 f2 hj y0 y2 y3 g2 g3 ?_
        intros
        rename_i L8
        have L8 := Lib.hid L8
        go_wp2_with fail
        go_meet
        exact ⟨rfl, L8⟩
    case rest =>
      obtain ⟨rfl, L7⟩ := hcut
      have HEn := Lib.hid fun (V : World) (hl : Low U V) => envs_c n acs V (.slice p ts.length c) _ ⟨HSD.out.a, fun a ha => ⟨(HSD.out.as' a ha).2.2.1, (HSD.out.as' a ha).2.2.2⟩⟩ (HA.out.low (LU.out.trans hl))
      have LC := Lib.hid (LU6.out.trans L7.out)
      clear b0 b1 HX1 HX2 HQ1 HQ2
      obtain ⟨b0, b1⟩ := HB.out wc LC.out
      have HE1 := Lib.hid (HEn.out wc LC.out)
      go_upto_region 13 with fail
      go_wp2_with fail
      refine HE1.out.mono ?_
      rintro e w8 ⟨v8, rfl, O8, l8⟩
      obtain ⟨ao, cap, rfl, hc1, hc2, hx8⟩ := O8.shape
      have HO := Lib.hid O8
      have L8 := Lib.hid (LC.out.trans l8)
      obtain ⟨N, hN⟩ : ∃ N, Hid (N = (envs acs).length) := ⟨_, Lib.hid rfl⟩
      rw [← hN.out] at hc1 HO ⊢
      clear O8 l8 b0 b1 HE1 HEn
      have hN3 := Lib.hid (show cnt3 acs acs.length = N by rw [hN.out]; unfold cnt3; rw [List.take_length])
      have hN9 : N ≤ 1000 := by
        rw [hN.out]
        have h1 : ∀ a ∈ acs, (envA a).length ≤ 100 := fun a ha => by
          have h2 := flat_le (f := envR a) (l := a.ps) (m := 10) fun p _ => by
            show (a.rs.map _).length ≤ 10
            rw [List.length_map]; exact (HSD.out.as' a ha).2.2.2
          have h3 := (HSD.out.as' a ha).2.2.1
          unfold envA; omega
        have h2 := flat_le (f := envA) (l := acs) (m := 100) h1
        have h3 := HSD.out.a
        unfold envs; omega
      go_wp2_with fail
      go_loopg [14, 15] acs.length (fun gk vt vi wr => ∃ i : Nat, vt = .int .i64 ((cnt3 acs i : Nat) : Int) ∧ vi = .int .i64 (i : Int) ∧ i ≤ acs.length ∧ acs.length - i ≤ gk ∧ Hid (Low w8 wr))
      case atStart => exact ⟨0, rfl, rfl, Nat.zero_le _, Nat.le_refl _, Lib.hid (Low.refl w8)⟩
      case round =>
        obtain ⟨i, rfl, rfl, hi, hg, G⟩ := hrel
        obtain ⟨b0, b1⟩ := HB.out wr (L8.out.trans G.out)
        by_cases hlt : i < acs.length
        · have zl : (i : Int) < (acs.length : Int) := by omega
          obtain ⟨b, o, pi, ci, pp, cp, pr, cr, pa, ca, hpp, e0, -, e2, e3, -, -, hps, hrs, -, -, ⟨y3, y4⟩, ⟨y5, y6⟩, -⟩ := AcsAt.at HA.out hlt
          obtain ⟨a, ha⟩ : ∃ a, a = acs[i] := ⟨_, rfl⟩
          rw [← ha] at e0 e2 e3 hps hrs y3 y5
          have HAI := Lib.hid (show acs[i]? = some a by rw [List.getElem?_eq_getElem hlt, ha])
          clear ha
          have HC := Lib.hid fun (V : World) (hl : Low w V) => (show V.cell? ⟨b, o + i * 5, none⟩ = some (.string a.nm.s) ∧ V.cell? ⟨b, o + i * 5 + 2, none⟩ = some (.slice pp a.ps.length cp) ∧ V.cell? ⟨b, o + i * 5 + 3, none⟩ = some (.slice pr a.rs.length cr) from ⟨hl.keep e0, hl.keep e2, hl.keep e3⟩)
          have HPS := Lib.hid hps
          have HRS := Lib.hid hrs
          have HNX := Lib.hid (cnt3_next2 HAI.out)
          clear e0 e2 e3 hps hrs
          subst hpp
          go_wp2_with fail
          clear b0 b1
          go_loopg [14, 16] a.ps.length (fun gk vt vk wr => ∃ (k T : Nat), vt = .int .i64 (T : Int) ∧ vk = .int .i64 (k : Int) ∧ k ≤ a.ps.length ∧ a.ps.length - k ≤ gk ∧ Hid (T = cnt3 acs i + k * a.rs.length) ∧ Hid (Low w8 wr))
          case atStart => exact ⟨0, cnt3 acs i, rfl, rfl, Nat.zero_le _, Nat.le_refl _, Lib.hid (by simp), G⟩
          case round =>
            clear G
            obtain ⟨k, T, rfl, rfl, hk, hgk, HT1, G⟩ := hrel
            have LG := Lib.hid (L8.out.trans G.out)
            obtain ⟨b0, b1⟩ := HB.out wr LG.out
            obtain ⟨f0, f2, f3⟩ := HC.out wr (LU.out.trans LG.out)
            by_cases hkt : k < a.ps.length
            · have zk : (k : Int) < (a.ps.length : Int) := by omega
              obtain ⟨pb, po, hpb, p0⟩ := HPS.out.at hkt
              obtain ⟨x1, hx1⟩ : ∃ x1, x1 = a.ps[k] := ⟨_, rfl⟩
              rw [← hx1] at p0
              have HP0 := Lib.hid p0
              have HPK := Lib.hid (show a.ps[k]? = some x1 by rw [List.getElem?_eq_getElem hkt, hx1])
              clear hx1
              clear p0
              subst hpb
              go_wp2_with fail
              clear b0 b1 f0 f2 f3
              go_loopg [14, 17] a.rs.length (fun gm vt vm wr => ∃ (m T2 : Nat), vt = .int .i64 (T2 : Int) ∧ vm = .int .i64 (m : Int) ∧ m ≤ a.rs.length ∧ a.rs.length - m ≤ gm ∧ Hid (T2 = T + m) ∧ Hid (Low w8 wr))
              case atStart => exact ⟨0, T, rfl, rfl, Nat.zero_le _, Nat.le_refl _, Lib.hid rfl, G⟩
              case round =>
                clear G LG
                obtain ⟨m, T2, rfl, rfl, hm, hgm, hT2, G⟩ := hrel
                have LG := Lib.hid (L8.out.trans G.out)
                obtain ⟨b0, b1⟩ := HB.out wr LG.out
                obtain ⟨f0, f2, f3⟩ := HC.out wr (LU.out.trans LG.out)
                have p0 := (LU.out.trans LG.out).keep HP0.out
                by_cases hmt : m < a.rs.length
                · have zm : (m : Int) < (a.rs.length : Int) := by omega
                  obtain ⟨rb, ro, hrb, r0⟩ := HRS.out.at hmt
                  replace r0 := (LU.out.trans LG.out).keep r0
                  obtain ⟨r, hr⟩ : ∃ r, r = a.rs[m] := ⟨_, rfl⟩
                  rw [← hr] at r0
                  obtain ⟨hTN, hget⟩ := envs_get HAI.out HPK.out (show a.rs[m]? = some r by rw [List.getElem?_eq_getElem hmt, hr]) (show T2 = cnt3 acs i + (k * a.rs.length + m) by rw [hT2.out, HT1.out]; omega)
                  obtain ⟨g, hg3⟩ : ∃ g, ao = some ⟨g, 0, none⟩ := by
                    rcases hx8 with h0 | ⟨g, h1, -, -⟩
                    · rw [h0] at hTN; simp at hTN
                    · exact ⟨g, h1⟩
                  subst hg3
                  have d0 := HO.out.cell encV_len T2 0 hTN (by omega)
                  have d1 := HO.out.cell encV_len T2 1 hTN (by omega)
                  have d2 := HO.out.cell encV_len T2 2 hTN (by omega)
                  rw [hget] at d0 d1 d2
                  replace d0 : wr.cell? ⟨g, T2 * 3, none⟩ = some (.string x1.s) := G.out.keep d0
                  replace d1 : wr.cell? ⟨g, T2 * 3 + 1, none⟩ = some (.string a.nm.s) := G.out.keep d1
                  replace d2 : wr.cell? ⟨g, T2 * 3 + 2, none⟩ = some (.string r.s) := G.out.keep d2
                  have zT : (T2 : Int) < (N : Int) := by have := hN.out; omega
                  have zT2 : ¬ (N : Int) ≤ (T2 : Int) := by omega
                  clear hget hTN hr
                  subst hrb
                  go_wp2_with fail
                  have b0 := fun q : InL wr => q.cell b0
                  have b1 := fun q : InL wr => q.cell b1
                  have f0 := fun q : InL wr => q.cell f0
                  have f2 := fun q : InL wr => q.cell f2
                  have f3 := fun q : InL wr => q.cell f3
                  have p0 := fun q : InL wr => q.cell p0
                  have r0 := fun q : InL wr => q.cell r0
                  have d0 := fun q : InL wr => q.cell d0
                  have d1 := fun q : InL wr => q.cell d1
                  have d2 := fun q : InL wr => q.cell d2
                  have zd := decide_eq_false (show ¬ N ≤ T2 by omega)
                  haveI := InL.some wr
                  refine wp_region_low mixedT (by kernel_rfl) ?_
                  repeat (go_big_quiet_step (fail))
                  refine wpQuiet_nil ?_
                  rintro W8 ⟨p8, hW8⟩
                  have G8 := Lib.hid (show Low w8 W8 by rw [hW8]; exact G.out.trans p8.ok)
                  clear hW8 p8 this b0 b1 f0 f2 f3 p0 r0 d0 d1 d2
                  go_wp2_with fail
                  go_roundg (a.rs.length - (m + 1))
                  case measure => omega
                  case rel => exact ⟨m + 1, T2 + 1, by go_num, by go_num, by omega, by omega, Lib.hid (by rw [hT2.out, Nat.add_assoc]), G8⟩
                · have zm : ¬ (m : Int) < (a.rs.length : Int) := by omega
                  go_wp2_with fail
                  go_roundg (a.ps.length - (k + 1))
                  case measure => omega
                  case rel => exact ⟨k + 1, T2, by go_num, by go_num, by omega, by omega, Lib.hid (by rw [hT2.out, HT1.out, show m = a.rs.length by omega, Nat.add_mul, Nat.one_mul, Nat.add_assoc]), G⟩
            · have zk : ¬ (k : Int) < (a.ps.length : Int) := by omega
              have HT3 := Lib.hid (show cnt3 acs (i + 1) = T by rw [HNX.out, HT1.out, show k = a.ps.length by omega])
              go_wp2_with fail
              go_roundg (acs.length - (i + 1))
              case measure => omega
              case rel => exact ⟨i + 1, by rw [HT3.out], by go_num, by omega, by omega, G⟩
        · have zl : ¬ (i : Int) < (acs.length : Int) := by omega
          obtain rfl : i = acs.length := by omega
          rw [hN3.out]
          go_wp2_with fail
          go_ret
          exact ⟨rfl, LU.out.trans (L8.out.trans G.out)⟩
end Go.Proofs.Ytijjbfdbhfjfmaa
