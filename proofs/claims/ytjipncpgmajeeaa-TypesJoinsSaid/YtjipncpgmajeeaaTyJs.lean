/- The law TypesJoins walked. No condition. -/
import Derived.Test.YtjipncpgmajeeaaTyRn
import Derived.Test.YtjipncpgmajeeaaTyC2
namespace Go.Proofs.Ytjipncpgmajeeaa
open Go.RowKit
theorem gen_w {P : World → Prop} {W : World} (h : ∀ V, V = W → P V) : P W := h W rfl
set_option maxHeartbeats 6400000 in
set_option maxRecDepth 100000 in
theorem typesJoins_v (n : Nat) (a : T) (m : Nat) (b : T) (w : World) (e v e' v' : Value) (ha : RT (fun _ => True) w n a e v) (hb : RT (fun _ => True) w m b e' v') : Calls Try.prog 5 #[tv a e v, tv b e' v'] w fun e w' => e = .returned (.bool true) ∧ Low w w' := by
  obtain ⟨pe, ce, pv, cv, rfl, rfl, z1, z2, z3, z4⟩ := ha.sl
  obtain ⟨pe', ce', pv', cv', rfl, rfl, z1', z2', z3', z4'⟩ := hb.sl
  obtain ⟨U, hU⟩ : ∃ U, U = (w.alloc (.cells #[.int .i64 a.k, .string a.n, .slice pe a.l.length ce, .slice pv a.ats.length cv] 25)).alloc (.cells #[.int .i64 b.k, .string b.n, .slice pe' b.l.length ce', .slice pv' b.ats.length cv'] 25) := ⟨_, rfl⟩
  have LU := Lib.hid (show Low w U by rw [hU]; exact low_new (low_new (Low.refl w) _) _)
  have FU := Lib.hid (fun W (h : Low U W) => low_box2 (w := w) (wr := W) (hU ▸ h))
  have HAw := Lib.hid (awake11_c U)
  have HF := Lib.hid fun W (l : Low U W) => fit_c a b W _ _ _ _ (ha.low (LU.out.trans l)) (hb.low (LU.out.trans l))
  have HTA := Lib.hid ha
  have HTB := Lib.hid hb
  have HU := Lib.hid hU
  unfold tv at *
  clear ha hb hU
  go_enter Try.func5, Try.ntmps5
  go_upto_region 1 with fail
  rw [← HU.out]
  go_wp2_with fail
  refine HAw.out.mono ?_
  rintro e w1 ⟨rfl, l1⟩
  have L1 := Lib.hid l1
  obtain ⟨⟨f0, f1, f2, f3⟩, i0, i1, i2, i3⟩ := FU.out w1 l1
  have HF1 := Lib.hid (HF.out w1 l1)
  clear l1 HAw HF HU
  go_wp2_with fail
  refine HF1.out.mono ?_
  rintro e w2 ⟨q, rfl, hq, l2⟩
  have L2 := Lib.hid (L1.out.trans l2)
  have HQ := Lib.hid hq
  clear f0 f1 f2 f3 i0 i1 i2 i3 l2 hq HF1
  cases q with
  | false =>
    go_wp2_with fail
    go_ret
    exact ⟨rfl, LU.out.trans L2.out⟩
  | true =>
    obtain ⟨hA, hB⟩ := HQ.out (by first | rfl | trivial)
    have HA := Lib.hid hA
    have HB := Lib.hid hB
    clear hA hB HQ
    have RA := Lib.hid (show RT (fun _ => True) w 61 a (.slice pe a.l.length ce) (.slice pv a.ats.length cv) from RT.re HA.out.sm.dp HTA.out)
    have RB := Lib.hid (show RT (fun _ => True) w 61 b (.slice pe' b.l.length ce') (.slice pv' b.ats.length cv') from RT.re HB.out.sm.dp HTB.out)
    clear HTA HTB
    obtain ⟨R, hR⟩ : ∃ x, x = jn 61 a b := ⟨_, rfl⟩
    have CJ := Lib.hid fun W (l : Low U W) => Join_c a b W _ _ _ _ (by omega) (RA.out.low (LU.out.trans l)) (RB.out.low (LU.out.trans l)) HA.out.sm HB.out.sm HA.out.may HB.out.may
    have CK := Lib.hid fun W (l : Low U W) => rjoin_n 61 (fun _ => True) a b W _ _ _ _ (RA.out.low (LU.out.trans l)) (RB.out.low (LU.out.trans l)) HA.out.sm HB.out.sm HA.out.may HB.out.may
    rw [← hR] at CJ CK
    have TR := Lib.hid hR
    unfold tv at CJ CK
    clear hR
    obtain ⟨⟨f0, f1, f2, f3⟩, i0, i1, i2, i3⟩ := FU.out w2 L2.out
    have CJ2 := Lib.hid (CJ.out w2 L2.out)
    go_wp2_with fail
    refine CJ2.out.mono ?_
    rintro e w3 ⟨t, qe, de, qv, dv, er, rfl, hjr, hrt, l3⟩
    have HJR := Lib.hid hjr
    have HRT := Lib.hid hrt
    have L3 := Lib.hid (L2.out.trans l3)
    clear hjr hrt l3 CJ CJ2 f0 f1 f2 f3 i0 i1 i2 i3
    go_upto_region 8 with fail
    refine gen_w (P := fun W => Code.wp _ _ _ _ W) (fun V1 hV1 => ?_)
    have LQ1 := Lib.hid (show Low w3 V1 by rw [hV1]; exact low_new (Low.refl _) _)
    have LV1 := Lib.hid (L3.out.trans LQ1.out)
    have BJ := Lib.hid (BoxAt.made (cs := [.int .i64 t.k, .string t.n, .slice qe t.l.length de, .slice qv t.ats.length dv]) hV1 rfl rfl)
    clear hV1
    obtain ⟨⟨f0, f1, f2, f3⟩, i0, i1, i2, i3⟩ := FU.out V1 LV1.out
    have CK2 := Lib.hid (CK.out V1 LV1.out)
    go_wp2_with fail
    refine CK2.out.mono ?_
    rintro e w4 ⟨t', re, me, rv, mv, er', rfl, hjr, hrt, l4⟩
    have HJR' := Lib.hid hjr
    have HRT' := Lib.hid hrt
    have LA := Lib.hid l4
    clear hjr hrt l4 CK CK2 f0 f1 f2 f3 i0 i1 i2 i3
    go_upto_region 9 with fail
    refine gen_w (P := fun W => Code.wp _ _ _ _ W) (fun V2 hV2 => ?_)
    have LQ2 := Lib.hid (show Low w4 V2 by rw [hV2]; exact low_new (Low.refl _) _)
    have LV2 := Lib.hid (LV1.out.trans (LA.out.trans LQ2.out))
    have BK := Lib.hid (BoxAt.made (cs := [.int .i64 t'.k, .string t'.n, .slice re t'.l.length me, .slice rv t'.ats.length mv]) hV2 rfl rfl)
    clear hV2
    have key : er = er' ∧ t = t' ∧ Sm 61 t ∧ mayB 61 t = true := by
      have h1 := HJR.out
      have h2 := HJR'.out
      have h3 := TR.out
      unfold JR at h1 h2
      cases R with
      | none => exact ⟨h1.2.trans h2.2.symm, h1.1.trans h2.1.symm, by rw [h1.1]; exact sm_kind 60 0, by rw [h1.1]; exact may_kind 60 0 ⟨by decide, by decide⟩⟩
      | some r =>
        have h4 := jn_sm 61 a b r ⟨HA.out.sm, HA.out.may⟩ ⟨HB.out.sm, HB.out.may⟩ h3.symm
        exact ⟨h1.2.trans h2.2.symm, h1.1.trans h2.1.symm, by rw [h1.1]; exact h4.1, by rw [h1.1]; exact h4.2⟩
    obtain ⟨rfl, rfl, st, mt⟩ := key
    have CS := Lib.hid (rSame_c t t V2 _ _ _ _ (HRT.out.low (LQ1.out.trans (LA.out.trans LQ2.out))) (HRT'.out.low LQ2.out) mt mt)
    rw [show smB 61 t t = true by rw [smB_bel, bel_refl 61 t mt]; rfl] at CS
    unfold tv at CS
    obtain ⟨x0, x1, x2, x3⟩ := (BJ.out.low (LA.out.trans LQ2.out)).at4
    obtain ⟨y0, y1, y2, y3⟩ := BK.out.at4
    go_wp2_with fail
    refine CS.out.mono ?_
    rintro e w5 ⟨rfl, l5⟩
    have L5 := Lib.hid (LV2.out.trans l5)
    clear l5 CS x0 x1 x2 x3 y0 y1 y2 y3
    go_wp2_with fail
    go_ret
    exact ⟨rfl, LU.out.trans L5.out⟩
end Go.Proofs.Ytjipncpgmajeeaa
