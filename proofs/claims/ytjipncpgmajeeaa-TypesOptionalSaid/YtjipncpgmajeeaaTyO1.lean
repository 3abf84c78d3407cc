/- The law TypesOptional walked. No condition. -/
import Derived.Test.YtjipncpgmajeeaaTyC2
import Derived.Test.YtjipncpgmajeeaaTyJn
import Derived.Test.YtjipncpgmajeeaaTyRo
namespace Go.Proofs.Ytjipncpgmajeeaa
open Go.RowKit
theorem gen_wo {P : World → Prop} {W : World} (h : ∀ V, V = W → P V) : P W := h W rfl
theorem rec1_rt {n : Nat} {V : World} {a : T} {q : Bool} {g : Nat} {pe pv : Option Addr} {ce cv : Nat} (hb : BoxAt V g [.string ⟨#[110]⟩, .int .i64 a.k, .string a.n, .slice pe a.l.length ce, .slice pv a.ats.length cv, .bool q]) (h : RT (fun _ => True) V n a (.slice pe a.l.length ce) (.slice pv a.ats.length cv)) :
    RT (fun _ => True) V (n + 1) (rec1 a q) (.slice none 0 0) (.slice (some ⟨g, 0, none⟩) 1 1) := by
  refine ⟨(by decide : (⟨#[]⟩ : ByteArray).size ≤ 9223372036854775807), RL.nil _ _ _, ⟨_, _, rfl, ⟨Nat.le_refl _, by decide⟩, .inr ⟨g, 0, rfl, trivial, fun j hj => ?_⟩⟩⟩
  obtain rfl : j = 0 := by simpa [rec1, T.ats] using hj
  refine ⟨.slice pe a.l.length ce, .slice pv a.ats.length cv, by rw [Nat.zero_mul]; exact hb.cells, (by decide : (⟨#[110]⟩ : ByteArray).size ≤ 9223372036854775807), h⟩
theorem rec1_len (t : T) (q : Bool) : (rec1 t q).ats.length = 1 := rfl
theorem rec1_at {A : Nat → Prop} {w : World} {n : Nat} {t : T} {q : Bool} {e : Value} {p : Option Addr} {m c : Nat} (h : RT A w (n + 1) (rec1 t q) e (.slice p m c)) : ∃ b o pe ce pv cv, p = some ⟨b, o, none⟩ ∧ w.cell? ⟨b, o + 1, none⟩ = some (.int .i64 t.k) ∧ w.cell? ⟨b, o + 2, none⟩ = some (.string t.n) ∧
    w.cell? ⟨b, o + 3, none⟩ = some (.slice pe t.l.length ce) ∧ w.cell? ⟨b, o + 4, none⟩ = some (.slice pv t.ats.length cv) ∧ w.cell? ⟨b, o + 5, none⟩ = some (.bool q) ∧ RT A w n t (.slice pe t.l.length ce) (.slice pv t.ats.length cv) := by
  obtain ⟨-, -, h3⟩ := rt_succ.1 h
  obtain ⟨b, o, pe, ce, pv, cv, hp, -, -, c1, c2, c3, c4, c5, -, hr⟩ := RAs.at h3 (j := 0) (by rw [rec1_len]; decide)
  rw [Nat.zero_mul, Nat.add_zero] at c1 c2 c3 c4 c5
  exact ⟨b, o, pe, ce, pv, cv, hp, c1, c2, c3, c4, c5, hr⟩
set_option maxHeartbeats 12800000 in
set_option maxRecDepth 100000 in
theorem typesOptional_v (n : Nat) (a : T) (m : Nat) (b : T) (p q : Bool) (w : World) (e0 u0 e1 u1 : Value) (ha : RT (fun _ => True) w n a e0 u0) (hb : RT (fun _ => True) w m b e1 u1) : Calls Try.prog 7 #[tv a e0 u0, tv b e1 u1, .bool p, .bool q] w fun e w' => e = .returned (.bool true) ∧ Low w w' := by
  obtain ⟨pe0, ce0, pv0, cv0, rfl, rfl, z1, z2, z3, z4⟩ := ha.sl
  obtain ⟨pe1, ce1, pv1, cv1, rfl, rfl, z1', z2', z3', z4'⟩ := hb.sl
  obtain ⟨U, hU⟩ : ∃ U, U = (w.alloc (.cells #[.int .i64 a.k, .string a.n, .slice pe0 a.l.length ce0, .slice pv0 a.ats.length cv0] 25)).alloc (.cells #[.int .i64 b.k, .string b.n, .slice pe1 b.l.length ce1, .slice pv1 b.ats.length cv1] 25) := ⟨_, rfl⟩
  have LU := Lib.hid (show Low w U by rw [hU]; exact low_new (low_new (Low.refl w) _) _)
  have ZA := Lib.hid (show BoxAt U w.heap.size [.int .i64 a.k, .string a.n, .slice pe0 a.l.length ce0, .slice pv0 a.ats.length cv0] by rw [hU]; exact (BoxAt.made (w := w) rfl rfl rfl).low (low_new (Low.refl _) _))
  have ZB := Lib.hid (show BoxAt U (w.heap.size + 1) [.int .i64 b.k, .string b.n, .slice pe1 b.l.length ce1, .slice pv1 b.ats.length cv1] from BoxAt.made hU (by simp) rfl)
  have HAw := Lib.hid (awake11_c U)
  have HF := Lib.hid fun W (l : Low U W) => fit_c a b W _ _ _ _ (ha.low (LU.out.trans l)) (hb.low (LU.out.trans l))
  have HTA := Lib.hid ha
  have HTB := Lib.hid hb
  have HU := Lib.hid hU
  unfold tv at *
  clear ha hb hU
  go_enter Try.func7, Try.ntmps7
  go_upto_region 1 with fail
  rw [← HU.out]
  go_wp2_with fail
  refine HAw.out.mono ?_
  rintro e w1 ⟨rfl, l1⟩
  have L1 := Lib.hid l1
  obtain ⟨f0, f1, f2, f3⟩ := (ZA.out.low l1).at4
  obtain ⟨g0, g1, g2, g3⟩ := (ZB.out.low l1).at4
  have HF1 := Lib.hid (HF.out w1 l1)
  clear l1 HAw HF HU
  go_wp2_with fail
  refine HF1.out.mono ?_
  rintro e w2 ⟨qq, rfl, hq, l2⟩
  have L2 := Lib.hid (L1.out.trans l2)
  have HQ := Lib.hid hq
  clear f0 f1 f2 f3 g0 g1 g2 g3 l2 hq HF1
  obtain ⟨f0, f1, f2, f3⟩ := (ZA.out.low L2.out).at4
  cases qq with
  | false =>
    go_wp2_with fail
    go_ret
    exact ⟨rfl, LU.out.trans L2.out⟩
  | true =>
  obtain ⟨hA, hB⟩ := HQ.out (by first | rfl | trivial)
  have HA := Lib.hid hA
  have HB := Lib.hid hB
  clear hA hB HQ
  have RA := Lib.hid (show RT (fun _ => True) w 61 a (.slice pe0 a.l.length ce0) (.slice pv0 a.ats.length cv0) from RT.re HA.out.sm.dp HTA.out)
  have RB := Lib.hid (show RT (fun _ => True) w 61 b (.slice pe1 b.l.length ce1) (.slice pv1 b.ats.length cv1) from RT.re HB.out.sm.dp HTB.out)
  clear HTA HTB
  have HD1 := Lib.hid (show Calls Try.prog 22 #[.agg #[.int .i64 a.k, .string a.n, .slice pe0 a.l.length ce0, .slice pv0 a.ats.length cv0]] w2 _ from depth_n 61 (by omega) _ a w2 _ _ (RA.out.low (LU.out.trans L2.out)))
  obtain ⟨da, hda⟩ : ∃ d, d = dpt 61 a := ⟨_, rfl⟩
  rw [← hda] at HD1
  clear hda
  go_wp2_with fail
  refine HD1.out.mono ?_
  rintro e w3 ⟨rfl, l3⟩
  have L3 := Lib.hid (L2.out.trans l3)
  clear l3 f0 f1 f2 f3 HD1
  obtain ⟨g0, g1, g2, g3⟩ := (ZB.out.low L3.out).at4
  by_cases h40 : (40 : Int) < (da : Int)
  case pos =>
    go_wp2_with fail
    go_ret
    exact ⟨rfl, LU.out.trans L3.out⟩
  have HD2 := Lib.hid (show Calls Try.prog 22 #[.agg #[.int .i64 b.k, .string b.n, .slice pe1 b.l.length ce1, .slice pv1 b.ats.length cv1]] w3 _ from depth_n 61 (by omega) _ b w3 _ _ (RB.out.low (LU.out.trans L3.out)))
  obtain ⟨db, hdb⟩ : ∃ d, d = dpt 61 b := ⟨_, rfl⟩
  rw [← hdb] at HD2
  clear hdb
  go_wp2_with fail
  refine HD2.out.mono ?_
  rintro e w4 ⟨rfl, l4⟩
  have L4 := Lib.hid (L3.out.trans l4)
  clear l4 g0 g1 g2 g3 HD2
  by_cases h41 : (40 : Int) < (db : Int)
  case pos =>
    go_wp2_with fail
    go_ret
    exact ⟨rfl, LU.out.trans L4.out⟩
  obtain ⟨f0, f1, f2, f3⟩ := (ZA.out.low L4.out).at4
  go_upto_region 8 with fail
  refine gen_wo (P := fun W => Code.wp _ _ _ _ W) (fun V1 hV1 => ?_)
  have LQ1 := Lib.hid (show Low w4 V1 by rw [hV1]; exact low_new (low_new (Low.refl _) _) _)
  have XR1 := Lib.hid (show BoxAt V1 w4.heap.size [.string ⟨#[110]⟩, .int .i64 a.k, .string a.n, .slice pe0 a.l.length ce0, .slice pv0 a.ats.length cv0, .bool p] by rw [hV1]; exact (BoxAt.made (w := w4) rfl rfl rfl).low (low_new (Low.refl _) _))
  have X1 := Lib.hid (show BoxAt V1 (w4.heap.size + 1) [.int .i64 8, .string ⟨#[]⟩, .slice none 0 0, .slice (some ⟨w4.heap.size, 0, none⟩) 1 1] from BoxAt.made hV1 (by simp) rfl)
  clear hV1 f0 f1 f2 f3
  obtain ⟨g0, g1, g2, g3⟩ := (ZB.out.low (L4.out.trans LQ1.out)).at4
  go_upto_region 9 with fail
  refine gen_wo (P := fun W => Code.wp _ _ _ _ W) (fun V2 hV2 => ?_)
  have LQ2 := Lib.hid (show Low V1 V2 by rw [hV2]; exact low_new (low_new (Low.refl _) _) _)
  have XR2 := Lib.hid (show BoxAt V2 V1.heap.size [.string ⟨#[110]⟩, .int .i64 b.k, .string b.n, .slice pe1 b.l.length ce1, .slice pv1 b.ats.length cv1, .bool q] by rw [hV2]; exact (BoxAt.made (w := V1) rfl rfl rfl).low (low_new (Low.refl _) _))
  have X2 := Lib.hid (show BoxAt V2 (V1.heap.size + 1) [.int .i64 8, .string ⟨#[]⟩, .slice none 0 0, .slice (some ⟨V1.heap.size, 0, none⟩) 1 1] from BoxAt.made hV2 (by simp) rfl)
  clear hV2 g0 g1 g2 g3
  have LV2 := Lib.hid (show Low U V2 from L4.out.trans (LQ1.out.trans LQ2.out))
  have RX := Lib.hid (rec1_rt (XR1.out.low LQ2.out) (RA.out.low (LU.out.trans LV2.out)))
  have RY := Lib.hid (rec1_rt XR2.out (RB.out.low (LU.out.trans LV2.out)))
  have RZ := Lib.hid fun W => (show RT (fun _ => True) W 62 rec0 (.slice none 0 0) (.slice none 0 0) from RT.kind _ _ _ _)
  obtain ⟨ab, hab⟩ : ∃ x, x = belB 61 a b := ⟨_, rfl⟩
  obtain ⟨oo, hoo⟩ : ∃ x, x = (p || q) := ⟨_, rfl⟩
  obtain ⟨R, hR⟩ : ∃ x, x = jn 61 a b := ⟨_, rfl⟩
  obtain ⟨R', hR'⟩ : ∃ x, x = jn 62 (rec1 a p) (rec1 b q) := ⟨_, rfl⟩
  have TC : (R = none ∧ R' = none ∧ ab = false) ∨ ∃ j t', R = some j ∧ R' = some (rec1 t' oo) ∧ smB 61 t' j = true := by
    rw [hR, hR', hab, hoo]
    rcases jn_rec1 60 a b p q HA.out.may HB.out.may with ⟨h1, h2⟩ | ⟨t, t', h1, h2, h3⟩
    · refine .inl ⟨h1, h2, ?_⟩
      rw [Bool.eq_false_iff]
      intro h
      exact jn_ex 61 a b b h (bel_refl 61 b HB.out.may) h1
    · exact .inr ⟨t, t', h1, h2, h3⟩
  have TR := Lib.hid hR
  have TR' := Lib.hid hR'
  have CXY := Lib.hid fun r : InL V2 => Calls.low r (show Calls Try.prog 16 #[.agg #[.int .i64 8, .string ⟨#[]⟩, .slice none 0 0, .slice (some ⟨w4.heap.size, 0, none⟩) 1 1], .agg #[.int .i64 8, .string ⟨#[]⟩, .slice none 0 0, .slice (some ⟨V1.heap.size, 0, none⟩) 1 1]] r.w _ from Below_c (n := 62) (rec1 a p) (rec1 b q) r.w _ _ _ _ (by omega) (RX.out.low r.ok) (RY.out.low r.ok) (sm_rec1 p HA.out.sm) (sm_rec1 q HB.out.sm) (may_rec1 p HA.out.may) (may_rec1 q HB.out.may))
  have CXZ := Lib.hid fun r : InL V2 => Calls.low r (show Calls Try.prog 16 #[.agg #[.int .i64 8, .string ⟨#[]⟩, .slice none 0 0, .slice (some ⟨w4.heap.size, 0, none⟩) 1 1], .agg #[.int .i64 8, .string ⟨#[]⟩, .slice none 0 0, .slice none 0 0]] r.w _ from Below_c (n := 62) (rec1 a p) rec0 r.w _ _ _ _ (by omega) (RX.out.low r.ok) (RZ.out r.w) (sm_rec1 p HA.out.sm) (sm_rec0 61) (may_rec1 p HA.out.may) (may_rec0 61))
  have CZX := Lib.hid fun r : InL V2 => Calls.low r (show Calls Try.prog 16 #[.agg #[.int .i64 8, .string ⟨#[]⟩, .slice none 0 0, .slice none 0 0], .agg #[.int .i64 8, .string ⟨#[]⟩, .slice none 0 0, .slice (some ⟨w4.heap.size, 0, none⟩) 1 1]] r.w _ from Below_c (n := 62) rec0 (rec1 a p) r.w _ _ _ _ (by omega) (RZ.out r.w) (RX.out.low r.ok) (sm_rec0 61) (sm_rec1 p HA.out.sm) (may_rec0 61) (may_rec1 p HA.out.may))
  have CAB := Lib.hid fun r : InL V2 => Calls.low r (Below_c a b r.w _ _ _ _ (by omega) (RA.out.low ((LU.out.trans LV2.out).trans r.ok)) (RB.out.low ((LU.out.trans LV2.out).trans r.ok)) HA.out.sm HB.out.sm HA.out.may HB.out.may)
  have CJ := Lib.hid fun W (l : Low U W) => Join_c a b W _ _ _ _ (by omega) (RA.out.low (LU.out.trans l)) (RB.out.low (LU.out.trans l)) HA.out.sm HB.out.sm HA.out.may HB.out.may
  have CK := Lib.hid fun W (l : Low V2 W) => (show Calls Try.prog 20 #[.agg #[.int .i64 8, .string ⟨#[]⟩, .slice none 0 0, .slice (some ⟨w4.heap.size, 0, none⟩) 1 1], .agg #[.int .i64 8, .string ⟨#[]⟩, .slice none 0 0, .slice (some ⟨V1.heap.size, 0, none⟩) 1 1]] W _ from Join_c (n := 62) (rec1 a p) (rec1 b q) W _ _ _ _ (by omega) (RX.out.low l) (RY.out.low l) (sm_rec1 p HA.out.sm) (sm_rec1 q HB.out.sm) (may_rec1 p HA.out.may) (may_rec1 q HB.out.may))
  rw [bel_rec1, ← hab] at CXY
  rw [bel_rec10] at CXZ
  rw [bel_rec01] at CZX
  rw [← hab] at CAB
  rw [← hR] at CJ
  rw [← hR'] at CK
  unfold tv at CAB CJ
  clear hab hR hR'
  have f := fun r : InL V2 => (ZA.out.low (LV2.out.trans r.ok)).at4
  have g := fun r : InL V2 => (ZB.out.low (LV2.out.trans r.ok)).at4
  have h := fun r : InL V2 => (X1.out.low (LQ2.out.trans r.ok)).at4
  have y := fun r : InL V2 => (X2.out.low r.ok).at4
  have f0 := fun r => (f r).1
  have f1 := fun r => (f r).2.1
  have f2 := fun r => (f r).2.2.1
  have f3 := fun r => (f r).2.2.2
  have g0 := fun r => (g r).1
  have g1 := fun r => (g r).2.1
  have g2 := fun r => (g r).2.2.1
  have g3 := fun r => (g r).2.2.2
  have h0 := fun r => (h r).1
  have h1 := fun r => (h r).2.1
  have h2 := fun r => (h r).2.2.1
  have h3 := fun r => (h r).2.2.2
  have y0 := fun r => (y r).1
  have y1 := fun r => (y r).2.1
  have y2 := fun r => (y r).2.2.1
  have y3 := fun r => (y r).2.2.2
  clear f g h y
  haveI := InL.some V2
  rcases TC with ⟨rfl, rfl, rfl⟩ | ⟨j, t', rfl, rfl, hs⟩
  · clear hoo
    cases p <;> cases q
    all_goals
      go_wp2_with fail
      refine wp_region_low mixedT (by kernel_rfl) ?_
      repeat (go_big_quiet_step (first | (with_reducible exact CXY.out _) | (with_reducible exact CXZ.out _) | (with_reducible exact CZX.out _) | (with_reducible exact CAB.out _)))
      refine wpQuiet_nil ?_
      rintro W8 ⟨p8, hW8⟩
      have L8 := Lib.hid (show Low V2 W8 by rw [hW8]; exact p8.ok)
      clear hW8 p8 CXY CXZ CZX CAB f0 f1 f2 f3 g0 g1 g2 g3 h0 h1 h2 h3 y0 y1 y2 y3 this
      obtain ⟨f0, f1, f2, f3⟩ := (ZA.out.low (LV2.out.trans L8.out)).at4
      obtain ⟨g0, g1, g2, g3⟩ := (ZB.out.low (LV2.out.trans L8.out)).at4
      have CJ8 := Lib.hid (CJ.out W8 (LV2.out.trans L8.out))
      go_wp2_with fail
      refine CJ8.out.mono ?_
      rintro e w9 ⟨t, qe, de, qv, dv, er, rfl, ⟨rfl, rfl⟩, hrt, l9⟩
      have L9 := Lib.hid (L8.out.trans l9)
      have HRT := Lib.hid hrt
      clear l9 hrt CJ8 CJ f0 f1 f2 f3 g0 g1 g2 g3
      go_upto_region 12 with fail
      refine gen_wo (P := fun W => Code.wp _ _ _ _ W) (fun V3 hV3 => ?_)
      have LQ3 := Lib.hid (show Low w9 V3 by rw [hV3]; exact low_new (Low.refl _) _)
      have LV3 := Lib.hid (L9.out.trans LQ3.out)
      have BJ := Lib.hid (BoxAt.made (cs := [.int .i64 noT.k, .string noT.n, .slice qe noT.l.length de, .slice qv noT.ats.length dv]) hV3 rfl rfl)
      clear hV3
      obtain ⟨f0, f1, f2, f3⟩ := (X1.out.low (LQ2.out.trans LV3.out)).at4
      obtain ⟨g0, g1, g2, g3⟩ := (X2.out.low LV3.out).at4
      have CK1 := Lib.hid (CK.out V3 LV3.out)
      go_wp2_with fail
      refine CK1.out.mono ?_
      rintro e wA ⟨t2, re, me, rv, mv, er', rfl, ⟨rfl, rfl⟩, hrt, lA⟩
      
      have LA := Lib.hid lA
      have HRT' := Lib.hid hrt
      clear lA hrt CK1 CK f0 f1 f2 f3 g0 g1 g2 g3
      go_upto_region 13 with fail
      refine gen_wo (P := fun W => Code.wp _ _ _ _ W) (fun V4 hV4 => ?_)
      have LQ4 := Lib.hid (show Low wA V4 by rw [hV4]; exact low_new (Low.refl _) _)
      have LV4 := Lib.hid (LV2.out.trans (LV3.out.trans (LA.out.trans LQ4.out)))
      clear hV4
      haveI := InL.some V4
      go_wp2_with fail
      refine wp_region_low mixedT (by kernel_rfl) ?_
      repeat (go_big_quiet_step (fail))
      refine wpQuiet_nil ?_
      rintro W9 ⟨p9, hW9⟩
      have L9' := Lib.hid (show Low V4 W9 by rw [hW9]; exact p9.ok)
      clear hW9 p9
      go_wp2_with fail
      go_ret
      exact ⟨rfl, (LU.out.trans LV4.out).trans L9'.out⟩
  · cases ab <;> cases p <;> cases q <;> cases oo
    · clear hoo
      go_wp2_with fail
      refine wp_region_low mixedT (by kernel_rfl) ?_
      repeat (go_big_quiet_step (first | (with_reducible exact CXY.out _) | (with_reducible exact CXZ.out _) | (with_reducible exact CZX.out _) | (with_reducible exact CAB.out _)))
      refine wpQuiet_nil ?_
      rintro W8 ⟨p8, hW8⟩
      have L8 := Lib.hid (show Low V2 W8 by rw [hW8]; exact p8.ok)
      clear hW8 p8 CXY CXZ CZX CAB f0 f1 f2 f3 g0 g1 g2 g3 h0 h1 h2 h3 y0 y1 y2 y3 this
      obtain ⟨f0, f1, f2, f3⟩ := (ZA.out.low (LV2.out.trans L8.out)).at4
      obtain ⟨g0, g1, g2, g3⟩ := (ZB.out.low (LV2.out.trans L8.out)).at4
      have CJ8 := Lib.hid (CJ.out W8 (LV2.out.trans L8.out))
      go_wp2_with fail
      refine CJ8.out.mono ?_
      rintro e w9 ⟨t, qe, de, qv, dv, er, rfl, ⟨rfl, rfl⟩, hrt, l9⟩
      have L9 := Lib.hid (L8.out.trans l9)
      have HRT := Lib.hid hrt
      clear l9 hrt CJ8 CJ f0 f1 f2 f3 g0 g1 g2 g3
      go_upto_region 12 with fail
      refine gen_wo (P := fun W => Code.wp _ _ _ _ W) (fun V3 hV3 => ?_)
      have LQ3 := Lib.hid (show Low w9 V3 by rw [hV3]; exact low_new (Low.refl _) _)
      have LV3 := Lib.hid (L9.out.trans LQ3.out)
      have BJ := Lib.hid (BoxAt.made (cs := [.int .i64 t.k, .string t.n, .slice qe t.l.length de, .slice qv t.ats.length dv]) hV3 rfl rfl)
      clear hV3
      obtain ⟨f0, f1, f2, f3⟩ := (X1.out.low (LQ2.out.trans LV3.out)).at4
      obtain ⟨g0, g1, g2, g3⟩ := (X2.out.low LV3.out).at4
      have CK1 := Lib.hid (CK.out V3 LV3.out)
      go_wp2_with fail
      refine CK1.out.mono ?_
      rintro e wA ⟨t2, re, me, rv, mv, er', rfl, ⟨rfl, rfl⟩, hrt, lA⟩
      rw [rec1_len] at hrt ⊢
      have LA := Lib.hid lA
      have HRT' := Lib.hid hrt
      clear lA hrt CK1 CK f0 f1 f2 f3 g0 g1 g2 g3
      go_upto_region 13 with fail
      refine gen_wo (P := fun W => Code.wp _ _ _ _ W) (fun V4 hV4 => ?_)
      have LQ4 := Lib.hid (show Low wA V4 by rw [hV4]; exact low_new (Low.refl _) _)
      have LV4 := Lib.hid (LV2.out.trans (LV3.out.trans (LA.out.trans LQ4.out)))
      have BK := Lib.hid (BoxAt.made (cs := [.int .i64 (rec1 t' false).k, .string (rec1 t' false).n, .slice re (rec1 t' false).l.length me, .slice rv 1 mv]) hV4 rfl rfl)
      clear hV4
      have SJ := Lib.hid (jn_sm 61 a b t ⟨HA.out.sm, HA.out.may⟩ ⟨HB.out.sm, HB.out.may⟩ TR.out.symm)
      have SK := Lib.hid (jn_sm 62 _ _ _ ⟨sm_rec1 _ HA.out.sm, may_rec1 _ HA.out.may⟩ ⟨sm_rec1 _ HB.out.sm, may_rec1 _ HB.out.may⟩ TR'.out.symm)
      have ST := Lib.hid (show Sm 61 t' ∧ mayB 61 t' = true from ⟨SK.out.1.2.2 t' (by simp [rec1, T.ins, T.l, T.ats, aty]), (mayB_succ.1 SK.out.2).2.2 t' (by simp [rec1, T.ins, T.l, T.ats, aty])⟩)
      obtain ⟨bk, bo, pk, ck, qk, dk, rfl, x1, x2, x3, x4, x5, hx⟩ := rec1_at (HRT'.out.low LQ4.out)
      have RJ := Lib.hid (HRT.out.low (LQ3.out.trans (LA.out.trans LQ4.out)))
      have RK := Lib.hid hx
      have CJK := Lib.hid fun r : InL V4 => Calls.low r (Same_c t' t r.w _ _ _ _ (by omega) (RK.out.low r.ok) (RJ.out.low r.ok) ST.out.1 SJ.out.1 ST.out.2 SJ.out.2)
      rw [hs] at CJK
      unfold tv at CJK
      have x := fun r : InL V4 => (BJ.out.low ((LA.out.trans LQ4.out).trans r.ok)).at4
      have y3 := fun r : InL V4 => (BK.out.low r.ok).at4.2.2.2
      have x1 := fun r : InL V4 => r.cell x1
      have x2 := fun r : InL V4 => r.cell x2
      have x3 := fun r : InL V4 => r.cell x3
      have x4 := fun r : InL V4 => r.cell x4
      have x5 := fun r : InL V4 => r.cell x5
      have f0 := fun r => (x r).1
      have f1 := fun r => (x r).2.1
      have f2 := fun r => (x r).2.2.1
      have f3 := fun r => (x r).2.2.2
      clear x hx hs
      haveI := InL.some V4
      go_wp2_with fail
      refine wp_region_low mixedT (by kernel_rfl) ?_
      repeat (go_big_quiet_step (with_reducible exact CJK.out _))
      refine wpQuiet_nil ?_
      rintro W9 ⟨p9, hW9⟩
      have L9' := Lib.hid (show Low V4 W9 by rw [hW9]; exact p9.ok)
      clear hW9 p9 CJK this
      go_wp2_with fail
      go_ret
      exact ⟨rfl, (LU.out.trans LV4.out).trans L9'.out⟩
    · exact absurd hoo (by decide)
    · exact absurd hoo (by decide)
    · clear hoo
      go_wp2_with fail
      refine wp_region_low mixedT (by kernel_rfl) ?_
      repeat (go_big_quiet_step (first | (with_reducible exact CXY.out _) | (with_reducible exact CXZ.out _) | (with_reducible exact CZX.out _) | (with_reducible exact CAB.out _)))
      refine wpQuiet_nil ?_
      rintro W8 ⟨p8, hW8⟩
      have L8 := Lib.hid (show Low V2 W8 by rw [hW8]; exact p8.ok)
      clear hW8 p8 CXY CXZ CZX CAB f0 f1 f2 f3 g0 g1 g2 g3 h0 h1 h2 h3 y0 y1 y2 y3 this
      obtain ⟨f0, f1, f2, f3⟩ := (ZA.out.low (LV2.out.trans L8.out)).at4
      obtain ⟨g0, g1, g2, g3⟩ := (ZB.out.low (LV2.out.trans L8.out)).at4
      have CJ8 := Lib.hid (CJ.out W8 (LV2.out.trans L8.out))
      go_wp2_with fail
      refine CJ8.out.mono ?_
      rintro e w9 ⟨t, qe, de, qv, dv, er, rfl, ⟨rfl, rfl⟩, hrt, l9⟩
      have L9 := Lib.hid (L8.out.trans l9)
      have HRT := Lib.hid hrt
      clear l9 hrt CJ8 CJ f0 f1 f2 f3 g0 g1 g2 g3
      go_upto_region 12 with fail
      refine gen_wo (P := fun W => Code.wp _ _ _ _ W) (fun V3 hV3 => ?_)
      have LQ3 := Lib.hid (show Low w9 V3 by rw [hV3]; exact low_new (Low.refl _) _)
      have LV3 := Lib.hid (L9.out.trans LQ3.out)
      have BJ := Lib.hid (BoxAt.made (cs := [.int .i64 t.k, .string t.n, .slice qe t.l.length de, .slice qv t.ats.length dv]) hV3 rfl rfl)
      clear hV3
      obtain ⟨f0, f1, f2, f3⟩ := (X1.out.low (LQ2.out.trans LV3.out)).at4
      obtain ⟨g0, g1, g2, g3⟩ := (X2.out.low LV3.out).at4
      have CK1 := Lib.hid (CK.out V3 LV3.out)
      go_wp2_with fail
      refine CK1.out.mono ?_
      rintro e wA ⟨t2, re, me, rv, mv, er', rfl, ⟨rfl, rfl⟩, hrt, lA⟩
      rw [rec1_len] at hrt ⊢
      have LA := Lib.hid lA
      have HRT' := Lib.hid hrt
      clear lA hrt CK1 CK f0 f1 f2 f3 g0 g1 g2 g3
      go_upto_region 13 with fail
      refine gen_wo (P := fun W => Code.wp _ _ _ _ W) (fun V4 hV4 => ?_)
      have LQ4 := Lib.hid (show Low wA V4 by rw [hV4]; exact low_new (Low.refl _) _)
      have LV4 := Lib.hid (LV2.out.trans (LV3.out.trans (LA.out.trans LQ4.out)))
      have BK := Lib.hid (BoxAt.made (cs := [.int .i64 (rec1 t' true).k, .string (rec1 t' true).n, .slice re (rec1 t' true).l.length me, .slice rv 1 mv]) hV4 rfl rfl)
      clear hV4
      have SJ := Lib.hid (jn_sm 61 a b t ⟨HA.out.sm, HA.out.may⟩ ⟨HB.out.sm, HB.out.may⟩ TR.out.symm)
      have SK := Lib.hid (jn_sm 62 _ _ _ ⟨sm_rec1 _ HA.out.sm, may_rec1 _ HA.out.may⟩ ⟨sm_rec1 _ HB.out.sm, may_rec1 _ HB.out.may⟩ TR'.out.symm)
      have ST := Lib.hid (show Sm 61 t' ∧ mayB 61 t' = true from ⟨SK.out.1.2.2 t' (by simp [rec1, T.ins, T.l, T.ats, aty]), (mayB_succ.1 SK.out.2).2.2 t' (by simp [rec1, T.ins, T.l, T.ats, aty])⟩)
      obtain ⟨bk, bo, pk, ck, qk, dk, rfl, x1, x2, x3, x4, x5, hx⟩ := rec1_at (HRT'.out.low LQ4.out)
      have RJ := Lib.hid (HRT.out.low (LQ3.out.trans (LA.out.trans LQ4.out)))
      have RK := Lib.hid hx
      have CJK := Lib.hid fun r : InL V4 => Calls.low r (Same_c t' t r.w _ _ _ _ (by omega) (RK.out.low r.ok) (RJ.out.low r.ok) ST.out.1 SJ.out.1 ST.out.2 SJ.out.2)
      rw [hs] at CJK
      unfold tv at CJK
      have x := fun r : InL V4 => (BJ.out.low ((LA.out.trans LQ4.out).trans r.ok)).at4
      have y3 := fun r : InL V4 => (BK.out.low r.ok).at4.2.2.2
      have x1 := fun r : InL V4 => r.cell x1
      have x2 := fun r : InL V4 => r.cell x2
      have x3 := fun r : InL V4 => r.cell x3
      have x4 := fun r : InL V4 => r.cell x4
      have x5 := fun r : InL V4 => r.cell x5
      have f0 := fun r => (x r).1
      have f1 := fun r => (x r).2.1
      have f2 := fun r => (x r).2.2.1
      have f3 := fun r => (x r).2.2.2
      clear x hx hs
      haveI := InL.some V4
      go_wp2_with fail
      refine wp_region_low mixedT (by kernel_rfl) ?_
      repeat (go_big_quiet_step (with_reducible exact CJK.out _))
      refine wpQuiet_nil ?_
      rintro W9 ⟨p9, hW9⟩
      have L9' := Lib.hid (show Low V4 W9 by rw [hW9]; exact p9.ok)
      clear hW9 p9 CJK this
      go_wp2_with fail
      go_ret
      exact ⟨rfl, (LU.out.trans LV4.out).trans L9'.out⟩
    · exact absurd hoo (by decide)
    · clear hoo
      go_wp2_with fail
      refine wp_region_low mixedT (by kernel_rfl) ?_
      repeat (go_big_quiet_step (first | (with_reducible exact CXY.out _) | (with_reducible exact CXZ.out _) | (with_reducible exact CZX.out _) | (with_reducible exact CAB.out _)))
      refine wpQuiet_nil ?_
      rintro W8 ⟨p8, hW8⟩
      have L8 := Lib.hid (show Low V2 W8 by rw [hW8]; exact p8.ok)
      clear hW8 p8 CXY CXZ CZX CAB f0 f1 f2 f3 g0 g1 g2 g3 h0 h1 h2 h3 y0 y1 y2 y3 this
      obtain ⟨f0, f1, f2, f3⟩ := (ZA.out.low (LV2.out.trans L8.out)).at4
      obtain ⟨g0, g1, g2, g3⟩ := (ZB.out.low (LV2.out.trans L8.out)).at4
      have CJ8 := Lib.hid (CJ.out W8 (LV2.out.trans L8.out))
      go_wp2_with fail
      refine CJ8.out.mono ?_
      rintro e w9 ⟨t, qe, de, qv, dv, er, rfl, ⟨rfl, rfl⟩, hrt, l9⟩
      have L9 := Lib.hid (L8.out.trans l9)
      have HRT := Lib.hid hrt
      clear l9 hrt CJ8 CJ f0 f1 f2 f3 g0 g1 g2 g3
      go_upto_region 12 with fail
      refine gen_wo (P := fun W => Code.wp _ _ _ _ W) (fun V3 hV3 => ?_)
      have LQ3 := Lib.hid (show Low w9 V3 by rw [hV3]; exact low_new (Low.refl _) _)
      have LV3 := Lib.hid (L9.out.trans LQ3.out)
      have BJ := Lib.hid (BoxAt.made (cs := [.int .i64 t.k, .string t.n, .slice qe t.l.length de, .slice qv t.ats.length dv]) hV3 rfl rfl)
      clear hV3
      obtain ⟨f0, f1, f2, f3⟩ := (X1.out.low (LQ2.out.trans LV3.out)).at4
      obtain ⟨g0, g1, g2, g3⟩ := (X2.out.low LV3.out).at4
      have CK1 := Lib.hid (CK.out V3 LV3.out)
      go_wp2_with fail
      refine CK1.out.mono ?_
      rintro e wA ⟨t2, re, me, rv, mv, er', rfl, ⟨rfl, rfl⟩, hrt, lA⟩
      rw [rec1_len] at hrt ⊢
      have LA := Lib.hid lA
      have HRT' := Lib.hid hrt
      clear lA hrt CK1 CK f0 f1 f2 f3 g0 g1 g2 g3
      go_upto_region 13 with fail
      refine gen_wo (P := fun W => Code.wp _ _ _ _ W) (fun V4 hV4 => ?_)
      have LQ4 := Lib.hid (show Low wA V4 by rw [hV4]; exact low_new (Low.refl _) _)
      have LV4 := Lib.hid (LV2.out.trans (LV3.out.trans (LA.out.trans LQ4.out)))
      have BK := Lib.hid (BoxAt.made (cs := [.int .i64 (rec1 t' true).k, .string (rec1 t' true).n, .slice re (rec1 t' true).l.length me, .slice rv 1 mv]) hV4 rfl rfl)
      clear hV4
      have SJ := Lib.hid (jn_sm 61 a b t ⟨HA.out.sm, HA.out.may⟩ ⟨HB.out.sm, HB.out.may⟩ TR.out.symm)
      have SK := Lib.hid (jn_sm 62 _ _ _ ⟨sm_rec1 _ HA.out.sm, may_rec1 _ HA.out.may⟩ ⟨sm_rec1 _ HB.out.sm, may_rec1 _ HB.out.may⟩ TR'.out.symm)
      have ST := Lib.hid (show Sm 61 t' ∧ mayB 61 t' = true from ⟨SK.out.1.2.2 t' (by simp [rec1, T.ins, T.l, T.ats, aty]), (mayB_succ.1 SK.out.2).2.2 t' (by simp [rec1, T.ins, T.l, T.ats, aty])⟩)
      obtain ⟨bk, bo, pk, ck, qk, dk, rfl, x1, x2, x3, x4, x5, hx⟩ := rec1_at (HRT'.out.low LQ4.out)
      have RJ := Lib.hid (HRT.out.low (LQ3.out.trans (LA.out.trans LQ4.out)))
      have RK := Lib.hid hx
      have CJK := Lib.hid fun r : InL V4 => Calls.low r (Same_c t' t r.w _ _ _ _ (by omega) (RK.out.low r.ok) (RJ.out.low r.ok) ST.out.1 SJ.out.1 ST.out.2 SJ.out.2)
      rw [hs] at CJK
      unfold tv at CJK
      have x := fun r : InL V4 => (BJ.out.low ((LA.out.trans LQ4.out).trans r.ok)).at4
      have y3 := fun r : InL V4 => (BK.out.low r.ok).at4.2.2.2
      have x1 := fun r : InL V4 => r.cell x1
      have x2 := fun r : InL V4 => r.cell x2
      have x3 := fun r : InL V4 => r.cell x3
      have x4 := fun r : InL V4 => r.cell x4
      have x5 := fun r : InL V4 => r.cell x5
      have f0 := fun r => (x r).1
      have f1 := fun r => (x r).2.1
      have f2 := fun r => (x r).2.2.1
      have f3 := fun r => (x r).2.2.2
      clear x hx hs
      haveI := InL.some V4
      go_wp2_with fail
      refine wp_region_low mixedT (by kernel_rfl) ?_
      repeat (go_big_quiet_step (with_reducible exact CJK.out _))
      refine wpQuiet_nil ?_
      rintro W9 ⟨p9, hW9⟩
      have L9' := Lib.hid (show Low V4 W9 by rw [hW9]; exact p9.ok)
      clear hW9 p9 CJK this
      go_wp2_with fail
      go_ret
      exact ⟨rfl, (LU.out.trans LV4.out).trans L9'.out⟩
    · exact absurd hoo (by decide)
    · clear hoo
      go_wp2_with fail
      refine wp_region_low mixedT (by kernel_rfl) ?_
      repeat (go_big_quiet_step (first | (with_reducible exact CXY.out _) | (with_reducible exact CXZ.out _) | (with_reducible exact CZX.out _) | (with_reducible exact CAB.out _)))
      refine wpQuiet_nil ?_
      rintro W8 ⟨p8, hW8⟩
      have L8 := Lib.hid (show Low V2 W8 by rw [hW8]; exact p8.ok)
      clear hW8 p8 CXY CXZ CZX CAB f0 f1 f2 f3 g0 g1 g2 g3 h0 h1 h2 h3 y0 y1 y2 y3 this
      obtain ⟨f0, f1, f2, f3⟩ := (ZA.out.low (LV2.out.trans L8.out)).at4
      obtain ⟨g0, g1, g2, g3⟩ := (ZB.out.low (LV2.out.trans L8.out)).at4
      have CJ8 := Lib.hid (CJ.out W8 (LV2.out.trans L8.out))
      go_wp2_with fail
      refine CJ8.out.mono ?_
      rintro e w9 ⟨t, qe, de, qv, dv, er, rfl, ⟨rfl, rfl⟩, hrt, l9⟩
      have L9 := Lib.hid (L8.out.trans l9)
      have HRT := Lib.hid hrt
      clear l9 hrt CJ8 CJ f0 f1 f2 f3 g0 g1 g2 g3
      go_upto_region 12 with fail
      refine gen_wo (P := fun W => Code.wp _ _ _ _ W) (fun V3 hV3 => ?_)
      have LQ3 := Lib.hid (show Low w9 V3 by rw [hV3]; exact low_new (Low.refl _) _)
      have LV3 := Lib.hid (L9.out.trans LQ3.out)
      have BJ := Lib.hid (BoxAt.made (cs := [.int .i64 t.k, .string t.n, .slice qe t.l.length de, .slice qv t.ats.length dv]) hV3 rfl rfl)
      clear hV3
      obtain ⟨f0, f1, f2, f3⟩ := (X1.out.low (LQ2.out.trans LV3.out)).at4
      obtain ⟨g0, g1, g2, g3⟩ := (X2.out.low LV3.out).at4
      have CK1 := Lib.hid (CK.out V3 LV3.out)
      go_wp2_with fail
      refine CK1.out.mono ?_
      rintro e wA ⟨t2, re, me, rv, mv, er', rfl, ⟨rfl, rfl⟩, hrt, lA⟩
      rw [rec1_len] at hrt ⊢
      have LA := Lib.hid lA
      have HRT' := Lib.hid hrt
      clear lA hrt CK1 CK f0 f1 f2 f3 g0 g1 g2 g3
      go_upto_region 13 with fail
      refine gen_wo (P := fun W => Code.wp _ _ _ _ W) (fun V4 hV4 => ?_)
      have LQ4 := Lib.hid (show Low wA V4 by rw [hV4]; exact low_new (Low.refl _) _)
      have LV4 := Lib.hid (LV2.out.trans (LV3.out.trans (LA.out.trans LQ4.out)))
      have BK := Lib.hid (BoxAt.made (cs := [.int .i64 (rec1 t' true).k, .string (rec1 t' true).n, .slice re (rec1 t' true).l.length me, .slice rv 1 mv]) hV4 rfl rfl)
      clear hV4
      have SJ := Lib.hid (jn_sm 61 a b t ⟨HA.out.sm, HA.out.may⟩ ⟨HB.out.sm, HB.out.may⟩ TR.out.symm)
      have SK := Lib.hid (jn_sm 62 _ _ _ ⟨sm_rec1 _ HA.out.sm, may_rec1 _ HA.out.may⟩ ⟨sm_rec1 _ HB.out.sm, may_rec1 _ HB.out.may⟩ TR'.out.symm)
      have ST := Lib.hid (show Sm 61 t' ∧ mayB 61 t' = true from ⟨SK.out.1.2.2 t' (by simp [rec1, T.ins, T.l, T.ats, aty]), (mayB_succ.1 SK.out.2).2.2 t' (by simp [rec1, T.ins, T.l, T.ats, aty])⟩)
      obtain ⟨bk, bo, pk, ck, qk, dk, rfl, x1, x2, x3, x4, x5, hx⟩ := rec1_at (HRT'.out.low LQ4.out)
      have RJ := Lib.hid (HRT.out.low (LQ3.out.trans (LA.out.trans LQ4.out)))
      have RK := Lib.hid hx
      have CJK := Lib.hid fun r : InL V4 => Calls.low r (Same_c t' t r.w _ _ _ _ (by omega) (RK.out.low r.ok) (RJ.out.low r.ok) ST.out.1 SJ.out.1 ST.out.2 SJ.out.2)
      rw [hs] at CJK
      unfold tv at CJK
      have x := fun r : InL V4 => (BJ.out.low ((LA.out.trans LQ4.out).trans r.ok)).at4
      have y3 := fun r : InL V4 => (BK.out.low r.ok).at4.2.2.2
      have x1 := fun r : InL V4 => r.cell x1
      have x2 := fun r : InL V4 => r.cell x2
      have x3 := fun r : InL V4 => r.cell x3
      have x4 := fun r : InL V4 => r.cell x4
      have x5 := fun r : InL V4 => r.cell x5
      have f0 := fun r => (x r).1
      have f1 := fun r => (x r).2.1
      have f2 := fun r => (x r).2.2.1
      have f3 := fun r => (x r).2.2.2
      clear x hx hs
      haveI := InL.some V4
      go_wp2_with fail
      refine wp_region_low mixedT (by kernel_rfl) ?_
      repeat (go_big_quiet_step (with_reducible exact CJK.out _))
      refine wpQuiet_nil ?_
      rintro W9 ⟨p9, hW9⟩
      have L9' := Lib.hid (show Low V4 W9 by rw [hW9]; exact p9.ok)
      clear hW9 p9 CJK this
      go_wp2_with fail
      go_ret
      exact ⟨rfl, (LU.out.trans LV4.out).trans L9'.out⟩
    · clear hoo
      go_wp2_with fail
      refine wp_region_low mixedT (by kernel_rfl) ?_
      repeat (go_big_quiet_step (first | (with_reducible exact CXY.out _) | (with_reducible exact CXZ.out _) | (with_reducible exact CZX.out _) | (with_reducible exact CAB.out _)))
      refine wpQuiet_nil ?_
      rintro W8 ⟨p8, hW8⟩
      have L8 := Lib.hid (show Low V2 W8 by rw [hW8]; exact p8.ok)
      clear hW8 p8 CXY CXZ CZX CAB f0 f1 f2 f3 g0 g1 g2 g3 h0 h1 h2 h3 y0 y1 y2 y3 this
      obtain ⟨f0, f1, f2, f3⟩ := (ZA.out.low (LV2.out.trans L8.out)).at4
      obtain ⟨g0, g1, g2, g3⟩ := (ZB.out.low (LV2.out.trans L8.out)).at4
      have CJ8 := Lib.hid (CJ.out W8 (LV2.out.trans L8.out))
      go_wp2_with fail
      refine CJ8.out.mono ?_
      rintro e w9 ⟨t, qe, de, qv, dv, er, rfl, ⟨rfl, rfl⟩, hrt, l9⟩
      have L9 := Lib.hid (L8.out.trans l9)
      have HRT := Lib.hid hrt
      clear l9 hrt CJ8 CJ f0 f1 f2 f3 g0 g1 g2 g3
      go_upto_region 12 with fail
      refine gen_wo (P := fun W => Code.wp _ _ _ _ W) (fun V3 hV3 => ?_)
      have LQ3 := Lib.hid (show Low w9 V3 by rw [hV3]; exact low_new (Low.refl _) _)
      have LV3 := Lib.hid (L9.out.trans LQ3.out)
      have BJ := Lib.hid (BoxAt.made (cs := [.int .i64 t.k, .string t.n, .slice qe t.l.length de, .slice qv t.ats.length dv]) hV3 rfl rfl)
      clear hV3
      obtain ⟨f0, f1, f2, f3⟩ := (X1.out.low (LQ2.out.trans LV3.out)).at4
      obtain ⟨g0, g1, g2, g3⟩ := (X2.out.low LV3.out).at4
      have CK1 := Lib.hid (CK.out V3 LV3.out)
      go_wp2_with fail
      refine CK1.out.mono ?_
      rintro e wA ⟨t2, re, me, rv, mv, er', rfl, ⟨rfl, rfl⟩, hrt, lA⟩
      rw [rec1_len] at hrt ⊢
      have LA := Lib.hid lA
      have HRT' := Lib.hid hrt
      clear lA hrt CK1 CK f0 f1 f2 f3 g0 g1 g2 g3
      go_upto_region 13 with fail
      refine gen_wo (P := fun W => Code.wp _ _ _ _ W) (fun V4 hV4 => ?_)
      have LQ4 := Lib.hid (show Low wA V4 by rw [hV4]; exact low_new (Low.refl _) _)
      have LV4 := Lib.hid (LV2.out.trans (LV3.out.trans (LA.out.trans LQ4.out)))
      have BK := Lib.hid (BoxAt.made (cs := [.int .i64 (rec1 t' false).k, .string (rec1 t' false).n, .slice re (rec1 t' false).l.length me, .slice rv 1 mv]) hV4 rfl rfl)
      clear hV4
      have SJ := Lib.hid (jn_sm 61 a b t ⟨HA.out.sm, HA.out.may⟩ ⟨HB.out.sm, HB.out.may⟩ TR.out.symm)
      have SK := Lib.hid (jn_sm 62 _ _ _ ⟨sm_rec1 _ HA.out.sm, may_rec1 _ HA.out.may⟩ ⟨sm_rec1 _ HB.out.sm, may_rec1 _ HB.out.may⟩ TR'.out.symm)
      have ST := Lib.hid (show Sm 61 t' ∧ mayB 61 t' = true from ⟨SK.out.1.2.2 t' (by simp [rec1, T.ins, T.l, T.ats, aty]), (mayB_succ.1 SK.out.2).2.2 t' (by simp [rec1, T.ins, T.l, T.ats, aty])⟩)
      obtain ⟨bk, bo, pk, ck, qk, dk, rfl, x1, x2, x3, x4, x5, hx⟩ := rec1_at (HRT'.out.low LQ4.out)
      have RJ := Lib.hid (HRT.out.low (LQ3.out.trans (LA.out.trans LQ4.out)))
      have RK := Lib.hid hx
      have CJK := Lib.hid fun r : InL V4 => Calls.low r (Same_c t' t r.w _ _ _ _ (by omega) (RK.out.low r.ok) (RJ.out.low r.ok) ST.out.1 SJ.out.1 ST.out.2 SJ.out.2)
      rw [hs] at CJK
      unfold tv at CJK
      have x := fun r : InL V4 => (BJ.out.low ((LA.out.trans LQ4.out).trans r.ok)).at4
      have y3 := fun r : InL V4 => (BK.out.low r.ok).at4.2.2.2
      have x1 := fun r : InL V4 => r.cell x1
      have x2 := fun r : InL V4 => r.cell x2
      have x3 := fun r : InL V4 => r.cell x3
      have x4 := fun r : InL V4 => r.cell x4
      have x5 := fun r : InL V4 => r.cell x5
      have f0 := fun r => (x r).1
      have f1 := fun r => (x r).2.1
      have f2 := fun r => (x r).2.2.1
      have f3 := fun r => (x r).2.2.2
      clear x hx hs
      haveI := InL.some V4
      go_wp2_with fail
      refine wp_region_low mixedT (by kernel_rfl) ?_
      repeat (go_big_quiet_step (with_reducible exact CJK.out _))
      refine wpQuiet_nil ?_
      rintro W9 ⟨p9, hW9⟩
      have L9' := Lib.hid (show Low V4 W9 by rw [hW9]; exact p9.ok)
      clear hW9 p9 CJK this
      go_wp2_with fail
      go_ret
      exact ⟨rfl, (LU.out.trans LV4.out).trans L9'.out⟩
    · exact absurd hoo (by decide)
    · exact absurd hoo (by decide)
    · clear hoo
      go_wp2_with fail
      refine wp_region_low mixedT (by kernel_rfl) ?_
      repeat (go_big_quiet_step (first | (with_reducible exact CXY.out _) | (with_reducible exact CXZ.out _) | (with_reducible exact CZX.out _) | (with_reducible exact CAB.out _)))
      refine wpQuiet_nil ?_
      rintro W8 ⟨p8, hW8⟩
      have L8 := Lib.hid (show Low V2 W8 by rw [hW8]; exact p8.ok)
      clear hW8 p8 CXY CXZ CZX CAB f0 f1 f2 f3 g0 g1 g2 g3 h0 h1 h2 h3 y0 y1 y2 y3 this
      obtain ⟨f0, f1, f2, f3⟩ := (ZA.out.low (LV2.out.trans L8.out)).at4
      obtain ⟨g0, g1, g2, g3⟩ := (ZB.out.low (LV2.out.trans L8.out)).at4
      have CJ8 := Lib.hid (CJ.out W8 (LV2.out.trans L8.out))
      go_wp2_with fail
      refine CJ8.out.mono ?_
      rintro e w9 ⟨t, qe, de, qv, dv, er, rfl, ⟨rfl, rfl⟩, hrt, l9⟩
      have L9 := Lib.hid (L8.out.trans l9)
      have HRT := Lib.hid hrt
      clear l9 hrt CJ8 CJ f0 f1 f2 f3 g0 g1 g2 g3
      go_upto_region 12 with fail
      refine gen_wo (P := fun W => Code.wp _ _ _ _ W) (fun V3 hV3 => ?_)
      have LQ3 := Lib.hid (show Low w9 V3 by rw [hV3]; exact low_new (Low.refl _) _)
      have LV3 := Lib.hid (L9.out.trans LQ3.out)
      have BJ := Lib.hid (BoxAt.made (cs := [.int .i64 t.k, .string t.n, .slice qe t.l.length de, .slice qv t.ats.length dv]) hV3 rfl rfl)
      clear hV3
      obtain ⟨f0, f1, f2, f3⟩ := (X1.out.low (LQ2.out.trans LV3.out)).at4
      obtain ⟨g0, g1, g2, g3⟩ := (X2.out.low LV3.out).at4
      have CK1 := Lib.hid (CK.out V3 LV3.out)
      go_wp2_with fail
      refine CK1.out.mono ?_
      rintro e wA ⟨t2, re, me, rv, mv, er', rfl, ⟨rfl, rfl⟩, hrt, lA⟩
      rw [rec1_len] at hrt ⊢
      have LA := Lib.hid lA
      have HRT' := Lib.hid hrt
      clear lA hrt CK1 CK f0 f1 f2 f3 g0 g1 g2 g3
      go_upto_region 13 with fail
      refine gen_wo (P := fun W => Code.wp _ _ _ _ W) (fun V4 hV4 => ?_)
      have LQ4 := Lib.hid (show Low wA V4 by rw [hV4]; exact low_new (Low.refl _) _)
      have LV4 := Lib.hid (LV2.out.trans (LV3.out.trans (LA.out.trans LQ4.out)))
      have BK := Lib.hid (BoxAt.made (cs := [.int .i64 (rec1 t' true).k, .string (rec1 t' true).n, .slice re (rec1 t' true).l.length me, .slice rv 1 mv]) hV4 rfl rfl)
      clear hV4
      have SJ := Lib.hid (jn_sm 61 a b t ⟨HA.out.sm, HA.out.may⟩ ⟨HB.out.sm, HB.out.may⟩ TR.out.symm)
      have SK := Lib.hid (jn_sm 62 _ _ _ ⟨sm_rec1 _ HA.out.sm, may_rec1 _ HA.out.may⟩ ⟨sm_rec1 _ HB.out.sm, may_rec1 _ HB.out.may⟩ TR'.out.symm)
      have ST := Lib.hid (show Sm 61 t' ∧ mayB 61 t' = true from ⟨SK.out.1.2.2 t' (by simp [rec1, T.ins, T.l, T.ats, aty]), (mayB_succ.1 SK.out.2).2.2 t' (by simp [rec1, T.ins, T.l, T.ats, aty])⟩)
      obtain ⟨bk, bo, pk, ck, qk, dk, rfl, x1, x2, x3, x4, x5, hx⟩ := rec1_at (HRT'.out.low LQ4.out)
      have RJ := Lib.hid (HRT.out.low (LQ3.out.trans (LA.out.trans LQ4.out)))
      have RK := Lib.hid hx
      have CJK := Lib.hid fun r : InL V4 => Calls.low r (Same_c t' t r.w _ _ _ _ (by omega) (RK.out.low r.ok) (RJ.out.low r.ok) ST.out.1 SJ.out.1 ST.out.2 SJ.out.2)
      rw [hs] at CJK
      unfold tv at CJK
      have x := fun r : InL V4 => (BJ.out.low ((LA.out.trans LQ4.out).trans r.ok)).at4
      have y3 := fun r : InL V4 => (BK.out.low r.ok).at4.2.2.2
      have x1 := fun r : InL V4 => r.cell x1
      have x2 := fun r : InL V4 => r.cell x2
      have x3 := fun r : InL V4 => r.cell x3
      have x4 := fun r : InL V4 => r.cell x4
      have x5 := fun r : InL V4 => r.cell x5
      have f0 := fun r => (x r).1
      have f1 := fun r => (x r).2.1
      have f2 := fun r => (x r).2.2.1
      have f3 := fun r => (x r).2.2.2
      clear x hx hs
      haveI := InL.some V4
      go_wp2_with fail
      refine wp_region_low mixedT (by kernel_rfl) ?_
      repeat (go_big_quiet_step (with_reducible exact CJK.out _))
      refine wpQuiet_nil ?_
      rintro W9 ⟨p9, hW9⟩
      have L9' := Lib.hid (show Low V4 W9 by rw [hW9]; exact p9.ok)
      clear hW9 p9 CJK this
      go_wp2_with fail
      go_ret
      exact ⟨rfl, (LU.out.trans LV4.out).trans L9'.out⟩
    · exact absurd hoo (by decide)
    · clear hoo
      go_wp2_with fail
      refine wp_region_low mixedT (by kernel_rfl) ?_
      repeat (go_big_quiet_step (first | (with_reducible exact CXY.out _) | (with_reducible exact CXZ.out _) | (with_reducible exact CZX.out _) | (with_reducible exact CAB.out _)))
      refine wpQuiet_nil ?_
      rintro W8 ⟨p8, hW8⟩
      have L8 := Lib.hid (show Low V2 W8 by rw [hW8]; exact p8.ok)
      clear hW8 p8 CXY CXZ CZX CAB f0 f1 f2 f3 g0 g1 g2 g3 h0 h1 h2 h3 y0 y1 y2 y3 this
      obtain ⟨f0, f1, f2, f3⟩ := (ZA.out.low (LV2.out.trans L8.out)).at4
      obtain ⟨g0, g1, g2, g3⟩ := (ZB.out.low (LV2.out.trans L8.out)).at4
      have CJ8 := Lib.hid (CJ.out W8 (LV2.out.trans L8.out))
      go_wp2_with fail
      refine CJ8.out.mono ?_
      rintro e w9 ⟨t, qe, de, qv, dv, er, rfl, ⟨rfl, rfl⟩, hrt, l9⟩
      have L9 := Lib.hid (L8.out.trans l9)
      have HRT := Lib.hid hrt
      clear l9 hrt CJ8 CJ f0 f1 f2 f3 g0 g1 g2 g3
      go_upto_region 12 with fail
      refine gen_wo (P := fun W => Code.wp _ _ _ _ W) (fun V3 hV3 => ?_)
      have LQ3 := Lib.hid (show Low w9 V3 by rw [hV3]; exact low_new (Low.refl _) _)
      have LV3 := Lib.hid (L9.out.trans LQ3.out)
      have BJ := Lib.hid (BoxAt.made (cs := [.int .i64 t.k, .string t.n, .slice qe t.l.length de, .slice qv t.ats.length dv]) hV3 rfl rfl)
      clear hV3
      obtain ⟨f0, f1, f2, f3⟩ := (X1.out.low (LQ2.out.trans LV3.out)).at4
      obtain ⟨g0, g1, g2, g3⟩ := (X2.out.low LV3.out).at4
      have CK1 := Lib.hid (CK.out V3 LV3.out)
      go_wp2_with fail
      refine CK1.out.mono ?_
      rintro e wA ⟨t2, re, me, rv, mv, er', rfl, ⟨rfl, rfl⟩, hrt, lA⟩
      rw [rec1_len] at hrt ⊢
      have LA := Lib.hid lA
      have HRT' := Lib.hid hrt
      clear lA hrt CK1 CK f0 f1 f2 f3 g0 g1 g2 g3
      go_upto_region 13 with fail
      refine gen_wo (P := fun W => Code.wp _ _ _ _ W) (fun V4 hV4 => ?_)
      have LQ4 := Lib.hid (show Low wA V4 by rw [hV4]; exact low_new (Low.refl _) _)
      have LV4 := Lib.hid (LV2.out.trans (LV3.out.trans (LA.out.trans LQ4.out)))
      have BK := Lib.hid (BoxAt.made (cs := [.int .i64 (rec1 t' true).k, .string (rec1 t' true).n, .slice re (rec1 t' true).l.length me, .slice rv 1 mv]) hV4 rfl rfl)
      clear hV4
      have SJ := Lib.hid (jn_sm 61 a b t ⟨HA.out.sm, HA.out.may⟩ ⟨HB.out.sm, HB.out.may⟩ TR.out.symm)
      have SK := Lib.hid (jn_sm 62 _ _ _ ⟨sm_rec1 _ HA.out.sm, may_rec1 _ HA.out.may⟩ ⟨sm_rec1 _ HB.out.sm, may_rec1 _ HB.out.may⟩ TR'.out.symm)
      have ST := Lib.hid (show Sm 61 t' ∧ mayB 61 t' = true from ⟨SK.out.1.2.2 t' (by simp [rec1, T.ins, T.l, T.ats, aty]), (mayB_succ.1 SK.out.2).2.2 t' (by simp [rec1, T.ins, T.l, T.ats, aty])⟩)
      obtain ⟨bk, bo, pk, ck, qk, dk, rfl, x1, x2, x3, x4, x5, hx⟩ := rec1_at (HRT'.out.low LQ4.out)
      have RJ := Lib.hid (HRT.out.low (LQ3.out.trans (LA.out.trans LQ4.out)))
      have RK := Lib.hid hx
      have CJK := Lib.hid fun r : InL V4 => Calls.low r (Same_c t' t r.w _ _ _ _ (by omega) (RK.out.low r.ok) (RJ.out.low r.ok) ST.out.1 SJ.out.1 ST.out.2 SJ.out.2)
      rw [hs] at CJK
      unfold tv at CJK
      have x := fun r : InL V4 => (BJ.out.low ((LA.out.trans LQ4.out).trans r.ok)).at4
      have y3 := fun r : InL V4 => (BK.out.low r.ok).at4.2.2.2
      have x1 := fun r : InL V4 => r.cell x1
      have x2 := fun r : InL V4 => r.cell x2
      have x3 := fun r : InL V4 => r.cell x3
      have x4 := fun r : InL V4 => r.cell x4
      have x5 := fun r : InL V4 => r.cell x5
      have f0 := fun r => (x r).1
      have f1 := fun r => (x r).2.1
      have f2 := fun r => (x r).2.2.1
      have f3 := fun r => (x r).2.2.2
      clear x hx hs
      haveI := InL.some V4
      go_wp2_with fail
      refine wp_region_low mixedT (by kernel_rfl) ?_
      repeat (go_big_quiet_step (with_reducible exact CJK.out _))
      refine wpQuiet_nil ?_
      rintro W9 ⟨p9, hW9⟩
      have L9' := Lib.hid (show Low V4 W9 by rw [hW9]; exact p9.ok)
      clear hW9 p9 CJK this
      go_wp2_with fail
      go_ret
      exact ⟨rfl, (LU.out.trans LV4.out).trans L9'.out⟩
    · exact absurd hoo (by decide)
    · clear hoo
      go_wp2_with fail
      refine wp_region_low mixedT (by kernel_rfl) ?_
      repeat (go_big_quiet_step (first | (with_reducible exact CXY.out _) | (with_reducible exact CXZ.out _) | (with_reducible exact CZX.out _) | (with_reducible exact CAB.out _)))
      refine wpQuiet_nil ?_
      rintro W8 ⟨p8, hW8⟩
      have L8 := Lib.hid (show Low V2 W8 by rw [hW8]; exact p8.ok)
      clear hW8 p8 CXY CXZ CZX CAB f0 f1 f2 f3 g0 g1 g2 g3 h0 h1 h2 h3 y0 y1 y2 y3 this
      obtain ⟨f0, f1, f2, f3⟩ := (ZA.out.low (LV2.out.trans L8.out)).at4
      obtain ⟨g0, g1, g2, g3⟩ := (ZB.out.low (LV2.out.trans L8.out)).at4
      have CJ8 := Lib.hid (CJ.out W8 (LV2.out.trans L8.out))
      go_wp2_with fail
      refine CJ8.out.mono ?_
      rintro e w9 ⟨t, qe, de, qv, dv, er, rfl, ⟨rfl, rfl⟩, hrt, l9⟩
      have L9 := Lib.hid (L8.out.trans l9)
      have HRT := Lib.hid hrt
      clear l9 hrt CJ8 CJ f0 f1 f2 f3 g0 g1 g2 g3
      go_upto_region 12 with fail
      refine gen_wo (P := fun W => Code.wp _ _ _ _ W) (fun V3 hV3 => ?_)
      have LQ3 := Lib.hid (show Low w9 V3 by rw [hV3]; exact low_new (Low.refl _) _)
      have LV3 := Lib.hid (L9.out.trans LQ3.out)
      have BJ := Lib.hid (BoxAt.made (cs := [.int .i64 t.k, .string t.n, .slice qe t.l.length de, .slice qv t.ats.length dv]) hV3 rfl rfl)
      clear hV3
      obtain ⟨f0, f1, f2, f3⟩ := (X1.out.low (LQ2.out.trans LV3.out)).at4
      obtain ⟨g0, g1, g2, g3⟩ := (X2.out.low LV3.out).at4
      have CK1 := Lib.hid (CK.out V3 LV3.out)
      go_wp2_with fail
      refine CK1.out.mono ?_
      rintro e wA ⟨t2, re, me, rv, mv, er', rfl, ⟨rfl, rfl⟩, hrt, lA⟩
      rw [rec1_len] at hrt ⊢
      have LA := Lib.hid lA
      have HRT' := Lib.hid hrt
      clear lA hrt CK1 CK f0 f1 f2 f3 g0 g1 g2 g3
      go_upto_region 13 with fail
      refine gen_wo (P := fun W => Code.wp _ _ _ _ W) (fun V4 hV4 => ?_)
      have LQ4 := Lib.hid (show Low wA V4 by rw [hV4]; exact low_new (Low.refl _) _)
      have LV4 := Lib.hid (LV2.out.trans (LV3.out.trans (LA.out.trans LQ4.out)))
      have BK := Lib.hid (BoxAt.made (cs := [.int .i64 (rec1 t' true).k, .string (rec1 t' true).n, .slice re (rec1 t' true).l.length me, .slice rv 1 mv]) hV4 rfl rfl)
      clear hV4
      have SJ := Lib.hid (jn_sm 61 a b t ⟨HA.out.sm, HA.out.may⟩ ⟨HB.out.sm, HB.out.may⟩ TR.out.symm)
      have SK := Lib.hid (jn_sm 62 _ _ _ ⟨sm_rec1 _ HA.out.sm, may_rec1 _ HA.out.may⟩ ⟨sm_rec1 _ HB.out.sm, may_rec1 _ HB.out.may⟩ TR'.out.symm)
      have ST := Lib.hid (show Sm 61 t' ∧ mayB 61 t' = true from ⟨SK.out.1.2.2 t' (by simp [rec1, T.ins, T.l, T.ats, aty]), (mayB_succ.1 SK.out.2).2.2 t' (by simp [rec1, T.ins, T.l, T.ats, aty])⟩)
      obtain ⟨bk, bo, pk, ck, qk, dk, rfl, x1, x2, x3, x4, x5, hx⟩ := rec1_at (HRT'.out.low LQ4.out)
      have RJ := Lib.hid (HRT.out.low (LQ3.out.trans (LA.out.trans LQ4.out)))
      have RK := Lib.hid hx
      have CJK := Lib.hid fun r : InL V4 => Calls.low r (Same_c t' t r.w _ _ _ _ (by omega) (RK.out.low r.ok) (RJ.out.low r.ok) ST.out.1 SJ.out.1 ST.out.2 SJ.out.2)
      rw [hs] at CJK
      unfold tv at CJK
      have x := fun r : InL V4 => (BJ.out.low ((LA.out.trans LQ4.out).trans r.ok)).at4
      have y3 := fun r : InL V4 => (BK.out.low r.ok).at4.2.2.2
      have x1 := fun r : InL V4 => r.cell x1
      have x2 := fun r : InL V4 => r.cell x2
      have x3 := fun r : InL V4 => r.cell x3
      have x4 := fun r : InL V4 => r.cell x4
      have x5 := fun r : InL V4 => r.cell x5
      have f0 := fun r => (x r).1
      have f1 := fun r => (x r).2.1
      have f2 := fun r => (x r).2.2.1
      have f3 := fun r => (x r).2.2.2
      clear x hx hs
      haveI := InL.some V4
      go_wp2_with fail
      refine wp_region_low mixedT (by kernel_rfl) ?_
      repeat (go_big_quiet_step (with_reducible exact CJK.out _))
      refine wpQuiet_nil ?_
      rintro W9 ⟨p9, hW9⟩
      have L9' := Lib.hid (show Low V4 W9 by rw [hW9]; exact p9.ok)
      clear hW9 p9 CJK this
      go_wp2_with fail
      go_ret
      exact ⟨rfl, (LU.out.trans LV4.out).trans L9'.out⟩

end Go.Proofs.Ytjipncpgmajeeaa
