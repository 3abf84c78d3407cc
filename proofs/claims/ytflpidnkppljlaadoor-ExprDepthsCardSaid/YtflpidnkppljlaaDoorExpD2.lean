/- What stands behind a dot, with a parenthesis. Condition: as in the texts that are imported. -/
import Derived.Test.YtflpidnkppljlaaDoorExD
import Derived.Deep.RegionLaw
import Derived.Deep.DeepCutAuto
import Derived.Deep.CutRange
set_option linter.unusedVariables false
set_option linter.unnecessarySimpa false
set_option linter.unusedSimpArgs false
namespace Go.Proofs.YtflpidnkppljlaaDoor
open Go.RowKit
section
variable {b : Nat} {ao : Option Addr} {cap : Nat} {l : List Wd}
set_option maxHeartbeats 16000000 in
set_option maxRecDepth 100000 in
theorem dot_call (hl : l.length ≤ 70000) {d f : Nat} {n : Nat} {A : Nat → Prop} (x0 : Ex) (p0 : Pl) (w : World) (hA : ∀ g, w.heap.size ≤ g → A g) (hAb : ∀ g, A g → g ≠ b) (hx : XAt A w x0 p0) (h : St b ao cap l (d : Int) (.ok () (n : Int)) w) {T : List UInt8} {m : Nat} (hT : textW l 1 (n : Int) = .ok T (m : Int)) (hm : m < l.length) (hq : isW l (m : Int) 5 [40] = true) (ho : metN T ≠ 0) (i0 : RuleC b ao cap l 18 0 f d) (hms : Ms l f 0 (.ok () ((m : Int) + 1))) :
    Calls Tryd.prog 82 #[.pointer (some ⟨b, 0, none⟩), exv x0 p0] w (RuleA A b ao cap l (d : Int) (dotR l f d x0 (n : Int)) w) := by
  have HBW := Lib.hid (st_lt h)
  have HAN := Lib.hid hA
  have HAB := Lib.hid hAb
  obtain ⟨R1, hR1⟩ : ∃ R1, R1 = textW l 1 (n : Int) := ⟨_, rfl⟩
  have HT1 := Lib.hid (show ((Rd.ok () (n : Int)).then fun _ a => textW l 1 a) = R1 from hR1.symm)
  obtain ⟨W0, hW0⟩ : ∃ W0, W0 = (w.alloc (.cells #[.int .i64 x0.op, .int .i64 x0.v.k, .bool x0.v.b, .int .i64 x0.v.n, .string ⟨x0.v.s.toArray⟩, .string ⟨x0.v.t.toArray⟩, .string ⟨x0.v.i.toArray⟩, .slice none 0 0, .slice none 0 0, .string ⟨x0.nm.toArray⟩, .slice p0.ka x0.ks.length p0.kc, .slice p0.na x0.ns.length p0.nc] 30)).alloc (.cells #[.int .i64 0, .int .i64 0, .bool false, .int .i64 0, .string ⟨#[]⟩, .string ⟨#[]⟩, .string ⟨#[]⟩, .slice none 0 0, .slice none 0 0, .string ⟨#[]⟩, .slice none 0 0, .slice none 0 0] 30) := ⟨_, rfl⟩
  have LW := Lib.hid (show Low w W0 by rw [hW0]; exact low_new (low_new (Low.refl _) _) _)
  have HSZ := Lib.hid (show W0.heap.size = w.heap.size + 1 + 1 by rw [hW0]; simp)
  have ST0 := Lib.hid (h.low LW.out)
  have XA0 := Lib.hid (hx.apart.low LW.out)
  have BX0 := Lib.hid (show BoxE w.heap.size x0 p0 W0 by rw [hW0]; exact (BoxE.new w x0 p0 _).low (low_new (Low.refl _) _))
  have BZ0 := Lib.hid fun W (k : Lx b W0 W) => dot_box hW0 k HBW.out
  rw [hT] at hR1
  have HQ := Lib.hid (show tkB l R1.unit 5 [40] = true by rw [hR1]; exact hq)
  have HI := Lib.hid i0
  have HMS := Lib.hid hms
  obtain ⟨R2, hR2⟩ : ∃ R2, R2 = rdE l f 0 d ((m : Int) + 1) := ⟨_, rfl⟩
  have HR := Lib.hid (show dotR l f d x0 (n : Int) = R2.then fun y n => (mustW l 5 [41] n).then fun _ n => .ok (nodE (metN T) [x0, y]) n by unfold dotR; rw [hT]; simp only [Rd.then]; rw [if_pos hq, if_neg ho, ← hR2]; try rfl)
  have HEQ := Lib.hid (show (dotR l f d x0 (n : Int)).unit = mustS l R2.unit 5 [41] ∧ ∀ v k, dotR l f d x0 (n : Int) = .ok v k → ∃ y j, R2 = .ok y j ∧ v = nodE (metN T) [x0, y] by
    rw [HR.out]
    unfold mustS
    cases R2 with
    | bad e p => exact ⟨rfl, fun v k h => by cases h⟩
    | ok y j =>
      simp only [Rd.then, Rd.unit]
      cases mustW l 5 [41] j with
      | bad e p => exact ⟨rfl, fun v k h => by cases h⟩
      | ok u j2 => exact ⟨rfl, fun v k h => ⟨y, j, rfl, by injection h with h; exact h.symm⟩⟩)
  have E2 := Lib.hid (show ((Rd.ok () ((m : Int) + 1)).then fun _ a => rdE l f 0 d a) = R2 from hR2.symm)
  have HGL := Lib.hid (show R1.getL = T by rw [hR1]; rfl)
  have HUN := Lib.hid (show R1.unit = .ok () (m : Int) by rw [hR1]; rfl)
  have HO := Lib.hid ho
  clear h hx hA hAb hR1 hR2 hT hq ho i0 hms
  unfold exv
  go_enter Tryd.func82, Tryd.ntmps82
  go_wp2_with fail
  rw [← hW0]
  clear hW0
  refine (text_c hl 1 (by decide) _ ST0.out).mono ?_
  rintro e w1 ⟨rfl, s1, l1⟩
  rw [HT1.out] at s1 ⊢
  have S1 := Lib.hid s1
  have L1 := Lib.hid l1
  have X1 := Lib.hid (XA0.out.lx l1 (fun g hg => HAB.out g hg.1))
  have B1 := Lib.hid (BX0.out.lx l1 (by have := HBW.out; omega))
  clear s1 l1
  go_wp2_with fail
  refine (word_c hl _ S1.out).mono ?_
  rintro e w2 ⟨rfl, l2⟩
  have S2 := Lib.hid (S1.out.low l2)
  have L2 := Lib.hid (L1.out.low' l2)
  have X2 := Lib.hid (X1.out.low l2)
  have B2 := Lib.hid (B1.out.low l2)
  clear l2
  obtain ⟨y, hy⟩ : ∃ y, wdK l R1.unit 0 = y := ⟨_, rfl⟩
  rw [hy]
  have hq3 : (y.k == 5 && y.t == [40]) = true := by rw [← hy, ← tkB_wd (by decide)]; exact HQ.out
  have HQ3 := Lib.hid hq3
  have HY := Lib.hid hy
  clear hq3 hy
  unfold wv
  go_wp2_with fail
  refine (isMark_c y [40] _).mono ?_
  rintro e w3 ⟨rfl, l3⟩
  rw [HQ3.out]
  have S3 := Lib.hid (S2.out.low ((low_new (Low.refl _) _).trans l3))
  have L3 := Lib.hid (L2.out.low' ((low_new (Low.refl _) _).trans l3))
  have X3 := Lib.hid (X2.out.low ((low_new (Low.refl _) _).trans l3))
  have B3 := Lib.hid (B2.out.low ((low_new (Low.refl _) _).trans l3))
  obtain ⟨yk, yt, yn, ya⟩ := y
  obtain ⟨v0, v1, v2, v3⟩ := word_box (Low.refl _) l3
  rw [HGL.out]
  clear l3
  go_wp2_with fail
  refine (method_c T _).mono ?_
  rintro e w4 ⟨rfl, rfl⟩
  have z0 : (metN T == 0) = false := by simpa using HO.out
  obtain ⟨o, ho⟩ : ∃ o, metN T = o := ⟨_, rfl⟩
  rw [ho] at z0 ⊢
  have HO2 := Lib.hid ho
  clear ho v0 v1 v2 v3
  have HMU := Lib.hid (show mustS l R1.unit 5 [40] = .ok () ((m : Int) + 1) by rw [HUN.out, ← mustS_yes (by rw [← HUN.out]; exact HQ.out)]; exact if_pos (show isW l (m : Int) 5 [40] = true by have := HQ.out; rw [HUN.out] at this; exact this))
  go_wp2_with fail
  refine (must_c hl 5 (by decide) [40] _ S3.out).mono ?_
  rintro e w5 ⟨rfl, s5, l5⟩
  rw [HMU.out] at s5
  have S5 := Lib.hid s5
  have L5 := Lib.hid (L3.out.trans l5)
  have X5 := Lib.hid (X3.out.lx l5 (fun g hg => HAB.out g hg.1))
  have B5 := Lib.hid (B3.out.lx l5 (by have := HBW.out; omega))
  clear s5 l5
  obtain ⟨⟨b0, b1, b2, b3, b4, b5, b6, b7, b8, b9, b10, b11⟩, -⟩ := B5.out
  have HW5 := Lib.hid (show w.heap.size + 1 + 1 ≤ w5.heap.size by have := L5.out.size; have := HSZ.out; omega)
  have HC := Lib.hid fun W (hs : St b ao cap l (d : Int) (.ok () ((m : Int) + 1)) W) => HI.out _ W hs HMS.out
  rw [E2.out] at HC
  have HNE := Lib.hid (show w.heap.size ≠ b by have := HBW.out; omega)
  have HBW5 := Lib.hid (show b < w5.heap.size by have := HW5.out; have := HBW.out; omega)
  obtain ⟨m0, m1, m2, m3, m4, m5, m6, m7, m8, m9, m10, m11⟩ := B5.out.allX
  go_upto_region 10 with fail
  go_cut [8] from 28 to 33 (fun v8 wx => ∃ (kb : Nat) (px : Pl) (y : Ex), v8 = .pointer (some ⟨kb, 0, none⟩) ∧ Hid (BoxE kb (nodE o [x0, y]) px wx) ∧ Hid (XAt (Ap2 A w.heap.size) wx (nodE o [x0, y]) px) ∧ Hid (St b ao cap l (d : Int) R2.unit wx) ∧ Hid (Lx b W0 wx) ∧ Hid (kb ≠ b) ∧ Hid (∀ y' n, R2 = .ok y' n → y = y'))
  case first =>
   go_wp2_with fail
   go_region_law (first
    | (go_simp; go_at_call 18; (refine (HC.out _ ?hL).mono ?_); (case hL => first | exact S5.out.low (Low.of_drew ⟨1, rfl⟩) | exact S5.out.low ((low_new (Low.refl _) _).trans (Low.of_drew ⟨1, rfl⟩))); rintro e w6 ⟨y, q, rfl, y6, s6, l6, ok6⟩; have S6 := Lib.hid s6; have L6 := Lib.hid (dot_lx L5.out l6); have XK := Lib.hid (dot_x X5.out.ltE (fun g hg => HAB.out g hg.1.1) l6); have B6 := Lib.hid (dot_b B5.out HNE.out l6); have OK6 := Lib.hid ok6; have K6 := Lib.hid l6; have HW6 := Lib.hid (dot_sz (w5 := w5) l6); have YK0 := Lib.hid y6; obtain ⟨⟨d0, d1, d2, d3, d4, d5, d6, d7, d8, d9, d10, d11⟩, -⟩ := B6.out; obtain ⟨n0, n1, n2, n3, n4, n5, n6, n7, n8, n9, n10, n11⟩ := B6.out.allX; clear y6 s6 l6 ok6; unfold exv)
    | (go_simp; go_at_call 48; (with_reducible refine (node_c _ _ _ _ _).mono ?_); rintro e w7 ⟨rfl, l7⟩; (first
        | (have BQ := Lib.hid (dot_z3 l7); have LQ7 := Lib.hid (low_of2 l7); have YK := Lib.hid (YK0.out.ltN (n5 := w5.heap.size) (P := fun _ => True) (fun g hg => HAN.out g (by have := HW5.out; omega)) (fun g hg => ⟨hg, trivial⟩) HW5.out); have XQ := Lib.hid ((dot_node w6 (w6.heap.size + 1) XK.out YK.out HW6.out (fun g hg => by have := HW6.out; omega) (fun g _ hg _ => by omega) (by omega) (fun g hg => HAN.out g (by have := HW5.out; omega)) HW5.out o _ rfl).low (low_ofm l7)); have GE := Lib.hid (show w.heap.size + 1 + 1 ≤ w6.heap.size + 1 by have := HW5.out; have := HW6.out; omega))
        | (have BQ := Lib.hid (dot_z2 l7); have LQ7 := Lib.hid (low_of2 l7); have YK := Lib.hid (YK0.out.ltN (n5 := w5.heap.size) (P := fun _ => True) (fun g hg => HAN.out g (by have := HW5.out; omega)) (fun g hg => ⟨hg, trivial⟩) HW5.out); have XQ := Lib.hid ((dot_node (w6.alloc (.cells #[.int .i64 0, .int .i64 0, .bool false, .int .i64 0, .string ⟨#[]⟩, .string ⟨#[]⟩, .string ⟨#[]⟩, .slice none 0 0, .slice none 0 0, .string ⟨#[]⟩, .slice none 0 0, .slice none 0 0] 30)) w6.heap.size (XK.out.low (low_new (Low.refl w6) (.cells #[.int .i64 0, .int .i64 0, .bool false, .int .i64 0, .string ⟨#[]⟩, .string ⟨#[]⟩, .string ⟨#[]⟩, .slice none 0 0, .slice none 0 0, .string ⟨#[]⟩, .slice none 0 0, .slice none 0 0] 30))) (YK.out.low (low_new (Low.refl w6) (.cells #[.int .i64 0, .int .i64 0, .bool false, .int .i64 0, .string ⟨#[]⟩, .string ⟨#[]⟩, .string ⟨#[]⟩, .slice none 0 0, .slice none 0 0, .string ⟨#[]⟩, .slice none 0 0, .slice none 0 0] 30))) (by have := HW6.out; simp; omega) (fun g hg => by have := HW6.out; omega) (fun g _ hg _ => by omega) (by simp) (fun g hg => HAN.out g (by have := HW5.out; omega)) HW5.out o (w6.heap.size + 1) (by simp)).low l7); have GE := Lib.hid (show w.heap.size + 1 + 1 ≤ w6.heap.size by have := HW5.out; have := HW6.out; omega))
        | (have BQ := Lib.hid ((dot_z1 K6.out HBW5.out).low (low_of1 l7)); have LQ7 := Lib.hid (low_of1 l7); have YK := Lib.hid (YK0.out.ltN (n5 := w5.heap.size) (P := fun g => g ≠ w5.heap.size) (fun g hg => HAN.out g (by have := HW5.out; omega)) (fun g hg => by have hg : (w5.alloc _).drew.heap.size ≤ g := hg; have e : (w5.alloc (.cells #[.int .i64 0, .int .i64 0, .bool false, .int .i64 0, .string ⟨#[]⟩, .string ⟨#[]⟩, .string ⟨#[]⟩, .slice none 0 0, .slice none 0 0, .string ⟨#[]⟩, .slice none 0 0, .slice none 0 0] 30)).drew.heap.size = w5.heap.size + 1 := (by simp); exact ⟨by omega, by omega⟩) HW5.out); have XQ := Lib.hid ((dot_node w6 w5.heap.size XK.out YK.out HW6.out (fun g hg => by omega) (fun g _ _ hg => hg) (by have := (dot_z1 K6.out HBW5.out).lt; omega) (fun g hg => HAN.out g (by have := HW5.out; omega)) HW5.out o _ rfl).low l7); have GE := Lib.hid (show w.heap.size + 1 + 1 ≤ w5.heap.size from HW5.out))
        | (have LQ7 := Lib.hid (low_of1 l7); have YK := Lib.hid (YK0.out.ltN (n5 := w5.heap.size) (P := fun _ => True) (fun g hg => HAN.out g (by have := HW5.out; omega)) (fun g hg => ⟨hg, trivial⟩) HW5.out); have XQ := Lib.hid ((dot_node w6 (w6.heap.size + 1) XK.out YK.out HW6.out (fun g hg => by have := HW6.out; omega) (fun g _ hg _ => by omega) (by omega) (fun g hg => HAN.out g (by have := HW5.out; omega)) HW5.out o _ rfl).low l7))); have SQ := Lib.hid (S6.out.low LQ7.out); have LQ := Lib.hid (L6.out.low' LQ7.out); (try (obtain ⟨⟨e0, e1, e2, e3, e4, e5, e6, e7, e8, e9, e10, e11⟩, fz⟩ := BQ.out)); clear l7; unfold ndv))
   all_goals
    go_wp2_with fail
    go_meet
    case rel =>
     first
      | (have bq := BQ.out; clear bq; refine ⟨_, _, y, rfl, ?_, Lib.hid ((tow_xa XQ.out (fun g hg => hg.2)).base fun g hg => hg.1), Lib.hid (tow_stk (w0 := w) SQ.out HBW.out (by have := GE.out; omega)), ?_, ?_, OK6⟩; rotate_left; exact Lib.hid (tow_lxk LQ.out (by have := GE.out; have := HSZ.out; omega)); exact Lib.hid (by have := GE.out; have := HBW.out; omega); exact Lib.hid (BoxE.putNode BQ.out _ _ _ _))
      | exact ⟨_, _, y, rfl, Lib.hid (BoxE.new w7 (nodE o [x0, y]) _ _), Lib.hid ((XQ.out.low (low_new (Low.refl _) _)).base fun g hg => hg.1), Lib.hid (SQ.out.new _), Lib.hid (LQ.out.alloc _), Lib.hid (by have := LQ7.out.size; have := HW6.out; have := HBW5.out; omega), OK6⟩
  case rest =>
    obtain ⟨kb, px, y, rfl, BN, XN, SN, LN, KN, OKN⟩ := hcut
    obtain ⟨wn, hwn⟩ : ∃ W, W = wc := ⟨_, rfl⟩
    subst hwn
    clear b0 b1 b2 b3 b4 b5 b6 b7 b8 b9 b10 b11 m0 m1 m2 m3 m4 m5 m6 m7 m8 m9 m10 m11
    go_wp2_with fail
    refine (must_c hl 5 (by decide) [41] _ SN.out).mono ?_
    rintro e w8 ⟨rfl, s8, l8⟩
    have S8 := Lib.hid s8
    have L8 := Lib.hid (LN.out.trans l8)
    have X8 := Lib.hid (XN.out.lx l8 (fun g hg => HAB.out g hg.1))
    have B8 := Lib.hid (BN.out.lx l8 KN.out)
    clear s8 l8
    obtain ⟨⟨b0, b1, b2, b3, b4, b5, b6, b7, b8, b9, b10, b11⟩, -⟩ := B8.out
    obtain ⟨⟨c0, c1, c2, c3, c4, c5, c6, c7, c8, c9, c10, c11⟩, fz⟩ := BZ0.out w8 L8.out
    go_wp2_with fail
    obtain ⟨E0, E1, E2, E3, E4, E5, E6, E7, E8, E9, E10, E11⟩ := put12 c0 c1 c2 c3 c4 c5 c6 c7 c8 c9 c10 c11
    refine bodyPost_ret (v := .agg #[.int .i64 (nodE o [x0, y]).op, .int .i64 (nodE o [x0, y]).v.k, .bool (nodE o [x0, y]).v.b, .int .i64 (nodE o [x0, y]).v.n, .string ⟨(nodE o [x0, y]).v.s.toArray⟩, .string ⟨(nodE o [x0, y]).v.t.toArray⟩, .string ⟨(nodE o [x0, y]).v.i.toArray⟩, .slice none 0 0, .slice none 0 0, .string ⟨(nodE o [x0, y]).nm.toArray⟩, .slice (px).ka (nodE o [x0, y]).ks.length (px).kc, .slice (px).na (nodE o [x0, y]).ns.length (px).nc]) (by simp [results, Tryd.results82, go_sem, E0, E1, E2, E3, E4, E5, E6, E7, E8, E9, E10, E11]) rfl ?_
    exact ⟨nodE o [x0, y], px, rfl, (tow_xa X8.out (fun g hg => hg.2.2)).base (fun g hg => hg.1), by rw [HEQ.out.1]; exact tow_stk (w0 := w) S8.out HBW.out (Nat.le_succ _), tow_lxk ((Lx.of_low LW.out).trans L8.out) (Nat.le_succ _), fun v m h => by obtain ⟨y1, j, h1, h2⟩ := HEQ.out.2 v m h; rw [h2, ← OKN.out y1 j h1]; rw [HO2.out]⟩
end
end Go.Proofs.YtflpidnkppljlaaDoor
