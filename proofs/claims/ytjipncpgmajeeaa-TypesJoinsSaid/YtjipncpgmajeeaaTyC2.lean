/- fit answers; the law TypesBelow walked. No condition. -/
import Derived.Test.YtjipncpgmajeeaaTyAw
import Derived.Test.YtjipncpgmajeeaaTyOp
namespace Go.Proofs.Ytjipncpgmajeeaa
open Go.RowKit
set_option maxHeartbeats 3200000 in
theorem rSame_c {A A' : Nat → Prop} {n : Nat} (a b : T) (w : World) (e v e' v' : Value) (ha : RT A w n a e v) (hb : RT A' w n b e' v') (ma : mayB n a = true) (mb : mayB n b = true) : Calls Try.prog 19 #[tv a e v, tv b e' v'] w fun e w' => e = .returned (.bool (smB n a b)) ∧ Low w w' := by
  obtain ⟨pe, ce, pv, cv, rfl, rfl, z1, z2, z3, z4⟩ := ha.sl
  obtain ⟨pe', ce', pv', cv', rfl, rfl, z1', z2', z3', z4'⟩ := hb.sl
  obtain ⟨U, hU⟩ : ∃ U, U = (w.alloc (.cells #[.int .i64 a.k, .string a.n, .slice pe a.l.length ce, .slice pv a.ats.length cv] 25)).alloc (.cells #[.int .i64 b.k, .string b.n, .slice pe' b.l.length ce', .slice pv' b.ats.length cv'] 25) := ⟨_, rfl⟩
  have LU := Lib.hid (show Low w U by rw [hU]; exact low_new (low_new (Low.refl w) _) _)
  have FU := Lib.hid (fun W (h : Low U W) => low_box2 (w := w) (wr := W) (hU ▸ h))
  have HD1 := Lib.hid (rBelow_c n A A' a b U _ _ _ _ (ha.low LU.out) (hb.low LU.out) ma mb)
  have HD2 := Lib.hid fun W (l : Low U W) => rBelow_c n A' A b a W _ _ _ _ (hb.low (LU.out.trans l)) (ha.low (LU.out.trans l)) mb ma
  have HU := Lib.hid hU
  rw [smB_bel n a b]
  obtain ⟨p, hp⟩ : ∃ p, p = belB n a b := ⟨_, rfl⟩
  obtain ⟨q, hq⟩ : ∃ p, p = belB n b a := ⟨_, rfl⟩
  rw [← hp] at HD1 ⊢
  rw [← hq] at HD2 ⊢
  unfold tv at *
  clear ha hb ma mb hU hp hq
  go_enter Try.func19, Try.ntmps19
  go_upto_region 1 with fail
  rw [← HU.out]
  obtain ⟨⟨f0, f1, f2, f3⟩, i0, i1, i2, i3⟩ := FU.out U (Low.refl U)
  go_wp2_with fail
  refine HD1.out.mono ?_
  rintro e w1 ⟨rfl, l1⟩
  have L1 := Lib.hid (LU.out.trans l1)
  have HD3 := Lib.hid (HD2.out w1 l1)
  clear f0 f1 f2 f3 i0 i1 i2 i3
  obtain ⟨⟨f0, f1, f2, f3⟩, i0, i1, i2, i3⟩ := FU.out w1 l1
  clear l1 HD1 HD2
  cases p with
  | false =>
    go_wp2_with fail
    go_ret
    exact ⟨rfl, L1.out⟩
  | true =>
    go_wp2_with fail
    refine HD3.out.mono ?_
    rintro e w2 ⟨rfl, l2⟩
    have L2 := Lib.hid (L1.out.trans l2)
    clear l2 HD3 f0 f1 f2 f3 i0 i1 i2 i3
    go_wp2_with fail
    go_ret
    exact ⟨rfl, L2.out⟩
/-- What fit's yes says. -/
structure Fit (a : T) : Prop where
  sm : Sm 61 a
  may : mayB 61 a = true
  dp : dpt 61 a ≤ 50
def FitP (a b : T) (w : World) (e : Ending) (w' : World) : Prop := ∃ q : Bool, e = .returned (.bool q) ∧ (q = true → Fit a ∧ Fit b) ∧ Low w w'
set_option maxHeartbeats 6400000 in
set_option maxRecDepth 100000 in
theorem fit_c {A A' : Nat → Prop} {n m : Nat} (a b : T) (w : World) (e v e' v' : Value) (ha : RT A w n a e v) (hb : RT A' w m b e' v') : Calls Try.prog 15 #[tv a e v, tv b e' v'] w (FitP a b w) := by
  obtain ⟨pe, ce, pv, cv, rfl, rfl, z1, z2, z3, z4⟩ := ha.sl
  obtain ⟨pe', ce', pv', cv', rfl, rfl, z1', z2', z3', z4'⟩ := hb.sl
  obtain ⟨U, hU⟩ : ∃ U, U = (w.alloc (.cells #[.int .i64 a.k, .string a.n, .slice pe a.l.length ce, .slice pv a.ats.length cv] 25)).alloc (.cells #[.int .i64 b.k, .string b.n, .slice pe' b.l.length ce', .slice pv' b.ats.length cv'] 25) := ⟨_, rfl⟩
  have LU := Lib.hid (show Low w U by rw [hU]; exact low_new (low_new (Low.refl w) _) _)
  have FU := Lib.hid (fun W (h : Low U W) => low_box2 (w := w) (wr := W) (hU ▸ h))
  have HF1 := Lib.hid (few_c a 0 U _ _ (by omega) (ha.low LU.out))
  have HF2 := Lib.hid fun W (l : Low U W) => few_c b 0 W _ _ (by omega) (hb.low (LU.out.trans l))
  have HZ1 := Lib.hid fun W (l : Low U W) => size_n n A a W _ _ (ha.low (LU.out.trans l))
  have HZ2 := Lib.hid fun W (l : Low U W) => size_n m A' b W _ _ (hb.low (LU.out.trans l))
  have HC1 := Lib.hid fun W (l : Low U W) (s : Sm 61 a) => rCheck_c (by omega : 61 ≤ 1000000) a W _ _ (RT.re s.dp (ha.low (LU.out.trans l)))
  have HC2 := Lib.hid fun W (l : Low U W) (s : Sm 61 b) => rCheck_c (by omega : 61 ≤ 1000000) b W _ _ (RT.re s.dp (hb.low (LU.out.trans l)))
  have HU := Lib.hid hU
  unfold tv at *
  clear ha hb hU
  go_enter Try.func15, Try.ntmps15
  go_upto_region 1 with fail
  rw [← HU.out]
  obtain ⟨⟨f0, f1, f2, f3⟩, i0, i1, i2, i3⟩ := FU.out U (Low.refl U)
  go_wp2_with fail
  refine HF1.out.mono ?_
  rintro e w1 ⟨x, rfl, hx, l1⟩
  have L1 := Lib.hid l1
  have HX := Lib.hid hx
  clear f0 f1 f2 f3 i0 i1 i2 i3
  obtain ⟨⟨f0, f1, f2, f3⟩, i0, i1, i2, i3⟩ := FU.out w1 l1
  have HF3 := Lib.hid (HF2.out w1 l1)
  clear l1 hx HF1 HF2
  go_wp2_with fail
  refine HF3.out.mono ?_
  rintro e w2 ⟨y, rfl, hy, l2⟩
  have L2 := Lib.hid (L1.out.trans l2)
  have HY := Lib.hid hy
  clear f0 f1 f2 f3 i0 i1 i2 i3 l2 hy HF3
  obtain ⟨⟨f0, f1, f2, f3⟩, i0, i1, i2, i3⟩ := FU.out w2 L2.out
  cases x with
  | false =>
    go_wp2_with fail
    go_ret
    exact ⟨false, rfl, fun h => by simp at h, LU.out.trans L2.out⟩
  | true =>
    cases y with
    | false =>
      go_wp2_with fail
      go_ret
      exact ⟨false, rfl, fun h => by simp at h, LU.out.trans L2.out⟩
    | true =>
      have HSA := Lib.hid (HX.out (by first | rfl | trivial)).2
      have HSB := Lib.hid (HY.out (by first | rfl | trivial)).2
      have HZ3 := Lib.hid (HZ1.out w2 L2.out)
      clear HX HY HZ1
      go_wp2_with fail
      refine HZ3.out.mono ?_
      rintro e w3 ⟨p, rfl, l3⟩
      have L3 := Lib.hid (L2.out.trans l3)
      clear f0 f1 f2 f3 i0 i1 i2 i3 l3 HZ3
      by_cases hp : p < 300
      case neg =>
        go_wp2_with fail
        go_ret
        exact ⟨false, rfl, fun h => by simp at h, LU.out.trans L3.out⟩
      obtain ⟨⟨f0, f1, f2, f3⟩, i0, i1, i2, i3⟩ := FU.out w3 L3.out
      have HZ4 := Lib.hid (HZ2.out w3 L3.out)
      clear HZ2
      go_wp2_with fail
      refine HZ4.out.mono ?_
      rintro e w4 ⟨p2, rfl, l4⟩
      have L4 := Lib.hid (L3.out.trans l4)
      clear f0 f1 f2 f3 i0 i1 i2 i3 l4 HZ4
      by_cases hp2 : p2 < 300
      case neg =>
        go_wp2_with fail
        go_ret
        exact ⟨false, rfl, fun h => by simp at h, LU.out.trans L4.out⟩
      obtain ⟨⟨f0, f1, f2, f3⟩, i0, i1, i2, i3⟩ := FU.out w4 L4.out
      have HC3 := Lib.hid (HC1.out w4 L4.out HSA.out)
      obtain ⟨r, hr⟩ : ∃ r, r = chkE 61 a := ⟨_, rfl⟩
      rw [← hr] at HC3
      have HR := Lib.hid hr
      clear hr HC1
      go_wp2_with fail
      refine HC3.out.mono ?_
      rintro e w5 ⟨rfl, l5⟩
      have L5 := Lib.hid (L4.out.trans l5)
      clear f0 f1 f2 f3 i0 i1 i2 i3 l5 HC3
      by_cases hr0 : r = 0
      case neg =>
        have br := beq_f hr0
        clear hr0
        go_wp2_with fail
        go_ret
        exact ⟨false, rfl, fun h => by simp at h, LU.out.trans L5.out⟩
      subst hr0
      obtain ⟨⟨f0, f1, f2, f3⟩, i0, i1, i2, i3⟩ := FU.out w5 L5.out
      have HC4 := Lib.hid (HC2.out w5 L5.out HSB.out)
      obtain ⟨r2, hr2⟩ : ∃ r, r = chkE 61 b := ⟨_, rfl⟩
      rw [← hr2] at HC4
      have HR2 := Lib.hid hr2
      clear hr2 HC2
      go_wp2_with fail
      refine HC4.out.mono ?_
      rintro e w6 ⟨rfl, l6⟩
      have L6 := Lib.hid (L5.out.trans l6)
      clear f0 f1 f2 f3 i0 i1 i2 i3 l6 HC4
      by_cases hr0 : r2 = 0
      case neg =>
        have br := beq_f hr0
        clear hr0
        go_wp2_with fail
        go_ret
        exact ⟨false, rfl, fun h => by simp at h, LU.out.trans L6.out⟩
      subst hr0
      go_wp2_with fail
      go_ret
      exact ⟨true, rfl, fun _ => ⟨⟨HSA.out, (chkE_ok.1 HR.out.symm).2, (chkE_ok.1 HR.out.symm).1⟩, ⟨HSB.out, (chkE_ok.1 HR2.out.symm).2, (chkE_ok.1 HR2.out.symm).1⟩⟩, LU.out.trans L6.out⟩
set_option maxHeartbeats 6400000 in
set_option maxRecDepth 100000 in
theorem typesBelow_v (n : Nat) (a : T) (m : Nat) (b : T) (w : World) (e v e' v' : Value) (ha : RT (fun _ => True) w n a e v) (hb : RT (fun _ => True) w m b e' v') : Calls Try.prog 4 #[tv a e v, tv b e' v'] w fun e w' => e = .returned (.bool true) ∧ Low w w' := by
  obtain ⟨pe, ce, pv, cv, rfl, rfl, z1, z2, z3, z4⟩ := ha.sl
  obtain ⟨pe', ce', pv', cv', rfl, rfl, z1', z2', z3', z4'⟩ := hb.sl
  obtain ⟨U, hU⟩ : ∃ U, U = (w.alloc (.cells #[.int .i64 a.k, .string a.n, .slice pe a.l.length ce, .slice pv a.ats.length cv] 25)).alloc (.cells #[.int .i64 b.k, .string b.n, .slice pe' b.l.length ce', .slice pv' b.ats.length cv'] 25) := ⟨_, rfl⟩
  have LU := Lib.hid (show Low w U by rw [hU]; exact low_new (low_new (Low.refl w) _) _)
  have FU := Lib.hid (fun W (h : Low U W) => low_box2 (w := w) (wr := W) (hU ▸ h))
  have HAw := Lib.hid (awake11_c U)
  have HF := Lib.hid fun W (l : Low U W) => fit_c a b W _ _ _ _ (ha.low (LU.out.trans l)) (hb.low (LU.out.trans l))
  have HTA := Lib.hid ha
  have HTB := Lib.hid hb
  have HU := Lib.hid hU
  unfold tv at *
  clear ha hb hU
  go_enter Try.func4, Try.ntmps4
  go_upto_region 1 with fail
  rw [← HU.out]
  go_wp2_with fail
  refine HAw.out.mono ?_
  rintro e w1 ⟨rfl, l1⟩
  have L1 := Lib.hid l1
  obtain ⟨⟨f0, f1, f2, f3⟩, i0, i1, i2, i3⟩ := FU.out w1 l1
  have HF1 := Lib.hid (HF.out w1 l1)
  clear l1 HAw HF HU
  go_wp2_with fail
  refine HF1.out.mono ?_
  rintro e w2 ⟨q, rfl, hq, l2⟩
  have L2 := Lib.hid (L1.out.trans l2)
  have HQ := Lib.hid hq
  clear f0 f1 f2 f3 i0 i1 i2 i3 l2 hq HF1
  cases q with
  | false =>
    go_wp2_with fail
    go_ret
    exact ⟨rfl, LU.out.trans L2.out⟩
  | true =>
    obtain ⟨hA, hB⟩ := HQ.out (by first | rfl | trivial)
    have HA := Lib.hid hA
    have HB := Lib.hid hB
    clear hA hB HQ
    have RA := Lib.hid (show RT (fun _ => True) w 61 a (.slice pe a.l.length ce) (.slice pv a.ats.length cv) from RT.re HA.out.sm.dp HTA.out)
    have RB := Lib.hid (show RT (fun _ => True) w 61 b (.slice pe' b.l.length ce') (.slice pv' b.ats.length cv') from RT.re HB.out.sm.dp HTB.out)
    clear HTA HTB
    obtain ⟨x, hx⟩ : ∃ x, x = belB 61 a b := ⟨_, rfl⟩
    obtain ⟨y, hy⟩ : ∃ x, x = smB 61 a b := ⟨_, rfl⟩
    have C1 := Lib.hid fun p : InL w2 => Calls.low p (Below_c a b p.w _ _ _ _ (by omega) (RA.out.low ((LU.out.trans L2.out).trans p.ok)) (RB.out.low ((LU.out.trans L2.out).trans p.ok)) HA.out.sm HB.out.sm HA.out.may HB.out.may)
    have C2 := Lib.hid fun p : InL w2 => Calls.low p (rBelow_c 61 _ _ a b p.w _ _ _ _ (RA.out.low ((LU.out.trans L2.out).trans p.ok)) (RB.out.low ((LU.out.trans L2.out).trans p.ok)) HA.out.may HB.out.may)
    have C3 := Lib.hid fun p : InL w2 => Calls.low p (Same_c a b p.w _ _ _ _ (by omega) (RA.out.low ((LU.out.trans L2.out).trans p.ok)) (RB.out.low ((LU.out.trans L2.out).trans p.ok)) HA.out.sm HB.out.sm HA.out.may HB.out.may)
    have C4 := Lib.hid fun p : InL w2 => Calls.low p (rSame_c a b p.w _ _ _ _ (RA.out.low ((LU.out.trans L2.out).trans p.ok)) (RB.out.low ((LU.out.trans L2.out).trans p.ok)) HA.out.may HB.out.may)
    rw [← hx] at C1 C2
    rw [← hy] at C3 C4
    unfold tv at C1 C2 C3 C4
    clear hx hy
    obtain ⟨⟨f0, f1, f2, f3⟩, i0, i1, i2, i3⟩ := FU.out w2 L2.out
    have f0 := fun p : InL w2 => p.cell f0
    have f1 := fun p : InL w2 => p.cell f1
    have f2 := fun p : InL w2 => p.cell f2
    have f3 := fun p : InL w2 => p.cell f3
    have i0 := fun p : InL w2 => p.cell i0
    have i1 := fun p : InL w2 => p.cell i1
    have i2 := fun p : InL w2 => p.cell i2
    have i3 := fun p : InL w2 => p.cell i3
    haveI := InL.some w2
    cases x <;> cases y
    all_goals
      go_wp2_with fail
      refine wp_region_low mixedT (by kernel_rfl) ?_
      repeat (go_big_quiet_step (first | (with_reducible exact C1.out _) | (with_reducible exact C2.out _) | (with_reducible exact C3.out _) | (with_reducible exact C4.out _)))
      refine wpQuiet_nil ?_
      rintro W8 ⟨p8, hW8⟩
      have L8 := Lib.hid (show Low w2 W8 by rw [hW8]; exact p8.ok)
      clear hW8 p8 C1 C2 C3 C4 f0 f1 f2 f3 i0 i1 i2 i3 this
      go_wp2_with fail
      go_ret
      exact ⟨rfl, (LU.out.trans L2.out).trans L8.out⟩
end Go.Proofs.Ytjipncpgmajeeaa
