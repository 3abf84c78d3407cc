/- The law TypesChecks walked. No condition. -/
import Derived.Test.YtjipncpgmajeeaaTyAw
import Derived.Test.YtjipncpgmajeeaaTyOp
namespace Go.Proofs.Ytjipncpgmajeeaa
open Go.RowKit
set_option maxHeartbeats 6400000 in
set_option maxRecDepth 100000 in
theorem typesChecks_v (n : Nat) (t : T) (s : ByteArray) (w : World) (e v : Value) (h : RT (fun _ => True) w n t e v) : Calls Try.prog 3 #[tv t e v, .string s] w fun e w' => e = .returned (.bool true) ∧ Low w w' := by
  obtain ⟨pe, ce, pv, cv, rfl, rfl, z1, z2, z3, z4⟩ := h.sl
  obtain ⟨U, hU⟩ : ∃ U, U = w.alloc (box4 t pe ce pv cv) := ⟨_, rfl⟩
  have LU := Lib.hid (show Low w U by rw [hU]; exact low_new (Low.refl w) _)
  have FU := Lib.hid (fun W (h : Low U W) => (show W.cell? ⟨w.heap.size, 0, none⟩ = some (.int .i64 t.k) ∧ W.cell? ⟨w.heap.size, 1, none⟩ = some (.string t.n) ∧ W.cell? ⟨w.heap.size, 2, none⟩ = some (.slice pe t.l.length ce) ∧ W.cell? ⟨w.heap.size, 3, none⟩ = some (.slice pv t.ats.length cv) from low_box (show Low (w.alloc (box4 t pe ce pv cv)) W by rw [← hU]; exact h)))
  have HA := Lib.hid (awake11_c U)
  have HF := Lib.hid fun W (l : Low U W) => few_c t 0 W _ _ (by omega) (h.low (LU.out.trans l))
  have HZ := Lib.hid fun W (l : Low U W) => size_n n (fun _ => True) t W _ _ (h.low (LU.out.trans l))
  have HT := Lib.hid h
  have HU := Lib.hid hU
  unfold tv at *
  clear h hU
  go_enter Try.func3, Try.ntmps3
  go_upto_region 1 with fail
  rw [show w.alloc (.cells #[.int .i64 t.k, .string t.n, .slice pe t.l.length ce, .slice pv t.ats.length cv] 25) = U from HU.out.symm]
  go_wp2_with fail
  refine HA.out.mono ?_
  rintro e w1 ⟨rfl, l1⟩
  have L1 := Lib.hid l1
  clear l1 HA
  obtain ⟨f0, f1, f2, f3⟩ := FU.out w1 L1.out
  have HF1 := Lib.hid (HF.out w1 L1.out)
  clear HF HU
  go_wp2_with fail
  refine HF1.out.mono ?_
  rintro e w2 ⟨b, rfl, hb, l2⟩
  have L2 := Lib.hid (L1.out.trans l2)
  have HB := Lib.hid hb
  clear l2 hb HF1 f0 f1 f2 f3
  cases b with
  | false =>
    go_wp2_with fail
    go_ret
    exact ⟨rfl, LU.out.trans L2.out⟩
  | true =>
    have hsm : Sm 61 t := (HB.out (by first | rfl | trivial)).2
    have HSM := Lib.hid hsm
    have HR := Lib.hid (show RT (fun _ => True) w 61 t (.slice pe t.l.length ce) (.slice pv t.ats.length cv) from RT.re hsm.dp HT.out)
    clear hsm HB HT
    obtain ⟨f0, f1, f2, f3⟩ := FU.out w2 L2.out
    have HZ2 := Lib.hid (HZ.out w2 L2.out)
    clear HZ
    go_wp2_with fail
    refine HZ2.out.mono ?_
    rintro e w3 ⟨m, rfl, l3⟩
    have L3 := Lib.hid (L2.out.trans l3)
    clear l3 HZ2 f0 f1 f2 f3
    by_cases hm : 300 < m
    · go_wp2_with fail
      go_ret
      exact ⟨rfl, LU.out.trans L3.out⟩
    · obtain ⟨f0, f1, f2, f3⟩ := FU.out w3 L3.out
      have HAt := Lib.hid (attr_c t.ats s w3 _ (RAs.low (rt_succ.1 HR.out).2.2 (LU.out.trans L3.out)))
      go_wp2_with fail
      refine HAt.out.mono ?_
      rintro e w4 ⟨x, qe, de, qv, dv, q, rfl, l4, hx⟩
      have HX := Lib.hid hx
      obtain ⟨V, hV⟩ : ∃ V, V = w4.alloc (.cells #[.string (an x), .int .i64 (aty x).k, .string (aty x).n, .slice qe (aty x).l.length de, .slice qv (aty x).ats.length dv, .bool (ao x)] 30) := ⟨_, rfl⟩
      have HV := Lib.hid hV
      have LV := Lib.hid (show Low U V by rw [hV]; exact low_new (L3.out.trans l4) _)
      have BV := Lib.hid (show BoxAt V w4.heap.size [.string (an x), .int .i64 (aty x).k, .string (aty x).n, .slice qe (aty x).l.length de, .slice qv (aty x).ats.length dv, .bool (ao x)] from BoxAt.made hV rfl rfl)
      clear hx hV l4 HAt f0 f1 f2 f3
      go_upto_region 8 with fail
      rw [← HV.out]
      clear HV
      obtain ⟨f0, f1, f2, f3⟩ := FU.out V LV.out
      have HRA := Lib.hid (rAttr_c t.ats s V _ (RAs.low (rt_succ.1 HR.out).2.2 (LU.out.trans LV.out)))
      obtain ⟨at', hat⟩ : ∃ r, r = atI t.ats s := ⟨_, rfl⟩
      rw [← hat] at HRA HX
      clear hat
      go_wp2_with fail
      refine HRA.out.mono ?_
      rintro e w5 ⟨rfl, l5⟩
      have L5 := Lib.hid (LV.out.trans l5)
      have BV5 := Lib.hid (BV.out.low l5)
      clear l5 HRA f0 f1 f2 f3 BV
      obtain ⟨f0, f1, f2, f3⟩ := FU.out w5 L5.out
      obtain ⟨r, hr⟩ : ∃ r, r = chkE 61 t := ⟨_, rfl⟩
      have HC1 := Lib.hid fun p : InL w5 => Calls.low p (check_c t p.w _ _ HSM.out (HR.out.low ((LU.out.trans L5.out).trans p.ok)))
      have HC2 := Lib.hid fun p : InL w5 => Calls.low p (rCheck_c (by omega : 61 ≤ 1000000) t p.w _ _ (HR.out.low ((LU.out.trans L5.out).trans p.ok)))
      rw [← hr] at HC1 HC2
      unfold tv at HC1 HC2
      clear hr
      have f0 := fun p : InL w5 => p.cell f0
      have f1 := fun p : InL w5 => p.cell f1
      have f2 := fun p : InL w5 => p.cell f2
      have f3 := fun p : InL w5 => p.cell f3
      haveI := InL.some w5
      rcases HX.out with ⟨rfl, ha, hx⟩ | ⟨rfl, i, hi, ha, hx, hs⟩
      · have zn : at' < 0 := by omega
        have zp : ¬ 0 ≤ at' := by omega
        clear HX
        have HXE := Lib.hid hx
        clear hx ha
        go_wp2_with fail
        refine wp_region_low mixedT (by kernel_rfl) ?_
        repeat (go_big_quiet_step (first | (with_reducible exact HC1.out _) | (with_reducible exact HC2.out _)))
        refine wpQuiet_nil ?_
        rintro W8 ⟨p8, hW8⟩
        have l8 : Low w5 W8 := by rw [hW8]; exact p8.ok
        have L8 := Lib.hid (L5.out.trans l8)
        have b0 := (BV5.out.low l8).at 0 _ rfl
        rw [HXE.out] at b0
        clear hW8 p8 HC1 HC2 f0 f1 f2 f3 this l8
        go_wp2_with fail
        have b0 := fun p : InL W8 => p.cell b0
        haveI := InL.some W8
        refine wp_region_low mixedT (by kernel_rfl) ?_
        repeat (go_big_quiet_step (fail))
        refine wpQuiet_nil ?_
        rintro W9 ⟨p9, hW9⟩
        have L9 := Lib.hid (show Low W8 W9 by rw [hW9]; exact p9.ok)
        clear hW9 p9 b0 this
        go_wp2_with fail
        go_ret
        exact ⟨rfl, (LU.out.trans L8.out).trans L9.out⟩
      · have zn : ¬ at' < 0 := by omega
        have zp : 0 ≤ at' := by omega
        clear HX
        have HXE := Lib.hid hx
        have HSE := Lib.hid hs
        subst ha
        have zd : decide ((i : Int) < 0) = false := decide_eq_false (by omega)
        have ze : decide (0 ≤ (i : Int)) = true := decide_eq_true (by omega)
        clear hx hs
        go_wp2_with fail
        refine wp_region_low mixedT (by kernel_rfl) ?_
        repeat (go_big_quiet_step (first | (with_reducible exact HC1.out _) | (with_reducible exact HC2.out _)))
        refine wpQuiet_nil ?_
        rintro W8 ⟨p8, hW8⟩
        have l8 : Low w5 W8 := by rw [hW8]; exact p8.ok
        have L8 := Lib.hid (L5.out.trans l8)
        have b0 := (BV5.out.low l8).at 0 _ rfl
        have b5 := (BV5.out.low l8).at 5 _ rfl
        have hb0 : an x = s := by rw [HXE.out]; exact HSE.out
        rw [hb0] at b0
        clear hW8 p8 HC1 HC2 f0 f1 f2 f3 this l8 hb0
        obtain ⟨f0, f1, f2, f3⟩ := FU.out W8 L8.out
        obtain ⟨g, o, re, me, rv, mv, hpv, -, e0, e1, e2, e3, e4, e5, -, -⟩ := RAs.at (RAs.low (rt_succ.1 HR.out).2.2 (LU.out.trans L8.out)) hi
        rw [hpv] at f3
        rw [← HXE.out] at e5
        have zi : (i : Int) < (t.ats.length : Int) := by omega
        clear f0 f1 f2 e0 e1 e2 e3 e4
        go_wp2_with fail
        have b0 := fun p : InL W8 => p.cell b0
        have b5 := fun p : InL W8 => p.cell b5
        have f3 := fun p : InL W8 => p.cell f3
        have e5 := fun p : InL W8 => p.cell e5
        haveI := InL.some W8
        refine wp_region_low mixedT (by kernel_rfl) ?_
        repeat (go_big_quiet_step (fail))
        refine wpQuiet_nil ?_
        rintro W9 ⟨p9, hW9⟩
        have L9 := Lib.hid (show Low W8 W9 by rw [hW9]; exact p9.ok)
        clear hW9 p9 b0 b5 f3 e5 this
        go_wp2_with fail
        go_ret
        exact ⟨by simp, (LU.out.trans L8.out).trans L9.out⟩
end Go.Proofs.Ytjipncpgmajeeaa
