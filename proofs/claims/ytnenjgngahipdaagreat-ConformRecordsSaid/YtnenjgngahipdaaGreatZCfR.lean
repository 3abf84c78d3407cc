/- The reference's Value: is a value of a type? Condition: the value as it must be, the type one that may be. -/
import Derived.Test.YtnenjgngahipdaaGreatZg12
import Derived.Test.YtnenjgngahipdaaGreatZg28
set_option linter.unusedVariables false
set_option linter.unusedSimpArgs false
set_option linter.unnecessarySimpa false
namespace Go.Proofs.YtnenjgngahipdaaGreat
open Go.RowKit
set_option linter.unusedVariables false
theorem beq_fr {a b : Int} (h : ¬ a = b) : (a == b) = false := by simpa using h
theorem may_kr {n : Nat} {t : T} (h : mayB (n + 1) t = true) : 0 ≤ t.k ∧ t.k ≤ 8 := by
  have h1 := of_decide_eq_true (mayB_succ.1 h).1
  exact ⟨h1.1, h1.2.1⟩
/-- What the reference's Value answers. -/
def RvC (n : Nat) : Prop := ∀ (v : V) (t : T) (w : World) (it nm e u : Value), Okv v → mayB n t = true → R w v it nm → RT (fun _ => True) w n t e u →
  Calls Tryz.prog 15 #[avv v.h it nm, tv t e u] w fun r w' => r = .returned (.bool (isV n v t)) ∧ Low w w'
theorem getI_mem {v : V} (hk : v.h.k = 6) (hl : v.ns.length = v.l.length) (s : ByteArray) : getI v s < 0 ↔ s ∉ v.ns := by
  have h := getI_any hk hl s
  constructor
  · intro h1 h2
    rw [decide_eq_false (by omega)] at h
    have h3 := List.any_eq_false.1 h.symm s h2
    simp at h3
  · intro h1
    refine Int.not_le.1 fun h2 => h1 ?_
    rw [decide_eq_true h2] at h
    obtain ⟨x, hx, he⟩ := List.any_eq_true.1 h.symm
    simp at he
    exact he ▸ hx
theorem BoxAt.at9 {w : World} {n : Nat} {c0 c1 c2 c3 c4 c5 c6 c7 c8 : Value} (h : BoxAt w n [c0, c1, c2, c3, c4, c5, c6, c7, c8]) :
    w.cell? ⟨n, 0, none⟩ = some c0 ∧ w.cell? ⟨n, 1, none⟩ = some c1 ∧ w.cell? ⟨n, 2, none⟩ = some c2 ∧ w.cell? ⟨n, 3, none⟩ = some c3 ∧ w.cell? ⟨n, 4, none⟩ = some c4 ∧ w.cell? ⟨n, 5, none⟩ = some c5 ∧ w.cell? ⟨n, 6, none⟩ = some c6 ∧ w.cell? ⟨n, 7, none⟩ = some c7 ∧ w.cell? ⟨n, 8, none⟩ = some c8 :=
  ⟨h.at 0 _ rfl, h.at 1 _ rfl, h.at 2 _ rfl, h.at 3 _ rfl, h.at 4 _ rfl, h.at 5 _ rfl, h.at 6 _ rfl, h.at 7 _ rfl, h.at 8 _ rfl⟩
set_option maxHeartbeats 12800000 in
set_option maxRecDepth 100000 in
theorem rv_0 (n : Nat) (ih : RvC n) (v : V) (t : T) (w : World) (it nm e u : Value) (ho : Okv v) (hm : mayB (n + 1) t = true) (hv : R w v it nm) (ht : RT (fun _ => True) w (n + 1) t e u) (hk : t.k = 0) :
    Calls Tryz.prog 15 #[avv v.h it nm, tv t e u] w fun r w' => r = .returned (.bool (isV (n + 1) v t)) ∧ Low w w' := by
  obtain ⟨hs, hl, ha⟩ := rt_succ.1 ht
  have hro : Ro w v.l it := (rep_v.1 hv).2.2
  have hna : Na w v.ns nm := (rep_v.1 hv).2.1
  have zl9 : v.l.length ≤ 9223372036854775807 := by obtain ⟨_, _, _, ⟨y1, y2⟩, -⟩ := id hro; omega
  have zn9 : v.ns.length ≤ 9223372036854775807 := by obtain ⟨_, _, _, y1, -⟩ := id hna; exact y1
  obtain ⟨ai, ci, an', cn, rfl, rfl⟩ := r_slices hv
  obtain ⟨pe, ce, pv, cv, rfl, rfl, z1, z2, z3, z4⟩ := ht.sl
  obtain ⟨U0, hU0⟩ : ∃ U, U = w.alloc (.cells #[.int .i64 v.h.k, .bool v.h.b, .int .i64 v.h.n, .string v.h.s, .string v.h.t, .string v.h.i, .slice ai v.l.length ci, .slice an' v.ns.length cn] 27) := ⟨_, rfl⟩
  obtain ⟨U1, hU1⟩ : ∃ U, U = U0.alloc (.cells #[.int .i64 t.k, .string t.n, .slice pe t.l.length ce, .slice pv t.ats.length cv] 31) := ⟨_, rfl⟩
  have s0 : U0.heap.size = w.heap.size + 1 := by rw [hU0]; simp
  have L0 : Low U0 U1 := by rw [hU1]; exact low_new (Low.refl _) _
  have LU1 := Lib.hid (show Low w U1 from (by rw [hU0]; exact low_new (Low.refl w) _ : Low w U0).trans L0)
  have BV1 := Lib.hid ((BoxAt.made (cs := [.int .i64 v.h.k, .bool v.h.b, .int .i64 v.h.n, .string v.h.s, .string v.h.t, .string v.h.i, .slice ai v.l.length ci, .slice an' v.ns.length cn]) hU0 rfl rfl).low L0)
  have BT1 := Lib.hid (BoxAt.made (cs := [.int .i64 t.k, .string t.n, .slice pe t.l.length ce, .slice pv t.ats.length cv]) hU1 s0 rfl)
  obtain ⟨r, hr⟩ : ∃ r, r = isV (n + 1) v t := ⟨_, rfl⟩
  rw [← hr]
  have HR := Lib.hid hr
  rw [hU0] at hU1
  have HU := Lib.hid hU1
  have HV := Lib.hid hv
  have HO := Lib.hid ho
  have HM := Lib.hid hm
  have HL := Lib.hid hl
  have HA := Lib.hid ha
  have HI := Lib.hid hro
  have HN := Lib.hid hna
  have HIH := Lib.hid ih
  have HK := Lib.hid hk
  clear hv ho hm ht hl ha hro hna hU1 hU0 L0 s0 hr ih hs hk
  unfold avv tv
  go_enter Tryz.func15, Tryz.ntmps15
  go_upto_region 1 with fail
  rw [← HU.out]
  clear HU
  go_upto_region 2 with fail
  refine gen_w (P := fun W => Code.wp _ _ _ _ W) (fun U hU => ?_)
  have LQ := Lib.hid (show Low U1 U by rw [hU]; exact low_new (Low.refl _) _)
  have LU := Lib.hid (LU1.out.trans LQ.out)
  have BV := Lib.hid (BV1.out.low LQ.out)
  have BT := Lib.hid (BT1.out.low LQ.out)
  have BK := Lib.hid (BoxAt.made (cs := [.int .i64 0, .int .i64 1, .int .i64 1, .int .i64 1, .int .i64 2, .int .i64 3, .int .i64 4, .int .i64 5, .int .i64 6]) hU rfl rfl)
  clear hU BV1 BT1 LQ LU1
  obtain ⟨f0, f1, f2, f3, f4, f5, f6, f7⟩ := BV.out.at8
  obtain ⟨g0, g1, g2, g3⟩ := BT.out.at4
  obtain ⟨k0, k1, k2, k3, k4, k5, k6, k7, k8⟩ := BK.out.at9
  haveI := InL.some U
  have hk := HK.out
  rw [hk] at g0
  have HF := Lib.hid (show false = r by rw [HR.out, isV_kind (.inl (by omega))])
  clear hk
  have g0p := fun q : InL U => q.cell g0
  have f0p := fun q : InL U => q.cell f0
  have k0p := fun q : InL U => q.cell k0
  refine wp_region_low mixedT (by kernel_rfl) ?_
  repeat (go_big_quiet_step (fail))
  refine wpQuiet_nil ?_
  rintro W8 ⟨p8, hW8⟩
  have l8 : Low U W8 := by rw [hW8]; exact p8.ok
  have L8 := Lib.hid l8
  have f1 := l8.keep f1
  have f4 := l8.keep f4
  have g0 := l8.keep g0
  have g1 := l8.keep g1
  clear hW8 p8 g0p f0p k0p l8 f0 f2 f3 f5 f6 f7 g2 g3 k0 k1 k2 k3 k4 k5 k6 k7 k8 this
  go_wp2_with fail
  go_ret
  exact ⟨retB HF.out, LU.out.trans L8.out⟩
set_option maxHeartbeats 12800000 in
set_option maxRecDepth 100000 in
theorem rv_1 (n : Nat) (ih : RvC n) (v : V) (t : T) (w : World) (it nm e u : Value) (ho : Okv v) (hm : mayB (n + 1) t = true) (hv : R w v it nm) (ht : RT (fun _ => True) w (n + 1) t e u) (hk : t.k = 1) :
    Calls Tryz.prog 15 #[avv v.h it nm, tv t e u] w fun r w' => r = .returned (.bool (isV (n + 1) v t)) ∧ Low w w' := by
  obtain ⟨hs, hl, ha⟩ := rt_succ.1 ht
  have hro : Ro w v.l it := (rep_v.1 hv).2.2
  have hna : Na w v.ns nm := (rep_v.1 hv).2.1
  have zl9 : v.l.length ≤ 9223372036854775807 := by obtain ⟨_, _, _, ⟨y1, y2⟩, -⟩ := id hro; omega
  have zn9 : v.ns.length ≤ 9223372036854775807 := by obtain ⟨_, _, _, y1, -⟩ := id hna; exact y1
  obtain ⟨ai, ci, an', cn, rfl, rfl⟩ := r_slices hv
  obtain ⟨pe, ce, pv, cv, rfl, rfl, z1, z2, z3, z4⟩ := ht.sl
  obtain ⟨U0, hU0⟩ : ∃ U, U = w.alloc (.cells #[.int .i64 v.h.k, .bool v.h.b, .int .i64 v.h.n, .string v.h.s, .string v.h.t, .string v.h.i, .slice ai v.l.length ci, .slice an' v.ns.length cn] 27) := ⟨_, rfl⟩
  obtain ⟨U1, hU1⟩ : ∃ U, U = U0.alloc (.cells #[.int .i64 t.k, .string t.n, .slice pe t.l.length ce, .slice pv t.ats.length cv] 31) := ⟨_, rfl⟩
  have s0 : U0.heap.size = w.heap.size + 1 := by rw [hU0]; simp
  have L0 : Low U0 U1 := by rw [hU1]; exact low_new (Low.refl _) _
  have LU1 := Lib.hid (show Low w U1 from (by rw [hU0]; exact low_new (Low.refl w) _ : Low w U0).trans L0)
  have BV1 := Lib.hid ((BoxAt.made (cs := [.int .i64 v.h.k, .bool v.h.b, .int .i64 v.h.n, .string v.h.s, .string v.h.t, .string v.h.i, .slice ai v.l.length ci, .slice an' v.ns.length cn]) hU0 rfl rfl).low L0)
  have BT1 := Lib.hid (BoxAt.made (cs := [.int .i64 t.k, .string t.n, .slice pe t.l.length ce, .slice pv t.ats.length cv]) hU1 s0 rfl)
  obtain ⟨r, hr⟩ : ∃ r, r = isV (n + 1) v t := ⟨_, rfl⟩
  rw [← hr]
  have HR := Lib.hid hr
  rw [hU0] at hU1
  have HU := Lib.hid hU1
  have HV := Lib.hid hv
  have HO := Lib.hid ho
  have HM := Lib.hid hm
  have HL := Lib.hid hl
  have HA := Lib.hid ha
  have HI := Lib.hid hro
  have HN := Lib.hid hna
  have HIH := Lib.hid ih
  have HK := Lib.hid hk
  clear hv ho hm ht hl ha hro hna hU1 hU0 L0 s0 hr ih hs hk
  unfold avv tv
  go_enter Tryz.func15, Tryz.ntmps15
  go_upto_region 1 with fail
  rw [← HU.out]
  clear HU
  go_upto_region 2 with fail
  refine gen_w (P := fun W => Code.wp _ _ _ _ W) (fun U hU => ?_)
  have LQ := Lib.hid (show Low U1 U by rw [hU]; exact low_new (Low.refl _) _)
  have LU := Lib.hid (LU1.out.trans LQ.out)
  have BV := Lib.hid (BV1.out.low LQ.out)
  have BT := Lib.hid (BT1.out.low LQ.out)
  have BK := Lib.hid (BoxAt.made (cs := [.int .i64 0, .int .i64 1, .int .i64 1, .int .i64 1, .int .i64 2, .int .i64 3, .int .i64 4, .int .i64 5, .int .i64 6]) hU rfl rfl)
  clear hU BV1 BT1 LQ LU1
  obtain ⟨f0, f1, f2, f3, f4, f5, f6, f7⟩ := BV.out.at8
  obtain ⟨g0, g1, g2, g3⟩ := BT.out.at4
  obtain ⟨k0, k1, k2, k3, k4, k5, k6, k7, k8⟩ := BK.out.at9
  haveI := InL.some U
  have hk := HK.out
  rw [hk] at g0
  by_cases hv1 : v.h.k = 1
  · rw [hv1] at f0
    have g0p := fun q : InL U => q.cell g0
    have f0p := fun q : InL U => q.cell f0
    have k1p := fun q : InL U => q.cell k1
    refine wp_region_low mixedT (by kernel_rfl) ?_
    repeat (go_big_quiet_step (fail))
    refine wpQuiet_nil ?_
    rintro W8 ⟨p8, hW8⟩
    have l8 : Low U W8 := by rw [hW8]; exact p8.ok
    have L8 := Lib.hid l8
    have f1 := l8.keep f1
    have f4 := l8.keep f4
    have g0 := l8.keep g0
    have g1 := l8.keep g1
    clear hW8 p8 g0p f0p k1p l8 f0 f2 f3 f5 f6 f7 g2 g3 k0 k1 k2 k3 k4 k5 k6 k7 k8 this
    have HF := Lib.hid (show v.h.b = r by rw [HR.out, isV, if_pos hk, decide_eq_true hv1, Bool.true_and])
    clear hk hv1
    go_wp2_with fail
    go_ret
    exact ⟨retB HF.out, LU.out.trans L8.out⟩
  · have HF := Lib.hid (show false = r by rw [HR.out, isV_kind (.inr (.inr (by rw [hk]; exact hv1)))])
    have hb1 := beq_fr hv1
    clear hk
    have g0p := fun q : InL U => q.cell g0
    have f0p := fun q : InL U => q.cell f0
    have k1p := fun q : InL U => q.cell k1
    refine wp_region_low mixedT (by kernel_rfl) ?_
    repeat (go_big_quiet_step (fail))
    refine wpQuiet_nil ?_
    rintro W8 ⟨p8, hW8⟩
    have l8 : Low U W8 := by rw [hW8]; exact p8.ok
    have L8 := Lib.hid l8
    have f1 := l8.keep f1
    have f4 := l8.keep f4
    have g0 := l8.keep g0
    have g1 := l8.keep g1
    clear hW8 p8 g0p f0p k1p l8 f0 f2 f3 f5 f6 f7 g2 g3 k0 k1 k2 k3 k4 k5 k6 k7 k8 this
    go_wp2_with fail
    go_ret
    exact ⟨retB HF.out, LU.out.trans L8.out⟩
set_option maxHeartbeats 12800000 in
set_option maxRecDepth 100000 in
theorem rv_2 (n : Nat) (ih : RvC n) (v : V) (t : T) (w : World) (it nm e u : Value) (ho : Okv v) (hm : mayB (n + 1) t = true) (hv : R w v it nm) (ht : RT (fun _ => True) w (n + 1) t e u) (hk : t.k = 2) :
    Calls Tryz.prog 15 #[avv v.h it nm, tv t e u] w fun r w' => r = .returned (.bool (isV (n + 1) v t)) ∧ Low w w' := by
  obtain ⟨hs, hl, ha⟩ := rt_succ.1 ht
  have hro : Ro w v.l it := (rep_v.1 hv).2.2
  have hna : Na w v.ns nm := (rep_v.1 hv).2.1
  have zl9 : v.l.length ≤ 9223372036854775807 := by obtain ⟨_, _, _, ⟨y1, y2⟩, -⟩ := id hro; omega
  have zn9 : v.ns.length ≤ 9223372036854775807 := by obtain ⟨_, _, _, y1, -⟩ := id hna; exact y1
  obtain ⟨ai, ci, an', cn, rfl, rfl⟩ := r_slices hv
  obtain ⟨pe, ce, pv, cv, rfl, rfl, z1, z2, z3, z4⟩ := ht.sl
  obtain ⟨U0, hU0⟩ : ∃ U, U = w.alloc (.cells #[.int .i64 v.h.k, .bool v.h.b, .int .i64 v.h.n, .string v.h.s, .string v.h.t, .string v.h.i, .slice ai v.l.length ci, .slice an' v.ns.length cn] 27) := ⟨_, rfl⟩
  obtain ⟨U1, hU1⟩ : ∃ U, U = U0.alloc (.cells #[.int .i64 t.k, .string t.n, .slice pe t.l.length ce, .slice pv t.ats.length cv] 31) := ⟨_, rfl⟩
  have s0 : U0.heap.size = w.heap.size + 1 := by rw [hU0]; simp
  have L0 : Low U0 U1 := by rw [hU1]; exact low_new (Low.refl _) _
  have LU1 := Lib.hid (show Low w U1 from (by rw [hU0]; exact low_new (Low.refl w) _ : Low w U0).trans L0)
  have BV1 := Lib.hid ((BoxAt.made (cs := [.int .i64 v.h.k, .bool v.h.b, .int .i64 v.h.n, .string v.h.s, .string v.h.t, .string v.h.i, .slice ai v.l.length ci, .slice an' v.ns.length cn]) hU0 rfl rfl).low L0)
  have BT1 := Lib.hid (BoxAt.made (cs := [.int .i64 t.k, .string t.n, .slice pe t.l.length ce, .slice pv t.ats.length cv]) hU1 s0 rfl)
  obtain ⟨r, hr⟩ : ∃ r, r = isV (n + 1) v t := ⟨_, rfl⟩
  rw [← hr]
  have HR := Lib.hid hr
  rw [hU0] at hU1
  have HU := Lib.hid hU1
  have HV := Lib.hid hv
  have HO := Lib.hid ho
  have HM := Lib.hid hm
  have HL := Lib.hid hl
  have HA := Lib.hid ha
  have HI := Lib.hid hro
  have HN := Lib.hid hna
  have HIH := Lib.hid ih
  have HK := Lib.hid hk
  clear hv ho hm ht hl ha hro hna hU1 hU0 L0 s0 hr ih hs hk
  unfold avv tv
  go_enter Tryz.func15, Tryz.ntmps15
  go_upto_region 1 with fail
  rw [← HU.out]
  clear HU
  go_upto_region 2 with fail
  refine gen_w (P := fun W => Code.wp _ _ _ _ W) (fun U hU => ?_)
  have LQ := Lib.hid (show Low U1 U by rw [hU]; exact low_new (Low.refl _) _)
  have LU := Lib.hid (LU1.out.trans LQ.out)
  have BV := Lib.hid (BV1.out.low LQ.out)
  have BT := Lib.hid (BT1.out.low LQ.out)
  have BK := Lib.hid (BoxAt.made (cs := [.int .i64 0, .int .i64 1, .int .i64 1, .int .i64 1, .int .i64 2, .int .i64 3, .int .i64 4, .int .i64 5, .int .i64 6]) hU rfl rfl)
  clear hU BV1 BT1 LQ LU1
  obtain ⟨f0, f1, f2, f3, f4, f5, f6, f7⟩ := BV.out.at8
  obtain ⟨g0, g1, g2, g3⟩ := BT.out.at4
  obtain ⟨k0, k1, k2, k3, k4, k5, k6, k7, k8⟩ := BK.out.at9
  haveI := InL.some U
  have hk := HK.out
  rw [hk] at g0
  by_cases hv1 : v.h.k = 1
  · rw [hv1] at f0
    have g0p := fun q : InL U => q.cell g0
    have f0p := fun q : InL U => q.cell f0
    have k2p := fun q : InL U => q.cell k2
    refine wp_region_low mixedT (by kernel_rfl) ?_
    repeat (go_big_quiet_step (fail))
    refine wpQuiet_nil ?_
    rintro W8 ⟨p8, hW8⟩
    have l8 : Low U W8 := by rw [hW8]; exact p8.ok
    have L8 := Lib.hid l8
    have f1 := l8.keep f1
    have f4 := l8.keep f4
    have g0 := l8.keep g0
    have g1 := l8.keep g1
    clear hW8 p8 g0p f0p k2p l8 f0 f2 f3 f5 f6 f7 g2 g3 k0 k1 k2 k3 k4 k5 k6 k7 k8 this
    have HF := Lib.hid (show (!v.h.b) = r by rw [HR.out, isV, if_neg (by omega), if_pos hk, decide_eq_true hv1, Bool.true_and])
    clear hk hv1
    go_wp2_with fail
    go_ret
    exact ⟨retB HF.out, LU.out.trans L8.out⟩
  · have HF := Lib.hid (show false = r by rw [HR.out, isV_kind (.inr (.inr (by rw [hk]; exact hv1)))])
    have hb1 := beq_fr hv1
    clear hk
    have g0p := fun q : InL U => q.cell g0
    have f0p := fun q : InL U => q.cell f0
    have k2p := fun q : InL U => q.cell k2
    refine wp_region_low mixedT (by kernel_rfl) ?_
    repeat (go_big_quiet_step (fail))
    refine wpQuiet_nil ?_
    rintro W8 ⟨p8, hW8⟩
    have l8 : Low U W8 := by rw [hW8]; exact p8.ok
    have L8 := Lib.hid l8
    have f1 := l8.keep f1
    have f4 := l8.keep f4
    have g0 := l8.keep g0
    have g1 := l8.keep g1
    clear hW8 p8 g0p f0p k2p l8 f0 f2 f3 f5 f6 f7 g2 g3 k0 k1 k2 k3 k4 k5 k6 k7 k8 this
    go_wp2_with fail
    go_ret
    exact ⟨retB HF.out, LU.out.trans L8.out⟩
set_option maxHeartbeats 12800000 in
set_option maxRecDepth 100000 in
theorem rv_3 (n : Nat) (ih : RvC n) (v : V) (t : T) (w : World) (it nm e u : Value) (ho : Okv v) (hm : mayB (n + 1) t = true) (hv : R w v it nm) (ht : RT (fun _ => True) w (n + 1) t e u) (hk : t.k = 3) :
    Calls Tryz.prog 15 #[avv v.h it nm, tv t e u] w fun r w' => r = .returned (.bool (isV (n + 1) v t)) ∧ Low w w' := by
  obtain ⟨hs, hl, ha⟩ := rt_succ.1 ht
  have hro : Ro w v.l it := (rep_v.1 hv).2.2
  have hna : Na w v.ns nm := (rep_v.1 hv).2.1
  have zl9 : v.l.length ≤ 9223372036854775807 := by obtain ⟨_, _, _, ⟨y1, y2⟩, -⟩ := id hro; omega
  have zn9 : v.ns.length ≤ 9223372036854775807 := by obtain ⟨_, _, _, y1, -⟩ := id hna; exact y1
  obtain ⟨ai, ci, an', cn, rfl, rfl⟩ := r_slices hv
  obtain ⟨pe, ce, pv, cv, rfl, rfl, z1, z2, z3, z4⟩ := ht.sl
  obtain ⟨U0, hU0⟩ : ∃ U, U = w.alloc (.cells #[.int .i64 v.h.k, .bool v.h.b, .int .i64 v.h.n, .string v.h.s, .string v.h.t, .string v.h.i, .slice ai v.l.length ci, .slice an' v.ns.length cn] 27) := ⟨_, rfl⟩
  obtain ⟨U1, hU1⟩ : ∃ U, U = U0.alloc (.cells #[.int .i64 t.k, .string t.n, .slice pe t.l.length ce, .slice pv t.ats.length cv] 31) := ⟨_, rfl⟩
  have s0 : U0.heap.size = w.heap.size + 1 := by rw [hU0]; simp
  have L0 : Low U0 U1 := by rw [hU1]; exact low_new (Low.refl _) _
  have LU1 := Lib.hid (show Low w U1 from (by rw [hU0]; exact low_new (Low.refl w) _ : Low w U0).trans L0)
  have BV1 := Lib.hid ((BoxAt.made (cs := [.int .i64 v.h.k, .bool v.h.b, .int .i64 v.h.n, .string v.h.s, .string v.h.t, .string v.h.i, .slice ai v.l.length ci, .slice an' v.ns.length cn]) hU0 rfl rfl).low L0)
  have BT1 := Lib.hid (BoxAt.made (cs := [.int .i64 t.k, .string t.n, .slice pe t.l.length ce, .slice pv t.ats.length cv]) hU1 s0 rfl)
  obtain ⟨r, hr⟩ : ∃ r, r = isV (n + 1) v t := ⟨_, rfl⟩
  rw [← hr]
  have HR := Lib.hid hr
  rw [hU0] at hU1
  have HU := Lib.hid hU1
  have HV := Lib.hid hv
  have HO := Lib.hid ho
  have HM := Lib.hid hm
  have HL := Lib.hid hl
  have HA := Lib.hid ha
  have HI := Lib.hid hro
  have HN := Lib.hid hna
  have HIH := Lib.hid ih
  have HK := Lib.hid hk
  clear hv ho hm ht hl ha hro hna hU1 hU0 L0 s0 hr ih hs hk
  unfold avv tv
  go_enter Tryz.func15, Tryz.ntmps15
  go_upto_region 1 with fail
  rw [← HU.out]
  clear HU
  go_upto_region 2 with fail
  refine gen_w (P := fun W => Code.wp _ _ _ _ W) (fun U hU => ?_)
  have LQ := Lib.hid (show Low U1 U by rw [hU]; exact low_new (Low.refl _) _)
  have LU := Lib.hid (LU1.out.trans LQ.out)
  have BV := Lib.hid (BV1.out.low LQ.out)
  have BT := Lib.hid (BT1.out.low LQ.out)
  have BK := Lib.hid (BoxAt.made (cs := [.int .i64 0, .int .i64 1, .int .i64 1, .int .i64 1, .int .i64 2, .int .i64 3, .int .i64 4, .int .i64 5, .int .i64 6]) hU rfl rfl)
  clear hU BV1 BT1 LQ LU1
  obtain ⟨f0, f1, f2, f3, f4, f5, f6, f7⟩ := BV.out.at8
  obtain ⟨g0, g1, g2, g3⟩ := BT.out.at4
  obtain ⟨k0, k1, k2, k3, k4, k5, k6, k7, k8⟩ := BK.out.at9
  haveI := InL.some U
  have hk := HK.out
  rw [hk] at g0
  by_cases hv1 : v.h.k = 1
  · rw [hv1] at f0
    have g0p := fun q : InL U => q.cell g0
    have f0p := fun q : InL U => q.cell f0
    have k3p := fun q : InL U => q.cell k3
    refine wp_region_low mixedT (by kernel_rfl) ?_
    repeat (go_big_quiet_step (fail))
    refine wpQuiet_nil ?_
    rintro W8 ⟨p8, hW8⟩
    have l8 : Low U W8 := by rw [hW8]; exact p8.ok
    have L8 := Lib.hid l8
    have f1 := l8.keep f1
    have f4 := l8.keep f4
    have g0 := l8.keep g0
    have g1 := l8.keep g1
    clear hW8 p8 g0p f0p k3p l8 f0 f2 f3 f5 f6 f7 g2 g3 k0 k1 k2 k3 k4 k5 k6 k7 k8 this
    have HF := Lib.hid (show true = r by rw [HR.out, isV, if_neg (by omega), if_neg (by omega), if_pos hk, decide_eq_true hv1])
    clear hk hv1
    go_wp2_with fail
    go_ret
    exact ⟨retB HF.out, LU.out.trans L8.out⟩
  · have HF := Lib.hid (show false = r by rw [HR.out, isV_kind (.inr (.inr (by rw [hk]; exact hv1)))])
    have hb1 := beq_fr hv1
    clear hk
    have g0p := fun q : InL U => q.cell g0
    have f0p := fun q : InL U => q.cell f0
    have k3p := fun q : InL U => q.cell k3
    refine wp_region_low mixedT (by kernel_rfl) ?_
    repeat (go_big_quiet_step (fail))
    refine wpQuiet_nil ?_
    rintro W8 ⟨p8, hW8⟩
    have l8 : Low U W8 := by rw [hW8]; exact p8.ok
    have L8 := Lib.hid l8
    have f1 := l8.keep f1
    have f4 := l8.keep f4
    have g0 := l8.keep g0
    have g1 := l8.keep g1
    clear hW8 p8 g0p f0p k3p l8 f0 f2 f3 f5 f6 f7 g2 g3 k0 k1 k2 k3 k4 k5 k6 k7 k8 this
    go_wp2_with fail
    go_ret
    exact ⟨retB HF.out, LU.out.trans L8.out⟩
set_option maxHeartbeats 12800000 in
set_option maxRecDepth 100000 in
theorem rv_4 (n : Nat) (ih : RvC n) (v : V) (t : T) (w : World) (it nm e u : Value) (ho : Okv v) (hm : mayB (n + 1) t = true) (hv : R w v it nm) (ht : RT (fun _ => True) w (n + 1) t e u) (hk : t.k = 4) :
    Calls Tryz.prog 15 #[avv v.h it nm, tv t e u] w fun r w' => r = .returned (.bool (isV (n + 1) v t)) ∧ Low w w' := by
  obtain ⟨hs, hl, ha⟩ := rt_succ.1 ht
  have hro : Ro w v.l it := (rep_v.1 hv).2.2
  have hna : Na w v.ns nm := (rep_v.1 hv).2.1
  have zl9 : v.l.length ≤ 9223372036854775807 := by obtain ⟨_, _, _, ⟨y1, y2⟩, -⟩ := id hro; omega
  have zn9 : v.ns.length ≤ 9223372036854775807 := by obtain ⟨_, _, _, y1, -⟩ := id hna; exact y1
  obtain ⟨ai, ci, an', cn, rfl, rfl⟩ := r_slices hv
  obtain ⟨pe, ce, pv, cv, rfl, rfl, z1, z2, z3, z4⟩ := ht.sl
  obtain ⟨U0, hU0⟩ : ∃ U, U = w.alloc (.cells #[.int .i64 v.h.k, .bool v.h.b, .int .i64 v.h.n, .string v.h.s, .string v.h.t, .string v.h.i, .slice ai v.l.length ci, .slice an' v.ns.length cn] 27) := ⟨_, rfl⟩
  obtain ⟨U1, hU1⟩ : ∃ U, U = U0.alloc (.cells #[.int .i64 t.k, .string t.n, .slice pe t.l.length ce, .slice pv t.ats.length cv] 31) := ⟨_, rfl⟩
  have s0 : U0.heap.size = w.heap.size + 1 := by rw [hU0]; simp
  have L0 : Low U0 U1 := by rw [hU1]; exact low_new (Low.refl _) _
  have LU1 := Lib.hid (show Low w U1 from (by rw [hU0]; exact low_new (Low.refl w) _ : Low w U0).trans L0)
  have BV1 := Lib.hid ((BoxAt.made (cs := [.int .i64 v.h.k, .bool v.h.b, .int .i64 v.h.n, .string v.h.s, .string v.h.t, .string v.h.i, .slice ai v.l.length ci, .slice an' v.ns.length cn]) hU0 rfl rfl).low L0)
  have BT1 := Lib.hid (BoxAt.made (cs := [.int .i64 t.k, .string t.n, .slice pe t.l.length ce, .slice pv t.ats.length cv]) hU1 s0 rfl)
  obtain ⟨r, hr⟩ : ∃ r, r = isV (n + 1) v t := ⟨_, rfl⟩
  rw [← hr]
  have HR := Lib.hid hr
  rw [hU0] at hU1
  have HU := Lib.hid hU1
  have HV := Lib.hid hv
  have HO := Lib.hid ho
  have HM := Lib.hid hm
  have HL := Lib.hid hl
  have HA := Lib.hid ha
  have HI := Lib.hid hro
  have HN := Lib.hid hna
  have HIH := Lib.hid ih
  have HK := Lib.hid hk
  clear hv ho hm ht hl ha hro hna hU1 hU0 L0 s0 hr ih hs hk
  unfold avv tv
  go_enter Tryz.func15, Tryz.ntmps15
  go_upto_region 1 with fail
  rw [← HU.out]
  clear HU
  go_upto_region 2 with fail
  refine gen_w (P := fun W => Code.wp _ _ _ _ W) (fun U hU => ?_)
  have LQ := Lib.hid (show Low U1 U by rw [hU]; exact low_new (Low.refl _) _)
  have LU := Lib.hid (LU1.out.trans LQ.out)
  have BV := Lib.hid (BV1.out.low LQ.out)
  have BT := Lib.hid (BT1.out.low LQ.out)
  have BK := Lib.hid (BoxAt.made (cs := [.int .i64 0, .int .i64 1, .int .i64 1, .int .i64 1, .int .i64 2, .int .i64 3, .int .i64 4, .int .i64 5, .int .i64 6]) hU rfl rfl)
  clear hU BV1 BT1 LQ LU1
  obtain ⟨f0, f1, f2, f3, f4, f5, f6, f7⟩ := BV.out.at8
  obtain ⟨g0, g1, g2, g3⟩ := BT.out.at4
  obtain ⟨k0, k1, k2, k3, k4, k5, k6, k7, k8⟩ := BK.out.at9
  haveI := InL.some U
  have hk := HK.out
  rw [hk] at g0
  by_cases hv1 : v.h.k = 2
  · rw [hv1] at f0
    have g0p := fun q : InL U => q.cell g0
    have f0p := fun q : InL U => q.cell f0
    have k4p := fun q : InL U => q.cell k4
    refine wp_region_low mixedT (by kernel_rfl) ?_
    repeat (go_big_quiet_step (fail))
    refine wpQuiet_nil ?_
    rintro W8 ⟨p8, hW8⟩
    have l8 : Low U W8 := by rw [hW8]; exact p8.ok
    have L8 := Lib.hid l8
    have f1 := l8.keep f1
    have f4 := l8.keep f4
    have g0 := l8.keep g0
    have g1 := l8.keep g1
    clear hW8 p8 g0p f0p k4p l8 f0 f2 f3 f5 f6 f7 g2 g3 k0 k1 k2 k3 k4 k5 k6 k7 k8 this
    have HF := Lib.hid (show true = r by rw [HR.out, isV, if_neg (by omega), if_neg (by omega), if_neg (by omega), if_pos hk, decide_eq_true hv1])
    clear hk hv1
    go_wp2_with fail
    go_ret
    exact ⟨retB HF.out, LU.out.trans L8.out⟩
  · have HF := Lib.hid (show false = r by rw [HR.out, isV_kind (.inr (.inr (by rw [hk]; exact hv1)))])
    have hb1 := beq_fr hv1
    clear hk
    have g0p := fun q : InL U => q.cell g0
    have f0p := fun q : InL U => q.cell f0
    have k4p := fun q : InL U => q.cell k4
    refine wp_region_low mixedT (by kernel_rfl) ?_
    repeat (go_big_quiet_step (fail))
    refine wpQuiet_nil ?_
    rintro W8 ⟨p8, hW8⟩
    have l8 : Low U W8 := by rw [hW8]; exact p8.ok
    have L8 := Lib.hid l8
    have f1 := l8.keep f1
    have f4 := l8.keep f4
    have g0 := l8.keep g0
    have g1 := l8.keep g1
    clear hW8 p8 g0p f0p k4p l8 f0 f2 f3 f5 f6 f7 g2 g3 k0 k1 k2 k3 k4 k5 k6 k7 k8 this
    go_wp2_with fail
    go_ret
    exact ⟨retB HF.out, LU.out.trans L8.out⟩
set_option maxHeartbeats 12800000 in
set_option maxRecDepth 100000 in
theorem rv_5 (n : Nat) (ih : RvC n) (v : V) (t : T) (w : World) (it nm e u : Value) (ho : Okv v) (hm : mayB (n + 1) t = true) (hv : R w v it nm) (ht : RT (fun _ => True) w (n + 1) t e u) (hk : t.k = 5) :
    Calls Tryz.prog 15 #[avv v.h it nm, tv t e u] w fun r w' => r = .returned (.bool (isV (n + 1) v t)) ∧ Low w w' := by
  obtain ⟨hs, hl, ha⟩ := rt_succ.1 ht
  have hro : Ro w v.l it := (rep_v.1 hv).2.2
  have hna : Na w v.ns nm := (rep_v.1 hv).2.1
  have zl9 : v.l.length ≤ 9223372036854775807 := by obtain ⟨_, _, _, ⟨y1, y2⟩, -⟩ := id hro; omega
  have zn9 : v.ns.length ≤ 9223372036854775807 := by obtain ⟨_, _, _, y1, -⟩ := id hna; exact y1
  obtain ⟨ai, ci, an', cn, rfl, rfl⟩ := r_slices hv
  obtain ⟨pe, ce, pv, cv, rfl, rfl, z1, z2, z3, z4⟩ := ht.sl
  obtain ⟨U0, hU0⟩ : ∃ U, U = w.alloc (.cells #[.int .i64 v.h.k, .bool v.h.b, .int .i64 v.h.n, .string v.h.s, .string v.h.t, .string v.h.i, .slice ai v.l.length ci, .slice an' v.ns.length cn] 27) := ⟨_, rfl⟩
  obtain ⟨U1, hU1⟩ : ∃ U, U = U0.alloc (.cells #[.int .i64 t.k, .string t.n, .slice pe t.l.length ce, .slice pv t.ats.length cv] 31) := ⟨_, rfl⟩
  have s0 : U0.heap.size = w.heap.size + 1 := by rw [hU0]; simp
  have L0 : Low U0 U1 := by rw [hU1]; exact low_new (Low.refl _) _
  have LU1 := Lib.hid (show Low w U1 from (by rw [hU0]; exact low_new (Low.refl w) _ : Low w U0).trans L0)
  have BV1 := Lib.hid ((BoxAt.made (cs := [.int .i64 v.h.k, .bool v.h.b, .int .i64 v.h.n, .string v.h.s, .string v.h.t, .string v.h.i, .slice ai v.l.length ci, .slice an' v.ns.length cn]) hU0 rfl rfl).low L0)
  have BT1 := Lib.hid (BoxAt.made (cs := [.int .i64 t.k, .string t.n, .slice pe t.l.length ce, .slice pv t.ats.length cv]) hU1 s0 rfl)
  obtain ⟨r, hr⟩ : ∃ r, r = isV (n + 1) v t := ⟨_, rfl⟩
  rw [← hr]
  have HR := Lib.hid hr
  rw [hU0] at hU1
  have HU := Lib.hid hU1
  have HV := Lib.hid hv
  have HO := Lib.hid ho
  have HM := Lib.hid hm
  have HL := Lib.hid hl
  have HA := Lib.hid ha
  have HI := Lib.hid hro
  have HN := Lib.hid hna
  have HIH := Lib.hid ih
  have HK := Lib.hid hk
  clear hv ho hm ht hl ha hro hna hU1 hU0 L0 s0 hr ih hs hk
  unfold avv tv
  go_enter Tryz.func15, Tryz.ntmps15
  go_upto_region 1 with fail
  rw [← HU.out]
  clear HU
  go_upto_region 2 with fail
  refine gen_w (P := fun W => Code.wp _ _ _ _ W) (fun U hU => ?_)
  have LQ := Lib.hid (show Low U1 U by rw [hU]; exact low_new (Low.refl _) _)
  have LU := Lib.hid (LU1.out.trans LQ.out)
  have BV := Lib.hid (BV1.out.low LQ.out)
  have BT := Lib.hid (BT1.out.low LQ.out)
  have BK := Lib.hid (BoxAt.made (cs := [.int .i64 0, .int .i64 1, .int .i64 1, .int .i64 1, .int .i64 2, .int .i64 3, .int .i64 4, .int .i64 5, .int .i64 6]) hU rfl rfl)
  clear hU BV1 BT1 LQ LU1
  obtain ⟨f0, f1, f2, f3, f4, f5, f6, f7⟩ := BV.out.at8
  obtain ⟨g0, g1, g2, g3⟩ := BT.out.at4
  obtain ⟨k0, k1, k2, k3, k4, k5, k6, k7, k8⟩ := BK.out.at9
  haveI := InL.some U
  have hk := HK.out
  rw [hk] at g0
  by_cases hv1 : v.h.k = 3
  · rw [hv1] at f0
    have g0p := fun q : InL U => q.cell g0
    have f0p := fun q : InL U => q.cell f0
    have k5p := fun q : InL U => q.cell k5
    refine wp_region_low mixedT (by kernel_rfl) ?_
    repeat (go_big_quiet_step (fail))
    refine wpQuiet_nil ?_
    rintro W8 ⟨p8, hW8⟩
    have l8 : Low U W8 := by rw [hW8]; exact p8.ok
    have L8 := Lib.hid l8
    have f1 := l8.keep f1
    have f4 := l8.keep f4
    have g0 := l8.keep g0
    have g1 := l8.keep g1
    clear hW8 p8 g0p f0p k5p l8 f0 f2 f3 f5 f6 f7 g2 g3 k0 k1 k2 k3 k4 k5 k6 k7 k8 this
    have HF := Lib.hid (show true = r by rw [HR.out, isV, if_neg (by omega), if_neg (by omega), if_neg (by omega), if_neg (by omega), if_pos hk, decide_eq_true hv1])
    clear hk hv1
    go_wp2_with fail
    go_ret
    exact ⟨retB HF.out, LU.out.trans L8.out⟩
  · have HF := Lib.hid (show false = r by rw [HR.out, isV_kind (.inr (.inr (by rw [hk]; exact hv1)))])
    have hb1 := beq_fr hv1
    clear hk
    have g0p := fun q : InL U => q.cell g0
    have f0p := fun q : InL U => q.cell f0
    have k5p := fun q : InL U => q.cell k5
    refine wp_region_low mixedT (by kernel_rfl) ?_
    repeat (go_big_quiet_step (fail))
    refine wpQuiet_nil ?_
    rintro W8 ⟨p8, hW8⟩
    have l8 : Low U W8 := by rw [hW8]; exact p8.ok
    have L8 := Lib.hid l8
    have f1 := l8.keep f1
    have f4 := l8.keep f4
    have g0 := l8.keep g0
    have g1 := l8.keep g1
    clear hW8 p8 g0p f0p k5p l8 f0 f2 f3 f5 f6 f7 g2 g3 k0 k1 k2 k3 k4 k5 k6 k7 k8 this
    go_wp2_with fail
    go_ret
    exact ⟨retB HF.out, LU.out.trans L8.out⟩
set_option maxHeartbeats 12800000 in
set_option maxRecDepth 100000 in
theorem rv_6 (n : Nat) (ih : RvC n) (v : V) (t : T) (w : World) (it nm e u : Value) (ho : Okv v) (hm : mayB (n + 1) t = true) (hv : R w v it nm) (ht : RT (fun _ => True) w (n + 1) t e u) (hk : t.k = 6) :
    Calls Tryz.prog 15 #[avv v.h it nm, tv t e u] w fun r w' => r = .returned (.bool (isV (n + 1) v t)) ∧ Low w w' := by
  obtain ⟨hs, hl, ha⟩ := rt_succ.1 ht
  have hro : Ro w v.l it := (rep_v.1 hv).2.2
  have hna : Na w v.ns nm := (rep_v.1 hv).2.1
  have zl9 : v.l.length ≤ 9223372036854775807 := by obtain ⟨_, _, _, ⟨y1, y2⟩, -⟩ := id hro; omega
  have zn9 : v.ns.length ≤ 9223372036854775807 := by obtain ⟨_, _, _, y1, -⟩ := id hna; exact y1
  obtain ⟨ai, ci, an', cn, rfl, rfl⟩ := r_slices hv
  obtain ⟨pe, ce, pv, cv, rfl, rfl, z1, z2, z3, z4⟩ := ht.sl
  obtain ⟨U0, hU0⟩ : ∃ U, U = w.alloc (.cells #[.int .i64 v.h.k, .bool v.h.b, .int .i64 v.h.n, .string v.h.s, .string v.h.t, .string v.h.i, .slice ai v.l.length ci, .slice an' v.ns.length cn] 27) := ⟨_, rfl⟩
  obtain ⟨U1, hU1⟩ : ∃ U, U = U0.alloc (.cells #[.int .i64 t.k, .string t.n, .slice pe t.l.length ce, .slice pv t.ats.length cv] 31) := ⟨_, rfl⟩
  have s0 : U0.heap.size = w.heap.size + 1 := by rw [hU0]; simp
  have L0 : Low U0 U1 := by rw [hU1]; exact low_new (Low.refl _) _
  have LU1 := Lib.hid (show Low w U1 from (by rw [hU0]; exact low_new (Low.refl w) _ : Low w U0).trans L0)
  have BV1 := Lib.hid ((BoxAt.made (cs := [.int .i64 v.h.k, .bool v.h.b, .int .i64 v.h.n, .string v.h.s, .string v.h.t, .string v.h.i, .slice ai v.l.length ci, .slice an' v.ns.length cn]) hU0 rfl rfl).low L0)
  have BT1 := Lib.hid (BoxAt.made (cs := [.int .i64 t.k, .string t.n, .slice pe t.l.length ce, .slice pv t.ats.length cv]) hU1 s0 rfl)
  obtain ⟨r, hr⟩ : ∃ r, r = isV (n + 1) v t := ⟨_, rfl⟩
  rw [← hr]
  have HR := Lib.hid hr
  rw [hU0] at hU1
  have HU := Lib.hid hU1
  have HV := Lib.hid hv
  have HO := Lib.hid ho
  have HM := Lib.hid hm
  have HL := Lib.hid hl
  have HA := Lib.hid ha
  have HI := Lib.hid hro
  have HN := Lib.hid hna
  have HIH := Lib.hid ih
  have HK := Lib.hid hk
  clear hv ho hm ht hl ha hro hna hU1 hU0 L0 s0 hr ih hs hk
  unfold avv tv
  go_enter Tryz.func15, Tryz.ntmps15
  go_upto_region 1 with fail
  rw [← HU.out]
  clear HU
  go_upto_region 2 with fail
  refine gen_w (P := fun W => Code.wp _ _ _ _ W) (fun U hU => ?_)
  have LQ := Lib.hid (show Low U1 U by rw [hU]; exact low_new (Low.refl _) _)
  have LU := Lib.hid (LU1.out.trans LQ.out)
  have BV := Lib.hid (BV1.out.low LQ.out)
  have BT := Lib.hid (BT1.out.low LQ.out)
  have BK := Lib.hid (BoxAt.made (cs := [.int .i64 0, .int .i64 1, .int .i64 1, .int .i64 1, .int .i64 2, .int .i64 3, .int .i64 4, .int .i64 5, .int .i64 6]) hU rfl rfl)
  clear hU BV1 BT1 LQ LU1
  obtain ⟨f0, f1, f2, f3, f4, f5, f6, f7⟩ := BV.out.at8
  obtain ⟨g0, g1, g2, g3⟩ := BT.out.at4
  obtain ⟨k0, k1, k2, k3, k4, k5, k6, k7, k8⟩ := BK.out.at9
  haveI := InL.some U
  have hk := HK.out
  rw [hk] at g0
  by_cases hv1 : v.h.k = 4
  · rw [hv1] at f0
    have g0p := fun q : InL U => q.cell g0
    have f0p := fun q : InL U => q.cell f0
    have k6p := fun q : InL U => q.cell k6
    refine wp_region_low mixedT (by kernel_rfl) ?_
    repeat (go_big_quiet_step (fail))
    refine wpQuiet_nil ?_
    rintro W8 ⟨p8, hW8⟩
    have l8 : Low U W8 := by rw [hW8]; exact p8.ok
    have L8 := Lib.hid l8
    have f1 := l8.keep f1
    have f4 := l8.keep f4
    have g0 := l8.keep g0
    have g1 := l8.keep g1
    clear hW8 p8 g0p f0p k6p l8 f0 f2 f3 f5 f6 f7 g2 g3 k0 k1 k2 k3 k4 k5 k6 k7 k8 this
    have HF0 := Lib.hid (show decide (v.h.t = t.n) = r by rw [HR.out, isV, if_neg (by omega), if_neg (by omega), if_neg (by omega), if_neg (by omega), if_neg (by omega), if_pos hk, decide_eq_true hv1, Bool.true_and])
    clear hk hv1
    by_cases he : v.h.t = t.n
    · have HF := Lib.hid (show true = r by rw [← HF0.out, decide_eq_true he])
      rw [he] at f4
      clear he
      go_wp2_with fail
      go_ret
      exact ⟨retB HF.out, LU.out.trans L8.out⟩
    · have HF := Lib.hid (show false = r by rw [← HF0.out, decide_eq_false he])
      have he2 : ¬ v.h.t.toList = t.n.toList := fun h => he (tl_inj.1 h)
      have he3 : (v.h.t.toList == t.n.toList) = false := by simpa using he2
      clear he
      go_wp2_with fail
      go_ret
      exact ⟨retB HF.out, LU.out.trans L8.out⟩
  · have HF := Lib.hid (show false = r by rw [HR.out, isV_kind (.inr (.inr (by rw [hk]; exact hv1)))])
    have hb1 := beq_fr hv1
    clear hk
    have g0p := fun q : InL U => q.cell g0
    have f0p := fun q : InL U => q.cell f0
    have k6p := fun q : InL U => q.cell k6
    refine wp_region_low mixedT (by kernel_rfl) ?_
    repeat (go_big_quiet_step (fail))
    refine wpQuiet_nil ?_
    rintro W8 ⟨p8, hW8⟩
    have l8 : Low U W8 := by rw [hW8]; exact p8.ok
    have L8 := Lib.hid l8
    have f1 := l8.keep f1
    have f4 := l8.keep f4
    have g0 := l8.keep g0
    have g1 := l8.keep g1
    clear hW8 p8 g0p f0p k6p l8 f0 f2 f3 f5 f6 f7 g2 g3 k0 k1 k2 k3 k4 k5 k6 k7 k8 this
    go_wp2_with fail
    go_ret
    exact ⟨retB HF.out, LU.out.trans L8.out⟩
set_option maxHeartbeats 12800000 in
set_option maxRecDepth 100000 in
theorem rv_7 (n : Nat) (ih : RvC n) (v : V) (t : T) (w : World) (it nm e u : Value) (ho : Okv v) (hm : mayB (n + 1) t = true) (hv : R w v it nm) (ht : RT (fun _ => True) w (n + 1) t e u) (hk : t.k = 7) :
    Calls Tryz.prog 15 #[avv v.h it nm, tv t e u] w fun r w' => r = .returned (.bool (isV (n + 1) v t)) ∧ Low w w' := by
  obtain ⟨hs, hl, ha⟩ := rt_succ.1 ht
  have hro : Ro w v.l it := (rep_v.1 hv).2.2
  have hna : Na w v.ns nm := (rep_v.1 hv).2.1
  have zl9 : v.l.length ≤ 9223372036854775807 := by obtain ⟨_, _, _, ⟨y1, y2⟩, -⟩ := id hro; omega
  have zn9 : v.ns.length ≤ 9223372036854775807 := by obtain ⟨_, _, _, y1, -⟩ := id hna; exact y1
  obtain ⟨ai, ci, an', cn, rfl, rfl⟩ := r_slices hv
  obtain ⟨pe, ce, pv, cv, rfl, rfl, z1, z2, z3, z4⟩ := ht.sl
  obtain ⟨U0, hU0⟩ : ∃ U, U = w.alloc (.cells #[.int .i64 v.h.k, .bool v.h.b, .int .i64 v.h.n, .string v.h.s, .string v.h.t, .string v.h.i, .slice ai v.l.length ci, .slice an' v.ns.length cn] 27) := ⟨_, rfl⟩
  obtain ⟨U1, hU1⟩ : ∃ U, U = U0.alloc (.cells #[.int .i64 t.k, .string t.n, .slice pe t.l.length ce, .slice pv t.ats.length cv] 31) := ⟨_, rfl⟩
  have s0 : U0.heap.size = w.heap.size + 1 := by rw [hU0]; simp
  have L0 : Low U0 U1 := by rw [hU1]; exact low_new (Low.refl _) _
  have LU1 := Lib.hid (show Low w U1 from (by rw [hU0]; exact low_new (Low.refl w) _ : Low w U0).trans L0)
  have BV1 := Lib.hid ((BoxAt.made (cs := [.int .i64 v.h.k, .bool v.h.b, .int .i64 v.h.n, .string v.h.s, .string v.h.t, .string v.h.i, .slice ai v.l.length ci, .slice an' v.ns.length cn]) hU0 rfl rfl).low L0)
  have BT1 := Lib.hid (BoxAt.made (cs := [.int .i64 t.k, .string t.n, .slice pe t.l.length ce, .slice pv t.ats.length cv]) hU1 s0 rfl)
  obtain ⟨r, hr⟩ : ∃ r, r = isV (n + 1) v t := ⟨_, rfl⟩
  rw [← hr]
  have HR := Lib.hid hr
  rw [hU0] at hU1
  have HU := Lib.hid hU1
  have HV := Lib.hid hv
  have HO := Lib.hid ho
  have HM := Lib.hid hm
  have HL := Lib.hid hl
  have HA := Lib.hid ha
  have HI := Lib.hid hro
  have HN := Lib.hid hna
  have HIH := Lib.hid ih
  have HK := Lib.hid hk
  clear hv ho hm ht hl ha hro hna hU1 hU0 L0 s0 hr ih hs hk
  unfold avv tv
  go_enter Tryz.func15, Tryz.ntmps15
  go_upto_region 1 with fail
  rw [← HU.out]
  clear HU
  go_upto_region 2 with fail
  refine gen_w (P := fun W => Code.wp _ _ _ _ W) (fun U hU => ?_)
  have LQ := Lib.hid (show Low U1 U by rw [hU]; exact low_new (Low.refl _) _)
  have LU := Lib.hid (LU1.out.trans LQ.out)
  have BV := Lib.hid (BV1.out.low LQ.out)
  have BT := Lib.hid (BT1.out.low LQ.out)
  have BK := Lib.hid (BoxAt.made (cs := [.int .i64 0, .int .i64 1, .int .i64 1, .int .i64 1, .int .i64 2, .int .i64 3, .int .i64 4, .int .i64 5, .int .i64 6]) hU rfl rfl)
  clear hU BV1 BT1 LQ LU1
  obtain ⟨f0, f1, f2, f3, f4, f5, f6, f7⟩ := BV.out.at8
  obtain ⟨g0, g1, g2, g3⟩ := BT.out.at4
  obtain ⟨k0, k1, k2, k3, k4, k5, k6, k7, k8⟩ := BK.out.at9
  haveI := InL.some U
  have hk := HK.out
  rw [hk] at g0
  by_cases hv1 : v.h.k = 5
  · rw [hv1] at f0
    have g0p := fun q : InL U => q.cell g0
    have f0p := fun q : InL U => q.cell f0
    have k7p := fun q : InL U => q.cell k7
    refine wp_region_low mixedT (by kernel_rfl) ?_
    repeat (go_big_quiet_step (fail))
    refine wpQuiet_nil ?_
    rintro W8 ⟨p8, hW8⟩
    have l8 : Low U W8 := by rw [hW8]; exact p8.ok
    have L8 := Lib.hid l8
    have f1 := l8.keep f1
    have f4 := l8.keep f4
    have g0 := l8.keep g0
    have g1 := l8.keep g1
    clear hW8 p8 g0p f0p k7p l8 f0 f2 f3 f5 f6 f7 g2 g3 k0 k1 k2 k3 k4 k5 k6 k7 k8 this
    obtain ⟨y, hy, hhy, my⟩ := may_set HM.out hk
    have hyl : t.l.length = 1 := by rw [hy]; rfl
    rw [hyl] at HL BT
    rw [hy] at HL
    have CY := Lib.hid (show (∀ i (hi : i < v.l.length), isV n v.l[i] y = true) → true = r from fun h => by rw [HR.out]; exact (isV_set_yes hk hv1 (by rw [hhy]; exact h)).symm)
    have CN := Lib.hid (show ∀ i (hi : i < v.l.length), isV n v.l[i] y = false → false = r from fun i hi h => by rw [HR.out]; exact (isV_set_no hk hv1 hi (by rw [hhy]; exact h)).symm)
    have HMY := Lib.hid my
    clear hy hhy my hyl f1 f4 g1 hk hv1
    have L8U := Lib.hid (LU.out.trans L8.out)
    have BV := Lib.hid (BV.out.low L8.out)
    have BT := Lib.hid (BT.out.low L8.out)
    go_wp2_with fail
    go_loopg [6] v.l.length (fun gk vi wr => ∃ i : Nat, vi = .int .i64 (i : Int) ∧ i ≤ v.l.length ∧ v.l.length - i ≤ gk ∧ Hid (Low W8 wr) ∧ Hid (∀ j (hj : j < v.l.length), j < i → isV n v.l[j] y = true))
    case atStart => exact ⟨0, rfl, Nat.zero_le _, Nat.le_refl _, Lib.hid (Low.refl _), Lib.hid fun j hj h => absurd h (Nat.not_lt_zero _)⟩
    case round =>
      clear g0
      obtain ⟨i, rfl, hi, hg, G, K⟩ := hrel
      obtain ⟨f0, f1, f2, f3, f4, f5, f6, f7⟩ := (BV.out.low G.out).at8
      obtain ⟨g0, g1, g2, g3⟩ := (BT.out.low G.out).at4
      have GW := Lib.hid (L8U.out.trans G.out)
      by_cases hlt : i < v.l.length
      · have zl : (i : Int) < (v.l.length : Int) := by omega
        obtain ⟨b, o, bi, di, bn, dn, rfl, hcs, hrx⟩ := ro_at (RowAt.low HI.out GW.out) hlt
        obtain ⟨e0, e1, e2, e3, e4, e5, e6, e7⟩ := cells8 hcs
        obtain ⟨p', o', qe, de, qv, dv, rfl, -, h0, h1, h2, h3, hy⟩ := RL.at (RL.low HL.out GW.out) (j := 0) (by simp)
        simp only [List.getElem_cons_zero, Nat.zero_mul, Nat.add_zero] at h0 h1 h2 h3 hy
        have HC := Lib.hid fun q : InL wr => Calls.low q (HIH.out v.l[i] y q.w _ _ _ _ (HO.out.item (List.getElem_mem hlt)) HMY.out (Rep.low hrx q.ok) (hy.low q.ok))
        obtain ⟨c, hc⟩ : ∃ c, c = isV n v.l[i] y := ⟨_, rfl⟩
        rw [← hc] at HC
        have HCC := Lib.hid hc
        unfold avv tv at HC
        clear hcs hrx hy hc
        have f6p := fun q : InL wr => q.cell f6
        have g2p := fun q : InL wr => q.cell g2
        have e0p := fun q : InL wr => q.cell e0
        have e1p := fun q : InL wr => q.cell e1
        have e2p := fun q : InL wr => q.cell e2
        have e3p := fun q : InL wr => q.cell e3
        have e4p := fun q : InL wr => q.cell e4
        have e5p := fun q : InL wr => q.cell e5
        have e6p := fun q : InL wr => q.cell e6
        have e7p := fun q : InL wr => q.cell e7
        have h0p := fun q : InL wr => q.cell h0
        have h1p := fun q : InL wr => q.cell h1
        have h2p := fun q : InL wr => q.cell h2
        have h3p := fun q : InL wr => q.cell h3
        haveI := InL.some wr
        go_upto_region 15 with fail
        refine wp_region_low mixedT (by kernel_rfl) ?_
        repeat (go_big_quiet_step (with_reducible exact HC.out _))
        refine wpQuiet_nil ?_
        rintro W9 ⟨p9, hW9⟩
        have L9 := Lib.hid (show Low W8 W9 by rw [hW9]; exact G.out.trans p9.ok)
        clear hW9 p9 HC f0 f1 f2 f3 f4 f5 f6 f7 g0 g1 g2 g3 e0 e1 e2 e3 e4 e5 e6 e7 h0 h1 h2 h3 f6p g2p e0p e1p e2p e3p e4p e5p e6p e7p h0p h1p h2p h3p this
        cases c with
        | false =>
          have HF := Lib.hid (CN.out i hlt HCC.out.symm)
          go_wp2_with fail
          go_ret
          exact ⟨retB HF.out, L8U.out.trans L9.out⟩
        | true =>
          go_wp2_with fail
          go_roundg (v.l.length - (i + 1))
          case measure => omega
          case rel =>
            refine ⟨i + 1, by go_num, by omega, by omega, L9, Lib.hid fun j hj hji => ?_⟩
            rcases Nat.lt_succ_iff_lt_or_eq.1 hji with h | rfl
            · exact K.out j hj h
            · exact HCC.out.symm
      · have zl : ¬ (i : Int) < (v.l.length : Int) := by omega
        have HF := Lib.hid (CY.out fun j hj => K.out j hj (by omega))
        go_wp2_with fail
        go_ret
        exact ⟨retB HF.out, GW.out⟩
  · have HF := Lib.hid (show false = r by rw [HR.out, isV_kind (.inr (.inr (by rw [hk]; exact hv1)))])
    have hb1 := beq_fr hv1
    clear hk
    have g0p := fun q : InL U => q.cell g0
    have f0p := fun q : InL U => q.cell f0
    have k7p := fun q : InL U => q.cell k7
    refine wp_region_low mixedT (by kernel_rfl) ?_
    repeat (go_big_quiet_step (fail))
    refine wpQuiet_nil ?_
    rintro W8 ⟨p8, hW8⟩
    have l8 : Low U W8 := by rw [hW8]; exact p8.ok
    have L8 := Lib.hid l8
    have f1 := l8.keep f1
    have f4 := l8.keep f4
    have g0 := l8.keep g0
    have g1 := l8.keep g1
    clear hW8 p8 g0p f0p k7p l8 f0 f2 f3 f5 f6 f7 g2 g3 k0 k1 k2 k3 k4 k5 k6 k7 k8 this
    go_wp2_with fail
    go_ret
    exact ⟨retB HF.out, LU.out.trans L8.out⟩
set_option maxHeartbeats 12800000 in
set_option maxRecDepth 100000 in
theorem rv_8 (n : Nat) (ih : RvC n) (v : V) (t : T) (w : World) (it nm e u : Value) (ho : Okv v) (hm : mayB (n + 1) t = true) (hv : R w v it nm) (ht : RT (fun _ => True) w (n + 1) t e u) (hk : t.k = 8) :
    Calls Tryz.prog 15 #[avv v.h it nm, tv t e u] w fun r w' => r = .returned (.bool (isV (n + 1) v t)) ∧ Low w w' := by
  obtain ⟨hs, hl, ha⟩ := rt_succ.1 ht
  have hro : Ro w v.l it := (rep_v.1 hv).2.2
  have hna : Na w v.ns nm := (rep_v.1 hv).2.1
  have zl9 : v.l.length ≤ 9223372036854775807 := by obtain ⟨_, _, _, ⟨y1, y2⟩, -⟩ := id hro; omega
  have zn9 : v.ns.length ≤ 9223372036854775807 := by obtain ⟨_, _, _, y1, -⟩ := id hna; exact y1
  obtain ⟨ai, ci, an', cn, rfl, rfl⟩ := r_slices hv
  obtain ⟨pe, ce, pv, cv, rfl, rfl, z1, z2, z3, z4⟩ := ht.sl
  obtain ⟨U0, hU0⟩ : ∃ U, U = w.alloc (.cells #[.int .i64 v.h.k, .bool v.h.b, .int .i64 v.h.n, .string v.h.s, .string v.h.t, .string v.h.i, .slice ai v.l.length ci, .slice an' v.ns.length cn] 27) := ⟨_, rfl⟩
  obtain ⟨U1, hU1⟩ : ∃ U, U = U0.alloc (.cells #[.int .i64 t.k, .string t.n, .slice pe t.l.length ce, .slice pv t.ats.length cv] 31) := ⟨_, rfl⟩
  have s0 : U0.heap.size = w.heap.size + 1 := by rw [hU0]; simp
  have L0 : Low U0 U1 := by rw [hU1]; exact low_new (Low.refl _) _
  have LU1 := Lib.hid (show Low w U1 from (by rw [hU0]; exact low_new (Low.refl w) _ : Low w U0).trans L0)
  have BV1 := Lib.hid ((BoxAt.made (cs := [.int .i64 v.h.k, .bool v.h.b, .int .i64 v.h.n, .string v.h.s, .string v.h.t, .string v.h.i, .slice ai v.l.length ci, .slice an' v.ns.length cn]) hU0 rfl rfl).low L0)
  have BT1 := Lib.hid (BoxAt.made (cs := [.int .i64 t.k, .string t.n, .slice pe t.l.length ce, .slice pv t.ats.length cv]) hU1 s0 rfl)
  obtain ⟨r, hr⟩ : ∃ r, r = isV (n + 1) v t := ⟨_, rfl⟩
  rw [← hr]
  have HR := Lib.hid hr
  rw [hU0] at hU1
  have HU := Lib.hid hU1
  have HV := Lib.hid hv
  have HO := Lib.hid ho
  have HM := Lib.hid hm
  have HL := Lib.hid hl
  have HA := Lib.hid ha
  have HI := Lib.hid hro
  have HN := Lib.hid hna
  have HIH := Lib.hid ih
  have HK := Lib.hid hk
  clear hv ho hm ht hl ha hro hna hU1 hU0 L0 s0 hr ih hs hk
  unfold avv tv
  go_enter Tryz.func15, Tryz.ntmps15
  go_upto_region 1 with fail
  rw [← HU.out]
  clear HU
  go_upto_region 2 with fail
  refine gen_w (P := fun W => Code.wp _ _ _ _ W) (fun U hU => ?_)
  have LQ := Lib.hid (show Low U1 U by rw [hU]; exact low_new (Low.refl _) _)
  have LU := Lib.hid (LU1.out.trans LQ.out)
  have BV := Lib.hid (BV1.out.low LQ.out)
  have BT := Lib.hid (BT1.out.low LQ.out)
  have BK := Lib.hid (BoxAt.made (cs := [.int .i64 0, .int .i64 1, .int .i64 1, .int .i64 1, .int .i64 2, .int .i64 3, .int .i64 4, .int .i64 5, .int .i64 6]) hU rfl rfl)
  clear hU BV1 BT1 LQ LU1
  obtain ⟨f0, f1, f2, f3, f4, f5, f6, f7⟩ := BV.out.at8
  obtain ⟨g0, g1, g2, g3⟩ := BT.out.at4
  obtain ⟨k0, k1, k2, k3, k4, k5, k6, k7, k8⟩ := BK.out.at9
  haveI := InL.some U
  have hk := HK.out
  rw [hk] at g0
  by_cases hv1 : v.h.k = 6
  · rw [hv1] at f0
    have g0p := fun q : InL U => q.cell g0
    have f0p := fun q : InL U => q.cell f0
    have k8p := fun q : InL U => q.cell k8
    refine wp_region_low mixedT (by kernel_rfl) ?_
    repeat (go_big_quiet_step (fail))
    refine wpQuiet_nil ?_
    rintro W8 ⟨p8, hW8⟩
    have l8 : Low U W8 := by rw [hW8]; exact p8.ok
    have L8 := Lib.hid l8
    have f1 := l8.keep f1
    have f4 := l8.keep f4
    have g0 := l8.keep g0
    have g1 := l8.keep g1
    clear hW8 p8 g0p f0p k8p l8 f0 f2 f3 f5 f6 f7 g2 g3 k0 k1 k2 k3 k4 k5 k6 k7 k8 this
    obtain ⟨hnl, hnd⟩ := HO.out.rec' hv1
    have CY := Lib.hid (show (∀ i (hi : i < v.ns.length) (hil : i < v.l.length), ∃ k, ∃ hk : k < t.ats.length, atI t.ats v.ns[i] = (k : Int) ∧ isV n v.l[i] (aty t.ats[k]) = true) → (∀ j (hj : j < t.ats.length), ao t.ats[j] = true ∨ an t.ats[j] ∈ v.ns) → true = r from fun h1 h2 => by rw [HR.out]; exact (isV_rec_yes hk hv1 (by omega) (fun i hi => h1 i hi (by omega)) h2).symm)
    have CN := Lib.hid (show ∀ i (hi : i < v.ns.length) (hil : i < v.l.length), (atI t.ats v.ns[i] = -1 ∨ ∃ k, ∃ hk : k < t.ats.length, atI t.ats v.ns[i] = (k : Int) ∧ isV n v.l[i] (aty t.ats[k]) = false) → false = r from fun i hi hil h => by rw [HR.out]; exact (isV_rec_no hk hv1 hi hil h).symm)
    have CL := Lib.hid (show ∀ j (hj : j < t.ats.length), ao t.ats[j] = false → an t.ats[j] ∉ v.ns → false = r from fun j hj h1 h2 => by rw [HR.out]; exact (isV_rec_lacks hk hv1 hj h1 h2).symm)
    have HMA := Lib.hid (show ∀ k (hk : k < t.ats.length), mayB n (aty t.ats[k]) = true from fun k hk2 => may_as HM.out (List.getElem_mem hk2))
    have HGM := Lib.hid (show ∀ s, getI v s < 0 ↔ s ∉ v.ns from getI_mem hv1 hnl)
    have HNL := Lib.hid hnl
    clear f1 f4 g1 hk hnl hnd hv1
    have L8U := Lib.hid (LU.out.trans L8.out)
    have BV := Lib.hid (BV.out.low L8.out)
    have BT := Lib.hid (BT.out.low L8.out)
    go_wp2_with fail
    go_loopg [8] v.ns.length (fun gk vi wr => ∃ i : Nat, vi = .int .i64 (i : Int) ∧ i ≤ v.ns.length ∧ v.ns.length - i ≤ gk ∧ Hid (Low W8 wr) ∧ Hid (∀ j (hj : j < v.ns.length) (hjl : j < v.l.length), j < i → ∃ k, ∃ hk : k < t.ats.length, atI t.ats v.ns[j] = (k : Int) ∧ isV n v.l[j] (aty t.ats[k]) = true))
    case atStart => exact ⟨0, rfl, Nat.zero_le _, Nat.le_refl _, Lib.hid (Low.refl _), Lib.hid fun j hj hjl h => absurd h (Nat.not_lt_zero _)⟩
    case round =>
      clear g0
      obtain ⟨i, rfl, hi, hg, G, K⟩ := hrel
      obtain ⟨f0, f1, f2, f3, f4, f5, f6, f7⟩ := (BV.out.low G.out).at8
      obtain ⟨g0, g1, g2, g3⟩ := (BT.out.low G.out).at4
      have GW := Lib.hid (L8U.out.trans G.out)
      by_cases hlt : i < v.ns.length
      · have zl : (i : Int) < (v.ns.length : Int) := by omega
        have hltl : i < v.l.length := by rw [← HNL.out]; exact hlt
        have zll : (i : Int) < (v.l.length : Int) := by omega
        obtain ⟨b, o, rfl, e0, -⟩ := na_at (NamesAt.low HN.out GW.out) hlt
        have HC := Lib.hid fun q : InL wr => Calls.low q (rAttr_c t.ats v.ns[i] q.w _ (RAs.low HA.out (GW.out.trans q.ok)))
        obtain ⟨c, hc⟩ : ∃ c, c = atI t.ats v.ns[i] := ⟨_, rfl⟩
        rw [← hc] at HC
        have HCC := Lib.hid hc
        clear hc
        have f7p := fun q : InL wr => q.cell f7
        have g3p := fun q : InL wr => q.cell g3
        have e0p := fun q : InL wr => q.cell e0
        haveI := InL.some wr
        go_upto_region 22 with fail
        refine wp_region_low mixedT (by kernel_rfl) ?_
        repeat (go_big_quiet_step (with_reducible exact HC.out _))
        refine wpQuiet_nil ?_
        rintro W9 ⟨p9, hW9⟩
        have L9 := Lib.hid (show Low W8 W9 by rw [hW9]; exact G.out.trans p9.ok)
        clear hW9 p9 HC f0 f1 f2 f3 f4 f5 f6 f7 g0 g1 g2 g3 e0 f7p g3p e0p this
        rcases gtAt_i t.ats v.ns[i] with ⟨hk, -⟩ | ⟨k, hkl, hk, -⟩
        · have hcm : c = -1 := by rw [HCC.out]; exact hk
          have HF := Lib.hid (CN.out i hlt hltl (.inl hk))
          subst hcm
          clear hk
          go_wp2_with fail
          go_ret
          exact ⟨retB HF.out, L8U.out.trans L9.out⟩
        · have hcm : c = (k : Int) := by rw [HCC.out]; exact hk
          have HKI := Lib.hid hk
          subst hcm
          have zk : (k : Int) < (t.ats.length : Int) := by omega
          have zk0 : ¬ (k : Int) < 0 := by omega
          obtain ⟨f0, f1, f2, f3, f4, f5, f6, f7⟩ := (BV.out.low L9.out).at8
          obtain ⟨g0, g1, g2, g3⟩ := (BT.out.low L9.out).at4
          have GW9 := Lib.hid (L8U.out.trans L9.out)
          obtain ⟨b, o, bi, di, bn, dn, rfl, hcs, hrx⟩ := ro_at (RowAt.low HI.out GW9.out) hltl
          obtain ⟨e0, e1, e2, e3, e4, e5, e6, e7⟩ := cells8 hcs
          obtain ⟨p', o', qe, de, qv, dv, rfl, -, h0, h1, h2, h3, h4, h5, -, hy⟩ := RAs.at (RAs.low HA.out GW9.out) hkl
          have HC := Lib.hid fun q : InL W9 => Calls.low q (HIH.out v.l[i] (aty t.ats[k]) q.w _ _ _ _ (HO.out.item (List.getElem_mem hltl)) (HMA.out k hkl) (Rep.low hrx q.ok) (hy.low q.ok))
          obtain ⟨d, hd⟩ : ∃ c, c = isV n v.l[i] (aty t.ats[k]) := ⟨_, rfl⟩
          rw [← hd] at HC
          have HDD := Lib.hid hd
          unfold avv tv at HC
          clear hcs hrx hy hd hk HCC
          have f6p := fun q : InL W9 => q.cell f6
          have g3p := fun q : InL W9 => q.cell g3
          have e0p := fun q : InL W9 => q.cell e0
          have e1p := fun q : InL W9 => q.cell e1
          have e2p := fun q : InL W9 => q.cell e2
          have e3p := fun q : InL W9 => q.cell e3
          have e4p := fun q : InL W9 => q.cell e4
          have e5p := fun q : InL W9 => q.cell e5
          have e6p := fun q : InL W9 => q.cell e6
          have e7p := fun q : InL W9 => q.cell e7
          have h1p := fun q : InL W9 => q.cell h1
          have h2p := fun q : InL W9 => q.cell h2
          have h3p := fun q : InL W9 => q.cell h3
          have h4p := fun q : InL W9 => q.cell h4
          haveI := InL.some W9
          go_upto_region 25 with fail
          refine wp_region_low mixedT (by kernel_rfl) ?_
          repeat (go_big_quiet_step (with_reducible exact HC.out _))
          refine wpQuiet_nil ?_
          rintro W10 ⟨p10, hW10⟩
          have L10 := Lib.hid (show Low W8 W10 by rw [hW10]; exact L9.out.trans p10.ok)
          clear hW10 p10 HC f0 f1 f2 f3 f4 f5 f6 f7 g0 g1 g2 g3 e0 e1 e2 e3 e4 e5 e6 e7 h0 h1 h2 h3 h4 h5 f6p g3p e0p e1p e2p e3p e4p e5p e6p e7p h1p h2p h3p h4p this
          cases d with
          | false =>
            have HF := Lib.hid (CN.out i hlt hltl (.inr ⟨k, hkl, HKI.out, HDD.out.symm⟩))
            go_wp2_with fail
            go_ret
            exact ⟨retB HF.out, L8U.out.trans L10.out⟩
          | true =>
            go_wp2_with fail
            go_roundg (v.ns.length - (i + 1))
            case measure => omega
            case rel =>
              refine ⟨i + 1, by go_num, by omega, by omega, L10, Lib.hid fun j hj hjl hji => ?_⟩
              rcases Nat.lt_succ_iff_lt_or_eq.1 hji with h | rfl
              · exact K.out j hj hjl h
              · exact ⟨k, hkl, HKI.out, HDD.out.symm⟩
      · have zl : ¬ (i : Int) < (v.ns.length : Int) := by omega
        have HY1 := Lib.hid (show ∀ i (hi : i < v.ns.length) (hil : i < v.l.length), ∃ k, ∃ hk : k < t.ats.length, atI t.ats v.ns[i] = (k : Int) ∧ isV n v.l[i] (aty t.ats[k]) = true from fun j hj hjl => K.out j hj hjl (by omega))
        have HG := Lib.hid G.out
        clear K G hg
        go_wp2_with fail
        clear f0 f1 f2 f3 f4 f5 f6 f7 g0 g1 g2 g3
        go_loopg [11] t.ats.length (fun gk vi wr => ∃ i : Nat, vi = .int .i64 (i : Int) ∧ i ≤ t.ats.length ∧ t.ats.length - i ≤ gk ∧ Hid (Low W8 wr) ∧ Hid (∀ j (hj : j < t.ats.length), j < i → ao t.ats[j] = true ∨ an t.ats[j] ∈ v.ns))
        case atStart => exact ⟨0, rfl, Nat.zero_le _, Nat.le_refl _, HG, Lib.hid fun j hj h => absurd h (Nat.not_lt_zero _)⟩
        case round =>
          clear HG GW zl
          obtain ⟨m, rfl, hm, hg, G, K⟩ := hrel
          obtain ⟨f0, f1, f2, f3, f4, f5, f6, f7⟩ := (BV.out.low G.out).at8
          obtain ⟨g0, g1, g2, g3⟩ := (BT.out.low G.out).at4
          have GW := Lib.hid (L8U.out.trans G.out)
          by_cases hlt2 : m < t.ats.length
          · have zl : (m : Int) < (t.ats.length : Int) := by omega
            obtain ⟨p', o', qe, de, qv, dv, rfl, -, h0, h1, h2, h3, h4, h5, -, -⟩ := RAs.at (RAs.low HA.out GW.out) hlt2
            have HC := Lib.hid fun q : InL wr => Calls.low q ((rGet_c v (an t.ats[m]) q.w _ _ (Rep.low HV.out (GW.out.trans q.ok))).mono fun _ _ ⟨h, g⟩ => ⟨h, g.low⟩)
            obtain ⟨c, hc⟩ : ∃ c, c = getI v (an t.ats[m]) := ⟨_, rfl⟩
            rw [← hc] at HC
            have HCC := Lib.hid (show c < 0 ↔ an t.ats[m] ∉ v.ns by rw [hc]; exact HGM.out _)
            unfold avv at HC
            clear hc
            have f0p := fun q : InL wr => q.cell f0
            have f1p := fun q : InL wr => q.cell f1
            have f2p := fun q : InL wr => q.cell f2
            have f3p := fun q : InL wr => q.cell f3
            have f4p := fun q : InL wr => q.cell f4
            have f5p := fun q : InL wr => q.cell f5
            have f6p := fun q : InL wr => q.cell f6
            have f7p := fun q : InL wr => q.cell f7
            have g3p := fun q : InL wr => q.cell g3
            have h0p := fun q : InL wr => q.cell h0
            haveI := InL.some wr
            obtain ⟨b, hb⟩ : ∃ b, b = ao t.ats[m] := ⟨_, rfl⟩
            rw [← hb] at h5
            have HB := Lib.hid hb
            clear hb
            cases b with
            | true =>
              have h5p := fun q : InL wr => q.cell h5
              go_upto_region 31 with fail
              refine wp_region_low mixedT (by kernel_rfl) ?_
              repeat (go_big_quiet_step (with_reducible exact HC.out _))
              refine wpQuiet_nil ?_
              rintro W9 ⟨p9, hW9⟩
              have L9 := Lib.hid (show Low W8 W9 by rw [hW9]; exact G.out.trans p9.ok)
              clear hW9 p9 HC f0 f1 f2 f3 f4 f5 f6 f7 g0 g1 g2 g3 h0 h1 h2 h3 h4 h5 f0p f1p f2p f3p f4p f5p f6p f7p g3p h0p h5p this
              go_wp2_with fail
              go_roundg (t.ats.length - (m + 1))
              case measure => omega
              case rel =>
                refine ⟨m + 1, by go_num, by omega, by omega, L9, Lib.hid fun j hj hji => ?_⟩
                rcases Nat.lt_succ_iff_lt_or_eq.1 hji with h | rfl
                · exact K.out j hj h
                · exact .inl HB.out.symm
            | false =>
              have h5p := fun q : InL wr => q.cell h5
              by_cases hc0 : c < 0
              · have HF := Lib.hid (CL.out m hlt2 HB.out.symm (HCC.out.1 hc0))
                have hd : decide (c < 0) = true := decide_eq_true hc0
                go_upto_region 31 with fail
                refine wp_region_low mixedT (by kernel_rfl) ?_
                repeat (go_big_quiet_step (with_reducible exact HC.out _))
                refine wpQuiet_nil ?_
                rintro W9 ⟨p9, hW9⟩
                have L9 := Lib.hid (show Low W8 W9 by rw [hW9]; exact G.out.trans p9.ok)
                clear hW9 p9 HC f0 f1 f2 f3 f4 f5 f6 f7 g0 g1 g2 g3 h0 h1 h2 h3 h4 h5 f0p f1p f2p f3p f4p f5p f6p f7p g3p h0p h5p this
                go_wp2_with fail
                go_ret
                exact ⟨retB HF.out, L8U.out.trans L9.out⟩
              · have HK2 := Lib.hid (show an t.ats[m] ∈ v.ns from Classical.byContradiction fun h => hc0 (HCC.out.2 h))
                have hd : decide (c < 0) = false := decide_eq_false hc0
                go_upto_region 31 with fail
                refine wp_region_low mixedT (by kernel_rfl) ?_
                repeat (go_big_quiet_step (with_reducible exact HC.out _))
                refine wpQuiet_nil ?_
                rintro W9 ⟨p9, hW9⟩
                have L9 := Lib.hid (show Low W8 W9 by rw [hW9]; exact G.out.trans p9.ok)
                clear hW9 p9 HC f0 f1 f2 f3 f4 f5 f6 f7 g0 g1 g2 g3 h0 h1 h2 h3 h4 h5 f0p f1p f2p f3p f4p f5p f6p f7p g3p h0p h5p this
                go_wp2_with fail
                go_roundg (t.ats.length - (m + 1))
                case measure => omega
                case rel =>
                  refine ⟨m + 1, by go_num, by omega, by omega, L9, Lib.hid fun j hj hji => ?_⟩
                  rcases Nat.lt_succ_iff_lt_or_eq.1 hji with h | rfl
                  · exact K.out j hj h
                  · exact .inr HK2.out
          · have zl : ¬ (m : Int) < (t.ats.length : Int) := by omega
            have HF := Lib.hid (CY.out HY1.out fun j hj => K.out j hj (by omega))
            go_wp2_with fail
            go_ret
            exact ⟨retB HF.out, GW.out⟩
  · have HF := Lib.hid (show false = r by rw [HR.out, isV_kind (.inr (.inr (by rw [hk]; exact hv1)))])
    have hb1 := beq_fr hv1
    clear hk
    have g0p := fun q : InL U => q.cell g0
    have f0p := fun q : InL U => q.cell f0
    have k8p := fun q : InL U => q.cell k8
    refine wp_region_low mixedT (by kernel_rfl) ?_
    repeat (go_big_quiet_step (fail))
    refine wpQuiet_nil ?_
    rintro W8 ⟨p8, hW8⟩
    have l8 : Low U W8 := by rw [hW8]; exact p8.ok
    have L8 := Lib.hid l8
    have f1 := l8.keep f1
    have f4 := l8.keep f4
    have g0 := l8.keep g0
    have g1 := l8.keep g1
    clear hW8 p8 g0p f0p k8p l8 f0 f2 f3 f5 f6 f7 g2 g3 k0 k1 k2 k3 k4 k5 k6 k7 k8 this
    go_wp2_with fail
    go_ret
    exact ⟨retB HF.out, LU.out.trans L8.out⟩
theorem rv_n (n : Nat) : RvC n := by
  induction n with
  | zero => intro v t w it nm e u _ _ _ h; exact h.elim
  | succ n ih =>
    intro v t w it nm e u ho hm hv ht
    obtain ⟨hk0, hk8⟩ := may_kr hm
    have hcases : t.k = 0 ∨ t.k = 1 ∨ t.k = 2 ∨ t.k = 3 ∨ t.k = 4 ∨ t.k = 5 ∨ t.k = 6 ∨ t.k = 7 ∨ t.k = 8 := by omega
    rcases hcases with hk | hk | hk | hk | hk | hk | hk | hk | hk
    · exact rv_0 n ih v t w it nm e u ho hm hv ht hk
    · exact rv_1 n ih v t w it nm e u ho hm hv ht hk
    · exact rv_2 n ih v t w it nm e u ho hm hv ht hk
    · exact rv_3 n ih v t w it nm e u ho hm hv ht hk
    · exact rv_4 n ih v t w it nm e u ho hm hv ht hk
    · exact rv_5 n ih v t w it nm e u ho hm hv ht hk
    · exact rv_6 n ih v t w it nm e u ho hm hv ht hk
    · exact rv_7 n ih v t w it nm e u ho hm hv ht hk
    · exact rv_8 n ih v t w it nm e u ho hm hv ht hk
theorem rv_c (n : Nat) : RvC n := rv_n n
end Go.Proofs.YtnenjgngahipdaaGreat
