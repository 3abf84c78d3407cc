/- conform.of: is a value of a type? Condition: the value as it must be, the type one that may be. slices.ContainsFunc at types, of two closures. Condition: what a closure answers of each. Nothing: this seat has no Clone of types. Rows of types, and of attributes, that a call makes itself; slices.Clone of them. No condition. The program's within: all that is right inside a type, as a row. Condition: short rows. The reference's May. Condition: as said. -/
import Derived.Test.YtnenjgngahipdaaGreatZg12
import Derived.Test.YtnenjgngahipdaaGreatZg01
import Derived.Test.YtnenjgngahipdaaGreatZg00
import Derived.Shelf.SlicesE.Clone
import Derived.Test.YtnenjgngahipdaaGreatZg09
import Derived.Deep.DeepCutAuto
import Derived.Test.YtnenjgngahipdaaGreatZg10
set_option linter.unusedVariables false
set_option linter.unusedSimpArgs false
set_option linter.unnecessarySimpa false
namespace Go.Proofs.YtnenjgngahipdaaGreat
open Go.RowKit
set_option linter.unusedVariables false
theorem beq_fv {a b : Int} (h : ¬ a = b) : (a == b) = false := by simpa using h
set_option maxHeartbeats 3200000 in
set_option maxRecDepth 100000 in
theorem elemf_c (n : Nat) (ih : OfC n) (x : V) (y : T) (x0 : Nat) (ai : Option Addr) (ci : Nat) (an : Option Addr) (cn : Nat) (pe : Option Addr) (ce : Nat) (w : World) (ho : Okv x) (hm : mayB n y = true) (hr : R w x (.slice ai x.l.length ci) (.slice an x.ns.length cn))
    (c2 : w.cell? ⟨x0, 2, none⟩ = some (.slice pe 1 ce)) (hl : RL (fun _ => True) w n [y] (.slice pe 1 ce)) :
    Calls Tryz.prog 62 #[.agg #[.int .i64 x.h.k, .bool x.h.b, .int .i64 x.h.n, .string x.h.s, .string x.h.t, .string x.h.i, .slice ai x.l.length ci, .slice an x.ns.length cn], .pointer (some ⟨x0, 0, none⟩)] w fun r w' => r = .returned (.bool (isV n x y)) ∧ Low w w' := by
  obtain ⟨U, hU⟩ : ∃ U, U = w.alloc (.cells #[.int .i64 x.h.k, .bool x.h.b, .int .i64 x.h.n, .string x.h.s, .string x.h.t, .string x.h.i, .slice ai x.l.length ci, .slice an x.ns.length cn] 27) := ⟨_, rfl⟩
  have LU := Lib.hid (show Low w U by rw [hU]; exact low_new (Low.refl w) _)
  have BV := Lib.hid (BoxAt.made (cs := [.int .i64 x.h.k, .bool x.h.b, .int .i64 x.h.n, .string x.h.s, .string x.h.t, .string x.h.i, .slice ai x.l.length ci, .slice an x.ns.length cn]) hU rfl rfl)
  obtain ⟨p, o, qe, de, qv, dv, rfl, -, e0, e1, e2, e3, hx⟩ := RL.at (RL.low hl LU.out) (j := 0) (by simp)
  simp only [List.getElem_cons_zero, Nat.zero_mul, Nat.add_zero] at e0 e1 e2 e3 hx
  have c2U := LU.out.keep c2
  have HC := Lib.hid fun q : InL U => Calls.low q (ih x y q.w _ _ _ _ ho hm (Rep.low hr (LU.out.trans q.ok)) (hx.low q.ok))
  obtain ⟨r, hr⟩ : ∃ r, r = isV n x y := ⟨_, rfl⟩
  rw [← hr] at HC ⊢
  unfold avv tv at HC
  have HU := Lib.hid hU
  clear hl hU c2 hx hr
  obtain ⟨f0, f1, f2, f3, f4, f5, f6, f7⟩ := BV.out.at8
  have f0 := fun q : InL U => q.cell f0
  have f1 := fun q : InL U => q.cell f1
  have f2 := fun q : InL U => q.cell f2
  have f3 := fun q : InL U => q.cell f3
  have f4 := fun q : InL U => q.cell f4
  have f5 := fun q : InL U => q.cell f5
  have f6 := fun q : InL U => q.cell f6
  have f7 := fun q : InL U => q.cell f7
  have e0 := fun q : InL U => q.cell e0
  have e1 := fun q : InL U => q.cell e1
  have e2 := fun q : InL U => q.cell e2
  have e3 := fun q : InL U => q.cell e3
  have c2 := fun q : InL U => q.cell c2U
  clear c2U
  haveI := InL.some U
  go_enter Tryz.func62, Tryz.ntmps62
  go_upto_region 1 with fail
  rw [← HU.out]
  clear HU
  refine wp_region_low mixedT (by kernel_rfl) ?_
  repeat (go_big_quiet_step (with_reducible exact HC.out _))
  refine wpQuiet_nil ?_
  rintro W8 ⟨p8, hW8⟩
  have L8 := Lib.hid (show Low U W8 by rw [hW8]; exact p8.ok)
  clear hW8 p8 HC f0 f1 f2 f3 f4 f5 f6 f7 e0 e1 e2 e3 c2
  go_wp2_with fail
  go_ret
  exact ⟨rfl, LU.out.trans L8.out⟩
theorem may_k {n : Nat} {t : T} (h : mayB (n + 1) t = true) : 0 ≤ t.k ∧ t.k ≤ 8 := by
  have h1 := of_decide_eq_true (mayB_succ.1 h).1
  exact ⟨h1.1, h1.2.1⟩
set_option maxHeartbeats 12800000 in
set_option maxRecDepth 100000 in
theorem of_n (n : Nat) : OfC n := by
  induction n with
  | zero => intro v t w it nm e u _ _ _ h; exact h.elim
  | succ n ih =>
    intro v t w it nm e u ho hm hv ht
    obtain ⟨hs, hl, ha⟩ := rt_succ.1 ht
    have hro : Ro w v.l it := (rep_v.1 hv).2.2
    obtain ⟨ai, ci, an', cn, rfl, rfl⟩ := r_slices hv
    obtain ⟨pe, ce, pv, cv, rfl, rfl, z1, z2, z3, z4⟩ := ht.sl
    obtain ⟨hk0, hk8⟩ := may_k hm
    obtain ⟨U0, hU0⟩ : ∃ U, U = w.alloc (.cells #[.int .i64 v.h.k, .bool v.h.b, .int .i64 v.h.n, .string v.h.s, .string v.h.t, .string v.h.i, .slice ai v.l.length ci, .slice an' v.ns.length cn] 27) := ⟨_, rfl⟩
    obtain ⟨U, hU⟩ : ∃ U, U = U0.alloc (.cells #[.int .i64 t.k, .string t.n, .slice pe t.l.length ce, .slice pv t.ats.length cv] 31) := ⟨_, rfl⟩
    have s0 : U0.heap.size = w.heap.size + 1 := by rw [hU0]; simp
    have L0 : Low U0 U := by rw [hU]; exact low_new (Low.refl _) _
    have LU := Lib.hid (show Low w U from (by rw [hU0]; exact low_new (Low.refl w) _ : Low w U0).trans L0)
    have BV := Lib.hid ((BoxAt.made (cs := [.int .i64 v.h.k, .bool v.h.b, .int .i64 v.h.n, .string v.h.s, .string v.h.t, .string v.h.i, .slice ai v.l.length ci, .slice an' v.ns.length cn]) hU0 rfl rfl).low L0)
    have BT := Lib.hid (BoxAt.made (cs := [.int .i64 t.k, .string t.n, .slice pe t.l.length ce, .slice pv t.ats.length cv]) hU s0 rfl)
    obtain ⟨r, hr⟩ : ∃ r, r = isV (n + 1) v t := ⟨_, rfl⟩
    rw [← hr]
    have HR := Lib.hid hr
    rw [hU0] at hU
    have HU := Lib.hid hU
    have HV := Lib.hid hv
    have HO := Lib.hid ho
    have HM := Lib.hid hm
    have HL := Lib.hid hl
    have HA := Lib.hid ha
    have HI := Lib.hid hro
    have HIH := Lib.hid ih
    clear hv ho hm ht hl ha hro hU hU0 L0 s0 hr ih hs
    unfold avv tv
    go_enter Tryz.func32, Tryz.ntmps32
    go_upto_region 1 with fail
    rw [← HU.out]
    clear HU
    obtain ⟨f0, f1, f2, f3, f4, f5, f6, f7⟩ := BV.out.at8
    obtain ⟨g0, g1, g2, g3⟩ := BT.out.at4
    have hcases : t.k = 0 ∨ t.k = 1 ∨ t.k = 2 ∨ t.k = 3 ∨ t.k = 4 ∨ t.k = 5 ∨ t.k = 6 ∨ t.k = 7 ∨ t.k = 8 := by omega
    clear hk0 hk8
    rcases hcases with hk | hk | hk | hk | hk | hk | hk | hk | hk
    · have HF := Lib.hid (show false = r by rw [HR.out, isV_kind (.inl (by omega))])
      rw [hk] at g0
      clear hk
      go_wp2_with fail
      go_ret
      exact ⟨retB HF.out, LU.out⟩
    · rw [hk] at g0
      by_cases hv1 : v.h.k = 1
      · have HF := Lib.hid (show v.h.b = r by rw [HR.out, isV, if_pos hk, decide_eq_true hv1, Bool.true_and])
        rw [hv1] at f0
        generalize v.h.b = b at *
        clear hk hv1
        cases b
        · go_wp2_with fail
          go_ret
          exact ⟨retB HF.out, LU.out⟩
        · go_wp2_with fail
          go_ret
          exact ⟨retB HF.out, LU.out⟩
      · have HF := Lib.hid (show false = r by rw [HR.out, isV_kind (.inr (.inr (by rw [hk]; exact hv1)))])
        have b1 := beq_fv hv1
        clear hk
        go_wp2_with fail
        go_ret
        exact ⟨retB HF.out, LU.out⟩
    · rw [hk] at g0
      by_cases hv1 : v.h.k = 1
      · have HF := Lib.hid (show (!v.h.b) = r by rw [HR.out, isV, if_neg (by omega), if_pos hk, decide_eq_true hv1, Bool.true_and])
        rw [hv1] at f0
        generalize v.h.b = b at *
        clear hk hv1
        cases b
        · go_wp2_with fail
          go_ret
          exact ⟨retB HF.out, LU.out⟩
        · go_wp2_with fail
          go_ret
          exact ⟨retB HF.out, LU.out⟩
      · have HF := Lib.hid (show false = r by rw [HR.out, isV_kind (.inr (.inr (by rw [hk]; exact hv1)))])
        have b1 := beq_fv hv1
        clear hk
        go_wp2_with fail
        go_ret
        exact ⟨retB HF.out, LU.out⟩
    · rw [hk] at g0
      have HF := Lib.hid (show (v.h.k == 1) = r by rw [HR.out, isV, if_neg (by omega), if_neg (by omega), if_pos hk]; rfl)
      clear hk
      go_wp2_with fail
      go_ret
      exact ⟨retB HF.out, LU.out⟩
    · rw [hk] at g0
      have HF := Lib.hid (show (v.h.k == 2) = r by rw [HR.out, isV, if_neg (by omega), if_neg (by omega), if_neg (by omega), if_pos hk]; rfl)
      clear hk
      go_wp2_with fail
      go_ret
      exact ⟨retB HF.out, LU.out⟩
    · rw [hk] at g0
      have HF := Lib.hid (show (v.h.k == 3) = r by rw [HR.out, isV, if_neg (by omega), if_neg (by omega), if_neg (by omega), if_neg (by omega), if_pos hk]; rfl)
      clear hk
      go_wp2_with fail
      go_ret
      exact ⟨retB HF.out, LU.out⟩
    · rw [hk] at g0
      by_cases hv1 : v.h.k = 4
      · have HF := Lib.hid (show decide (v.h.t = t.n) = r by rw [HR.out, isV, if_neg (by omega), if_neg (by omega), if_neg (by omega), if_neg (by omega), if_neg (by omega), if_pos hk, decide_eq_true hv1, Bool.true_and])
        rw [hv1] at f0
        clear hk hv1
        by_cases he : v.h.t = t.n
        · have HF2 := Lib.hid (show true = r by rw [← HF.out, decide_eq_true he])
          rw [he] at f4
          clear he
          go_wp2_with fail
          go_ret
          exact ⟨retB HF2.out, LU.out⟩
        · have HF2 := Lib.hid (show false = r by rw [← HF.out, decide_eq_false he])
          have he2 : ¬ v.h.t.toList = t.n.toList := fun h => he (tl_inj.1 h)
          have he3 : (v.h.t.toList == t.n.toList) = false := by simpa using he2
          clear he
          go_wp2_with fail
          go_ret
          exact ⟨retB HF2.out, LU.out⟩
      · have HF := Lib.hid (show false = r by rw [HR.out, isV_kind (.inr (.inr (by rw [hk]; exact hv1)))])
        have b1 := beq_fv hv1
        clear hk
        go_wp2_with fail
        go_ret
        exact ⟨retB HF.out, LU.out⟩
    · rw [hk] at g0
      by_cases hv1 : v.h.k = 5
      · obtain ⟨y, hy, hhy, my⟩ := may_set HM.out hk
        have hyl : t.l.length = 1 := by rw [hy]; rfl
        rw [hyl] at g2 HL BT
        rw [hy] at HL
        have HF := Lib.hid (show (v.l.all fun x => isV n x y) = r by rw [HR.out, isV_set hk hv1, hhy])
        rw [hv1] at f0
        have CB := Lib.hid (allV_c v.l (fun x => isV n x y) (w.heap.size + 1) U _ (RowAt.low HI.out LU.out) fun j hj W ai ci an cn hlW hrx => elemf_c n HIH.out v.l[j] y (w.heap.size + 1) ai ci an cn pe ce W (HO.out.item (List.getElem_mem hj)) my hrx (hlW.keep (BT.out.at 2 _ rfl)) (RL.low HL.out (LU.out.trans hlW)))
        rw [HF.out] at CB
        clear hk hv1 hy hhy my hyl
        go_wp2_with fail
        refine CB.out.mono ?_
        rintro e w2 ⟨rfl, l2⟩
        have L2 := Lib.hid (LU.out.trans l2)
        clear l2
        go_wp2_with fail
        go_ret
        exact ⟨rfl, L2.out⟩
      · have HF := Lib.hid (show false = r by rw [HR.out, isV_kind (.inr (.inr (by rw [hk]; exact hv1)))])
        have b1 := beq_fv hv1
        clear hk
        go_wp2_with fail
        go_ret
        exact ⟨retB HF.out, LU.out⟩
    · rw [hk] at g0
      by_cases hv1 : v.h.k = 6
      · have HF := Lib.hid (show (v.ns.all (nameIs n v t.ats) && t.ats.all (attrIs v)) = r by rw [HR.out, isV_rec9 hk hv1 HO.out])
        have CK := Lib.hid (known_c n HIH.out v t.ats U _ _ _ (Rep.low HV.out LU.out) HO.out (RAs.low HA.out LU.out) fun x hx => may_as HM.out hx)
        have CC := Lib.hid fun W (l : Low U W) => complete_c n v t.ats W _ _ _ (Rep.low HV.out (LU.out.trans l)) (RAs.low HA.out (LU.out.trans l))
        obtain ⟨q1, hq1⟩ : ∃ q, q = v.ns.all (nameIs n v t.ats) := ⟨_, rfl⟩
        obtain ⟨q2, hq2⟩ : ∃ q, q = t.ats.all (attrIs v) := ⟨_, rfl⟩
        rw [← hq1] at CK HF
        rw [← hq2] at CC HF
        unfold avv at CK CC
        rw [hv1] at f0 CK CC
        clear hk hv1 hq1 hq2
        go_wp2_with fail
        refine CK.out.mono ?_
        rintro e w2 ⟨rfl, l2⟩
        cases q1 with
        | false =>
          have L2 := Lib.hid (LU.out.trans l2)
          clear l2
          go_wp2_with fail
          go_ret
          exact ⟨retB HF.out, L2.out⟩
        | true =>
          have L2 := Lib.hid l2
          have CC2 := Lib.hid (CC.out w2 l2)
          have f0 := l2.keep f0
          have f1 := l2.keep f1
          have f2 := l2.keep f2
          have f3 := l2.keep f3
          have f4 := l2.keep f4
          have f5 := l2.keep f5
          have f6 := l2.keep f6
          have f7 := l2.keep f7
          have g3 := l2.keep g3
          clear l2 CC
          go_wp2_with fail
          refine CC2.out.mono ?_
          rintro e w3 ⟨rfl, l3⟩
          have L3 := Lib.hid (LU.out.trans (L2.out.trans l3))
          clear l3
          go_wp2_with fail
          go_ret
          exact ⟨retB HF.out, L3.out⟩
      · have HF := Lib.hid (show false = r by rw [HR.out, isV_kind (.inr (.inr (by rw [hk]; exact hv1)))])
        have b1 := beq_fv hv1
        clear hk
        go_wp2_with fail
        go_ret
        exact ⟨retB HF.out, LU.out⟩
theorem of_c (n : Nat) : OfC n := of_n n
end Go.Proofs.YtnenjgngahipdaaGreat
namespace Go.Proofs.YtnenjgngahipdaaGreat
open Go.RowKit
structure Te where
  t : T
  pe : Option Addr
  ce : Nat
  pv : Option Addr
  cv : Nat
def Te.e (p : Te) : Value := .slice p.pe p.t.l.length p.ce
def Te.v (p : Te) : Value := .slice p.pv p.t.ats.length p.cv
structure Ae where
  x : At
  pe : Option Addr
  ce : Nat
  pv : Option Addr
  cv : Nat
def Ae.e (p : Ae) : Value := .slice p.pe (aty p.x).l.length p.ce
def Ae.v (p : Ae) : Value := .slice p.pv (aty p.x).ats.length p.cv
end Go.Proofs.YtnenjgngahipdaaGreat
namespace Go.Proofs.YtnenjgngahipdaaGreat
open Go.RowKit
set_option maxHeartbeats 3200000 in
set_option maxRecDepth 100000 in
theorem may_n (n : Nat) : MayC 28 n := by
  induction n with
  | zero => intro A t w e v h; exact h.elim
  | succ n ih =>
    intro A t w e v hr
    obtain ⟨pe, ce, pv, cv, rfl, rfl, z1, z2, z3, z4⟩ := hr.sl
    obtain ⟨-, hl, ha⟩ := rt_succ.1 hr
    have HL := Lib.hid hl
    have HA := Lib.hid ha
    have IH := Lib.hid ih
    obtain ⟨q, hq⟩ : ∃ q, q = mayB (n + 1) t := ⟨_, rfl⟩
    have CH := Lib.hid (show mayH t = false → false = q from fun h => by rw [hq, may_head h])
    have CL := Lib.hid (show ∀ j (hj : j < t.l.length), mayB n t.l[j] = false → false = q from fun j hj h => by rw [hq, may_in (ins_l (List.getElem_mem hj)) h])
    have CA := Lib.hid (show ∀ j (hj : j < t.ats.length), mayB n (aty t.ats[j]) = false → false = q from fun j hj h => by rw [hq, may_in (ins_as (List.getElem_mem hj)) h])
    have CR := Lib.hid (show ∀ j (hj : j + 1 < t.ats.length), ¬ cmpB (an (t.ats[j]'(by omega))) (an t.ats[j + 1]) < 0 → false = q from fun j hj h => by rw [hq, may_rise hj h])
    have CO := Lib.hid (show mayH t = true → (∀ j (hj : j < t.l.length), mayB n t.l[j] = true) → (∀ j (hj : j < t.ats.length), mayB n (aty t.ats[j]) = true) → (∀ j (hj : j + 1 < t.ats.length), cmpB (an (t.ats[j]'(by omega))) (an t.ats[j + 1]) < 0) → true = q from fun h1 h2 h3 h4 => by rw [hq, may_ok h1 h2 h3 h4])
    rw [← hq]
    clear hr ih hl ha hq
    unfold tv
    by_cases k0 : t.k < 0
    · have HQ := Lib.hid (CH.out (decide_eq_false (by omega)))
      go_enter Tryz.func28, Tryz.ntmps28
      go_wp2_with fail
      go_ret
      exact ⟨retB HQ.out, low_new (Low.refl w) _⟩
    by_cases k8 : 8 < t.k
    · have HQ := Lib.hid (CH.out (decide_eq_false (by omega)))
      go_enter Tryz.func28, Tryz.ntmps28
      go_wp2_with fail
      go_ret
      exact ⟨retB HQ.out, low_new (Low.refl w) _⟩
    have g0 : 0 ≤ t.k := by omega
    have g8 : t.k ≤ 8 := by omega
    by_cases k7 : t.k = 7 ∧ t.l.length ≠ 1
    · have HQ := Lib.hid (CH.out (decide_eq_false (by omega)))
      have b7 : (t.k == 7) = true := by simpa using k7.1
      have b1 : ((t.l.length : Int) == 1) = false := by have := k7.2; simp; omega
      clear k7
      go_enter Tryz.func28, Tryz.ntmps28
      go_wp2_with fail
      go_ret
      exact ⟨retB HQ.out, low_new (Low.refl w) _⟩
    have HOK := Lib.hid (show mayH t = true from decide_eq_true ⟨g0, g8, fun h => Classical.byContradiction fun h2 => k7 ⟨h, h2⟩⟩)
    have hx7 : (t.k == 7) = false ∨ ((t.k == 7) = true ∧ ((t.l.length : Int) == 1) = true) := by
      by_cases h : t.k = 7
      · refine .inr ⟨by simpa using h, ?_⟩
        have : t.l.length = 1 := Classical.byContradiction fun h2 => k7 ⟨h, h2⟩
        rw [this]; rfl
      · exact .inl (by simpa using h)
    clear k7 CH
    rcases hx7 with b7 | ⟨b7, b1⟩
    all_goals
      go_enter Tryz.func28, Tryz.ntmps28
      go_wp2_with fail
      go_loopg [3, 4] t.l.length (fun gk vi vb wr => ∃ i : Nat, vi = .int .i64 (i : Int) ∧ i ≤ t.l.length ∧ t.l.length - i ≤ gk ∧ Hid (Low (w.alloc (box4 t pe ce pv cv)) wr) ∧ Hid (∀ j (hj : j < t.l.length), j < i → mayB n t.l[j] = true))
      case atStart => exact ⟨0, rfl, Nat.zero_le _, Nat.le_refl _, Lib.hid (Low.refl _), Lib.hid fun j hj h => absurd h (Nat.not_lt_zero _)⟩
      case round =>
        obtain ⟨i, rfl, hi, hg, G, K⟩ := hrel
        have G0 := Lib.hid ((low_new (Low.refl w) _).trans G.out)
        obtain ⟨f0, f1, f2, f3⟩ := low_box G.out
        by_cases hlt : i < t.l.length
        · have zl : (i : Int) < (t.l.length : Int) := by omega
          obtain ⟨b, o, qe, de, qv, dv, rfl, -, e0, e1, e2, e3, hx⟩ := RL.at (RL.low HL.out G0.out) hlt
          have HC := Lib.hid (show Calls Tryz.prog 28 #[.agg #[.int .i64 t.l[i].k, .string t.l[i].n, .slice qe t.l[i].l.length de, .slice qv t.l[i].ats.length dv]] wr _ from IH.out A t.l[i] wr _ _ hx)
          obtain ⟨c, hc⟩ : ∃ c, c = mayB n t.l[i] := ⟨_, rfl⟩
          rw [← hc] at HC
          have HCC := Lib.hid hc
          clear hx hc
          go_wp2_with fail
          refine HC.out.mono ?_
          rintro e w' ⟨rfl, l⟩
          have G2 := Lib.hid (G.out.trans l)
          have G3 := Lib.hid (G0.out.trans l)
          clear l HC
          cases c with
          | false =>
            go_wp2_with fail
            go_ret
            exact ⟨retB (CL.out i hlt HCC.out.symm), G3.out⟩
          | true =>
            go_wp2_with fail
            go_roundg (t.l.length - (i + 1))
            case measure => omega
            case rel =>
              refine ⟨i + 1, by go_num, by omega, by omega, G2, Lib.hid fun j hj hji => ?_⟩
              rcases Nat.lt_succ_iff_lt_or_eq.1 hji with h | rfl
              · exact K.out j hj h
              · exact HCC.out.symm
        · have zl : ¬ (i : Int) < (t.l.length : Int) := by omega
          have KL := Lib.hid (show ∀ j (hj : j < t.l.length), mayB n t.l[j] = true from fun j hj => K.out j hj (by omega))
          clear K
          go_wp2_with fail
          go_loopg [5, 6] t.ats.length (fun gk vi vb wr => ∃ i : Nat, vi = .int .i64 (i : Int) ∧ i ≤ t.ats.length ∧ t.ats.length - i ≤ gk ∧ Hid (Low (w.alloc (box4 t pe ce pv cv)) wr) ∧ Hid (∀ j (hj : j < t.ats.length), j < i → mayB n (aty t.ats[j]) = true) ∧ Hid (∀ j (hj : j + 1 < t.ats.length), j + 1 < i → cmpB (an (t.ats[j]'(by omega))) (an t.ats[j + 1]) < 0))
          case atStart => exact ⟨0, rfl, Nat.zero_le _, Nat.le_refl _, G, Lib.hid fun j hj h => absurd h (Nat.not_lt_zero _), Lib.hid fun j hj h => absurd h (Nat.not_lt_zero _)⟩
          case round =>
            clear f0 f1 f2 f3 G0 G
            obtain ⟨i, rfl, hi, hg, G, K, K2⟩ := hrel
            have G0 := Lib.hid ((low_new (Low.refl w) _).trans G.out)
            obtain ⟨f0, f1, f2, f3⟩ := low_box G.out
            by_cases hlt : i < t.ats.length
            · have zl : (i : Int) < (t.ats.length : Int) := by omega
              have HA2 := Lib.hid (RAs.low HA.out G0.out)
              obtain ⟨b, o, qe, de, qv, dv, rfl, -, e0, e1, e2, e3, e4, e5, es, hx⟩ := RAs.at HA2.out hlt
              have HC := Lib.hid (show Calls Tryz.prog 28 #[.agg #[.int .i64 (aty t.ats[i]).k, .string (aty t.ats[i]).n, .slice qe (aty t.ats[i]).l.length de, .slice qv (aty t.ats[i]).ats.length dv]] wr _ from IH.out A (aty t.ats[i]) wr _ _ hx)
              obtain ⟨c, hc⟩ : ∃ c, c = mayB n (aty t.ats[i]) := ⟨_, rfl⟩
              rw [← hc] at HC
              have HCC := Lib.hid hc
              clear hx hc
              go_wp2_with fail
              refine HC.out.mono ?_
              rintro e w' ⟨rfl, l⟩
              have G2 := Lib.hid (G.out.trans l)
              have G3 := Lib.hid (G0.out.trans l)
              have e0' := l.keep e0
              have f3' := l.keep f3
              have LW := Lib.hid l
              clear l HC e0 e1 e2 e3 e4 e5 f0 f1 f2 f3
              haveI := InL.some w'
              cases c with
              | false =>
                go_wp2_with fail
                refine wp_region_low mixedT (by kernel_rfl) ?_
                repeat (go_big_quiet_step (fail))
                refine wpQuiet_nil ?_
                rintro W8 ⟨p8, hW8⟩
                have L8 := Lib.hid (show Low w' W8 by rw [hW8]; exact p8.ok)
                clear hW8 p8
                go_wp2_with fail
                go_ret
                exact ⟨retB (CA.out i hlt HCC.out.symm), G3.out.trans L8.out⟩
              | true =>
                rcases Nat.eq_zero_or_pos i with h0 | h0
                · subst h0
                  go_wp2_with fail
                  refine wp_region_low mixedT (by kernel_rfl) ?_
                  repeat (go_big_quiet_step (fail))
                  refine wpQuiet_nil ?_
                  rintro W8 ⟨p8, hW8⟩
                  have L8 := Lib.hid (show Low w' W8 by rw [hW8]; exact p8.ok)
                  clear hW8 p8
                  go_wp2_with fail
                  go_roundg (t.ats.length - 1)
                  case measure => omega
                  case rel =>
                    refine ⟨1, rfl, by omega, by omega, Lib.hid (G2.out.trans L8.out), Lib.hid fun j hj hji => ?_, Lib.hid fun j hj h => absurd h (by omega)⟩
                    obtain rfl : j = 0 := by omega
                    exact HCC.out.symm
                · obtain ⟨i', rfl⟩ : ∃ i', i = i' + 1 := ⟨i - 1, by omega⟩
                  have hlt' : i' < t.ats.length := by omega
                  obtain ⟨b', o', -, -, -, -, hbo, -, d0, -, -, -, -, -, ds, -⟩ := RAs.at HA2.out hlt'
                  simp only [Option.some.injEq, Addr.mk.injEq, and_true] at hbo
                  obtain ⟨rfl, rfl⟩ := hbo
                  have d0' := LW.out.keep d0
                  have HT := Lib.hid fun p : InL w' => Calls.low p (rTexts_c (an t.ats[i']) (an t.ats[i' + 1]) ds es p.w)
                  obtain ⟨r, hr⟩ : ∃ r, r = cmpB (an t.ats[i']) (an t.ats[i' + 1]) := ⟨_, rfl⟩
                  rw [← hr] at HT
                  have HR := Lib.hid hr
                  have zi : (0 : Int) < ((i' + 1 : Nat) : Int) := by omega
                  have zi2 : ((i' + 1 : Nat) : Int) - 1 = (i' : Int) := by omega
                  have zi3 : (i' : Int) < (t.ats.length : Int) := by omega
                  clear hr d0
                  have e0p := fun p : InL w' => p.cell e0'
                  have f3p := fun p : InL w' => p.cell f3'
                  have d0p := fun p : InL w' => p.cell d0'
                  by_cases h9 : r < 0
                  · have h9' : ¬ 0 ≤ r := by omega
                    go_wp2_with fail
                    refine wp_region_low mixedT (by kernel_rfl) ?_
                    repeat (go_big_quiet_step (with_reducible exact HT.out _))
                    refine wpQuiet_nil ?_
                    rintro W8 ⟨p8, hW8⟩
                    have L8 := Lib.hid (show Low w' W8 by rw [hW8]; exact p8.ok)
                    clear hW8 p8 e0p f3p d0p e0' f3' d0' HT
                    go_wp2_with fail
                    go_roundg (t.ats.length - (i' + 1 + 1))
                    case measure => omega
                    case rel =>
                      refine ⟨i' + 1 + 1, by go_num, by omega, by omega, Lib.hid (G2.out.trans L8.out), Lib.hid fun j hj hji => ?_, Lib.hid fun j hj hji => ?_⟩
                      · rcases Nat.lt_succ_iff_lt_or_eq.1 hji with h | rfl
                        · exact K.out j hj h
                        · exact HCC.out.symm
                      · rcases Nat.lt_succ_iff_lt_or_eq.1 hji with h | h
                        · exact K2.out j hj h
                        · obtain rfl : j = i' := by omega
                          rw [← HR.out]; exact h9
                  · have h9' : 0 ≤ r := by omega
                    go_wp2_with fail
                    refine wp_region_low mixedT (by kernel_rfl) ?_
                    repeat (go_big_quiet_step (with_reducible exact HT.out _))
                    refine wpQuiet_nil ?_
                    rintro W8 ⟨p8, hW8⟩
                    have L8 := Lib.hid (show Low w' W8 by rw [hW8]; exact p8.ok)
                    clear hW8 p8 e0p f3p d0p e0' f3' d0' HT
                    have HQ := Lib.hid (CR.out i' (by omega) (by rw [← HR.out]; exact h9))
                    go_wp2_with fail
                    go_ret
                    exact ⟨retB HQ.out, G3.out.trans L8.out⟩
            · have zl : ¬ (i : Int) < (t.ats.length : Int) := by omega
              go_wp2_with fail
              go_ret
              exact ⟨retB (CO.out HOK.out KL.out (fun j hj => K.out j hj (by omega)) fun j hj => K2.out j hj (by omega)), G0.out⟩
theorem may_c (n : Nat) : MayC 28 n := may_n n
end Go.Proofs.YtnenjgngahipdaaGreat
