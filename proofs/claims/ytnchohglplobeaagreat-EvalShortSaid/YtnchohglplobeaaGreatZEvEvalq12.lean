/- Eval of any expression. Condition: rows in memory, short; numbers in their range. -/
import Derived.Test.YtnchohglplobeaaGreatZg36
set_option linter.unusedVariables false
set_option linter.unusedSimpArgs false
set_option linter.unnecessarySimpa false
namespace Go.Proofs.YtnchohglplobeaaGreat
open Go.RowKit Go.Sort Go.Maps
theorem BoxAtv.at14 {w : World} {n : Nat} {c0 c1 c2 c3 c4 c5 c6 c7 c8 c9 c10 c11 c12 c13 : Value} (h : BoxAtv w n [c0, c1, c2, c3, c4, c5, c6, c7, c8, c9, c10, c11, c12, c13]) :
  w.cell? ⟨n, 0, none⟩ = some c0 ∧ w.cell? ⟨n, 1, none⟩ = some c1 ∧ w.cell? ⟨n, 2, none⟩ = some c2 ∧ w.cell? ⟨n, 3, none⟩ = some c3 ∧ w.cell? ⟨n, 4, none⟩ = some c4 ∧ w.cell? ⟨n, 5, none⟩ = some c5 ∧ w.cell? ⟨n, 6, none⟩ = some c6 ∧ w.cell? ⟨n, 7, none⟩ = some c7 ∧ w.cell? ⟨n, 8, none⟩ = some c8 ∧ w.cell? ⟨n, 9, none⟩ = some c9 ∧ w.cell? ⟨n, 10, none⟩ = some c10 ∧ w.cell? ⟨n, 11, none⟩ = some c11 ∧ w.cell? ⟨n, 12, none⟩ = some c12 ∧ w.cell? ⟨n, 13, none⟩ = some c13 :=
 ⟨h.at 0 _ rfl, h.at 1 _ rfl, h.at 2 _ rfl, h.at 3 _ rfl, h.at 4 _ rfl, h.at 5 _ rfl, h.at 6 _ rfl, h.at 7 _ rfl, h.at 8 _ rfl, h.at 9 _ rfl, h.at 10 _ rfl, h.at 11 _ rfl, h.at 12 _ rfl, h.at 13 _ rfl⟩
theorem evCall {K : Rk} (e : E) (ai : Option Addr) (ci : Nat) (an : Option Addr) (cn : Nat) (ak : Option Addr) (ck : Nat) (am : Option Addr) (cm : Nat) (w w2 : World) (hq : True) (hr : RE 50 w e (p4 e ai ci an cn ak ck am cm)) (ho : OkE 50 e) (hc : R w K.c (.slice K.ai K.c.l.length K.ci) (.slice K.an K.c.ns.length K.cn)) (hok : OkQ K.q) (hX : K.X.at w) (l : Low w w2) (hops : OpsAt w2 K.mb) (hne : ∀ m, K.X.m = some m → m < K.mb) :
  Calls Tryz.prog 33 #[K.v, ex12 e ai ci an cn ak ck am cm] w2 (VR K.X (fun b => b < 0) (evS K.q 50 e) w2) :=
 reckon_n (K := K) (W0 := w2) ⟨hc.low l, hok, hops, fun m e => by have := hne m e; omega⟩ 50 e ai ci an cn ak ck am cm w2 (RE.low hr l) ho (Go.refl (Sx.low hX l))
def evalE (Q : RqE) (e : E) : Int × V := if 50 < dpE e then (11, V0) else evS Q 50 e
noncomputable def mkQ (pu au ru : Us) (c : V) (X : Sx) : RqE := ⟨pu, au, ru, c, X.isIn, X.ent⟩
abbrev rq14 (pu au ru : Us) (c : V) (qi : Option Addr) (qj : Nat) (qn : Option Addr) (qm : Nat) : Value := .agg #[.string pu.t, .string pu.i, .string au.t, .string au.i, .string ru.t, .string ru.i, .int .i64 c.h.k, .bool c.h.b, .int .i64 c.h.n, .string c.h.s, .string c.h.t, .string c.h.i, .slice qi c.l.length qj, .slice qn c.ns.length qm]
theorem OkE.dp : ∀ {n m : Nat} {e : E}, dpE e ≤ m → OkE n e → OkE m e
 | 0, _, _, _, h => h.elim
 | n + 1, 0, e, hm, _ => by rw [dpE_v] at hm; omega
 | n + 1, m + 1, e, hm, h => ⟨h.1, fun x hx => OkE.dp (by have := dpE_kid hx; omega) (h.2 x hx)⟩
set_option maxRecDepth 100000 in
set_option maxHeartbeats 4000000 in
theorem eval_c {X : Sx} (n : Nat) (e : E) (ai : Option Addr) (ci : Nat) (an : Option Addr) (cn : Nat) (ak : Option Addr) (ck : Nat) (am : Option Addr) (cm : Nat) (pu au ru : Us) (c : V) (qi : Option Addr) (qj : Nat) (qn : Option Addr) (qm : Nat) (w : World) (hr : RE n w e (p4 e ai ci an cn ak ck am cm)) (ho : OkE n e) (hc : R w c (.slice qi c.l.length qj) (.slice qn c.ns.length qm)) (hok : OkQ (mkQ pu au ru c X)) (hX : X.at w) :
  Calls Tryz.prog 14 #[ex12 e ai ci an cn ak ck am cm, rq14 pu au ru c qi qj qn qm, X.v] w (VR X (fun b => b < 0) (evalE (mkQ pu au ru c X) e) w) := by
 have HD := Lib.hid fun W (l : Low w W) => deeperE_c n e W ai ci an cn ak ck am cm (RE.low hr l)
 have HXX := Lib.hid hX
 obtain ⟨xp, hxp⟩ := Sx.ptr X
 rw [hxp]
 unfold evalE
 by_cases h50 : 50 < dpE e
 ·rw [if_pos h50]
  rw [decide_eq_true h50] at HD
  clear h50 hr ho hc hok hX
  obtain ⟨U, HU, LU, ZU, BE, BQ, BR⟩ := boxes3 w [.int .i64 e.op, .int .i64 e.v.h.k, .bool e.v.h.b, .int .i64 e.v.h.n, .string e.v.h.s, .string e.v.h.t, .string e.v.h.i, .slice ai e.v.l.length ci, .slice an e.v.ns.length cn, .string e.nm, .slice ak e.ks.length ck, .slice am e.ns.length cm] 30 [.string pu.t, .string pu.i, .string au.t, .string au.i, .string ru.t, .string ru.i, .int .i64 c.h.k, .bool c.h.b, .int .i64 c.h.n, .string c.h.s, .string c.h.t, .string c.h.i, .slice qi c.l.length qj, .slice qn c.ns.length qm] 32 [.int .i64 0, .bool false, .int .i64 0, .string ⟨#[]⟩, .string ⟨#[]⟩, .string ⟨#[]⟩, .slice none 0 0, .slice none 0 0] 27
  go_enter Tryz.func14, Tryz.ntmps14
  go_upto_region 1 with fail
  rw [← HU.out]
  clear HU
  obtain ⟨e0, e1, e2, e3, e4, e5, e6, e7, e8, e9, e10, e11⟩ := BE.out.at12
  go_wp2_with (go_at_call 31; refine (HD.out _ LU.out).mono ?_; rintro e w1 ⟨rfl, l1⟩; have L1 := Lib.hid l1; clear l1 HD e0 e1 e2 e3 e4 e5 e6 e7 e8 e9 e10 e11; obtain ⟨z0, z1, z2, z3, z4, z5, z6, z7⟩ := (BR.out.low L1.out).at8; obtain ⟨f0, f1, f2, f3, f4, f5, f6, f7⟩ := (BR.out.low L1.out).op8)
  refine bodyPost_ret (v := .tuple #[zeV, .int .i64 11]) (by simp [results, Tryz.results14, go_sem, World.cell?_setCell_same', z0, z1, z2, z3, z4, z5, z6, z7]; try rfl) rfl ?_
  exact vr_err ((Go.of HXX.out (LU.out.trans L1.out)).k (k := w.heap.size + 2) (kept8 _ _ _ _ _ _ _ _ _ _) (by omega))
 ·rw [if_neg h50]
  rw [decide_eq_false h50] at HD
  have hd50 : dpE e ≤ 50 := by omega
  have HR := Lib.hid (RE.re hd50 hr)
  have HOK := Lib.hid (OkE.dp hd50 ho)
  have HC := Lib.hid hc
  have HQ := Lib.hid hok
  have HXP := Lib.hid hxp
  obtain ⟨p, hp⟩ : ∃ p, p = evS (mkQ pu au ru c X) 50 e := ⟨_, rfl⟩
  rw [← hp]
  have HP := Lib.hid hp
  clear h50 hr ho hc hok hX hd50 hp hxp
  obtain ⟨U, HU, LU, ZU, BE, BQ, BR⟩ := boxes3 w [.int .i64 e.op, .int .i64 e.v.h.k, .bool e.v.h.b, .int .i64 e.v.h.n, .string e.v.h.s, .string e.v.h.t, .string e.v.h.i, .slice ai e.v.l.length ci, .slice an e.v.ns.length cn, .string e.nm, .slice ak e.ks.length ck, .slice am e.ns.length cm] 30 [.string pu.t, .string pu.i, .string au.t, .string au.i, .string ru.t, .string ru.i, .int .i64 c.h.k, .bool c.h.b, .int .i64 c.h.n, .string c.h.s, .string c.h.t, .string c.h.i, .slice qi c.l.length qj, .slice qn c.ns.length qm] 32 [.int .i64 0, .bool false, .int .i64 0, .string ⟨#[]⟩, .string ⟨#[]⟩, .string ⟨#[]⟩, .slice none 0 0, .slice none 0 0] 27
  go_enter Tryz.func14, Tryz.ntmps14
  go_upto_region 1 with fail
  rw [← HU.out]
  clear HU
  obtain ⟨e0, e1, e2, e3, e4, e5, e6, e7, e8, e9, e10, e11⟩ := BE.out.at12
  go_wp2_with (go_at_call 31; refine (HD.out _ LU.out).mono ?_; rintro e w1 ⟨rfl, l1⟩; have L1 := Lib.hid l1; clear l1 HD e0 e1 e2 e3 e4 e5 e6 e7 e8 e9 e10 e11; have BE1 := Lib.hid (BE.out.low L1.out); have BQ1 := Lib.hid (BQ.out.low L1.out); have BR1 := Lib.hid (BR.out.low L1.out))
  have LW1 := Lib.hid (LU.out.trans L1.out)
  have LD := Lib.hid (low_drew (Low.refl w1))
  obtain ⟨e0, e1, e2, e3, e4, e5, e6, e7, e8, e9, e10, e11⟩ := (BE1.out.low LD.out).at12
  obtain ⟨q0, q1, q2, q3, q4, q5, q6, q7, q8, q9, q10, q11, q12, q13⟩ := (BQ1.out.low LD.out).at14
  have HO := Lib.hid (operators_c w1.drew)
  have ARM := Lib.hid (show ∀ (m : Nat) (w2 : World), w1.drew.heap.size ≤ m → OpsAt w2 m → Low w1.drew w2 → Calls Tryz.prog 33 #[.agg #[.string pu.t, .string pu.i, .string au.t, .string au.i, .string ru.t, .string ru.i, .int .i64 c.h.k, .bool c.h.b, .int .i64 c.h.n, .string c.h.s, .string c.h.t, .string c.h.i, .slice qi c.l.length qj, .slice qn c.ns.length qm, .pointer xp, .map (some m)], ex12 e ai ci an cn ak ck am cm] w2 (VR X (fun b => b < 0) p w2) from fun m w2 hm ho l => by
   rw [HP.out]
   exact evCall (K := ⟨pu, au, ru, c, qi, qj, qn, qm, X, xp, m, HXP.out⟩) e ai ci an cn ak ck am cm w w2 trivial HR.out HOK.out HC.out HQ.out HXX.out (LW1.out.trans (LD.out.trans l)) ho (fun a ha => by
    have h1 := (Sx.ok HXX.out a ha).lt
    have h2 := LW1.out.size
    have h3 := LD.out.size
    show a < m
    omega))
  unfold VR at ARM
  go_region_with (first
   | (go_at_call 32; refine HO.out.mono ?_; rintro e w2 ⟨m, rfl, hm, ho, l2⟩; have HM := Lib.hid (ARM.out m w2 hm ho l2); have L2 := Lib.hid (LD.out.trans l2); clear HO e0 e1 e2 e3 e4 e5 e6 e7 e8 e9 e10 e11 q0 q1 q2 q3 q4 q5 q6 q7 q8 q9 q10 q11 q12 q13; obtain ⟨e0, e1, e2, e3, e4, e5, e6, e7, e8, e9, e10, e11⟩ := (BE1.out.low L2.out).at12; obtain ⟨q0, q1, q2, q3, q4, q5, q6, q7, q8, q9, q10, q11, q12, q13⟩ := (BQ1.out.low L2.out).at14)
   | (go_at_call 33; refine HM.out.mono ?_; rintro e w3 ⟨bi, di, bn, dn, rfl, hrx, g3⟩; have G3 := Lib.hid g3; have HRX := Lib.hid hrx; clear g3 hrx HM e0 e1 e2 e3 e4 e5 e6 e7 e8 e9 e10 e11 q0 q1 q2 q3 q4 q5 q6 q7 q8 q9 q10 q11 q12 q13; have BR3 := Lib.hid (G3.out.box (BR1.out.low L2.out) (by simp)); obtain ⟨z0, z1, z2, z3, z4, z5, z6, z7⟩ := BR3.out.at8; obtain ⟨f0, f1, f2, f3, f4, f5, f6, f7⟩ := BR3.out.op8))
  all_goals
   go_wp2_with fail
   refine bodyPost_ret (v := .tuple #[av8 p.2.h bi p.2.l.length di bn p.2.ns.length dn, .int .i64 p.1]) (by simp [results, Tryz.results14, go_sem, World.cell?_setCell_same', z0, z1, z2, z3, z4, z5, z6, z7]; try rfl) rfl ?_
   exact vr_put (k := w.heap.size + 2) (A := fun b => b < 0) (U := U) (HRX.out.mono fun b hb => hb.imp id fun h => Nat.le_trans (Low.trans L1.out L2.out).size h) ((Go.of HXX.out (LW1.out.trans L2.out)).trans G3.out) LU.out.size ⟨by omega, by rw [ZU.out]; omega⟩ (fun b h => absurd h (Nat.not_lt_zero _))
end Go.Proofs.YtnchohglplobeaaGreat
