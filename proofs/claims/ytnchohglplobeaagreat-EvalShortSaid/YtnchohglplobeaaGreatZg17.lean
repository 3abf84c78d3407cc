/- The map of the operators of numbers. No condition. deeper: whether an expression is nested deeper than a number. No condition. countMayBe: whether an expression has as many kids as its operator has. No condition. What reckon stands on; plain facts of its operators. No condition. in: whether a name is, or is below, one of names. No condition. -/
import Derived.Test.YtnchohglplobeaaGreatZEvS3q12
import Derived.Test.YtnchohglplobeaaGreatZEvS4q12
set_option linter.unusedVariables false
set_option linter.unusedSimpArgs false
set_option linter.unnecessarySimpa false
namespace Go.Proofs.YtnchohglplobeaaGreat
open Go.RowKit Go.Sort Go.Maps
structure Kn where
 n : Int
 lo : -9223372036854775808 ≤ n
 hi : n ≤ 9223372036854775807
theorem Kn.ext' : ∀ {a b : Kn}, a.n = b.n → a = b
 | ⟨_, _, _⟩, ⟨_, _, _⟩, rfl => rfl
instance : DecidableEq Kn := fun a b => if h : a.n = b.n then .isTrue (Kn.ext' h) else .isFalse fun e => h (by rw [e])
theorem knOk (a : Kn) : keyOf Tryz.prog 3 (.int .i64 a.n) = some (.int .i64 a.n) := keyOf_int_mk Tryz.underlying3 (by
 show (decide (-9223372036854775808 ≤ a.n) && decide (a.n ≤ 9223372036854775807)) = true
 simp [a.lo, a.hi])
theorem keyedKn : Keyed Tryz.prog 3 := int_keyed Tryz.underlying3
def keyKn : KeyF Tryz.prog 3 Kn where
 kv a := .int .i64 a.n
 kl a := .int .i64 a.n
 ok := knOk
 inj a b h := Kn.ext' (by injection h)
def kn (n : Int) (h : -9223372036854775808 ≤ n ∧ n ≤ 9223372036854775807) : Kn := ⟨n, h.1, h.2⟩
noncomputable def opF : Kn → Option Value := (updF (updF (updF (updF (updF (updF (fun _ => none) (kn 9 (by decide)) (some (.func (.func 52) #[] #[]))) (kn 10 (by decide)) (some (.func (.func 54) #[] #[]))) (kn 11 (by decide)) (some (.func (.func 55) #[] #[]))) (kn 12 (by decide)) (some (.func (.func 58) #[] #[]))) (kn 13 (by decide)) (some (.func (.func 60) #[] #[]))) (kn 14 (by decide)) (some (.func (.func 62) #[] #[])))
def OpsAt (w : World) (m : Nat) : Prop := MapAt keyKn w m 6 opF
theorem OpsAt.block {w w' : World} {m : Nat} (h : OpsAt w m) (e : w'.heap[m]? = w.heap[m]?) : OpsAt w' m := MapAt.block h e
theorem OpsAt.low {w w' : World} {m : Nat} (h : OpsAt w m) (l : Low w w') : OpsAt w' m := h.block (l.2.2.2 m (MapAt.lt h))
theorem opF_at (a : Kn) : opF a = if a.n = 14 then some (.func (.func 62) #[] #[]) else if a.n = 13 then some (.func (.func 60) #[] #[]) else if a.n = 12 then some (.func (.func 58) #[] #[]) else if a.n = 11 then some (.func (.func 55) #[] #[]) else if a.n = 10 then some (.func (.func 54) #[] #[]) else if a.n = 9 then some (.func (.func 52) #[] #[]) else none := by
 have e : ∀ (k : Int) (h : -9223372036854775808 ≤ k ∧ k ≤ 9223372036854775807), (a = kn k h) = (a.n = k) := fun k h => propext ⟨fun q => by rw [q]; rfl, fun q => Kn.ext' q⟩
 unfold opF updF
 simp only [e]
theorem und_ops : Tryz.prog.underlying 77 = some (.map 3 109) := Tryz.underlying77
set_option maxRecDepth 100000 in
set_option maxHeartbeats 4000000 in
theorem operators_c (w : World) : Calls Tryz.prog 32 #[] w fun e w' => ∃ m, e = .returned (.map (some m)) ∧ w.heap.size ≤ m ∧ OpsAt w' m ∧ Low w w' := by
 have hmm := @run_makeMap Tryz.prog
 have M0 := MapAt.made keyKn w
 have Z0 : IsMap (w.alloc (.map #[] 0)) w.heap.size := M0.isMap
 have K0 := Lib.hid (Lw.refl Z0)
 obtain ⟨w1, r1, M1, t1⟩ := M0.store keyedKn und_ops (by decide) (kn 9 (by decide)) (.func (.func 52) #[] #[])
 have K1 := Lib.hid (K0.out.turned t1 M1.isMap)
 have q1 : (Instr.mapUpdate 77 (.map (some w.heap.size)) (.int .i64 9) (.func (.func 52) #[] #[])).run Tryz.prog (w.alloc (.map #[] 0)) = .ok () w1 := r1
 obtain ⟨w2, r2, M2, t2⟩ := M1.store keyedKn und_ops (by decide) (kn 10 (by decide)) (.func (.func 54) #[] #[])
 have K2 := Lib.hid (K1.out.turned t2 M2.isMap)
 have q2 : (Instr.mapUpdate 77 (.map (some w.heap.size)) (.int .i64 10) (.func (.func 54) #[] #[])).run Tryz.prog w1 = .ok () w2 := r2
 obtain ⟨w3, r3, M3, t3⟩ := M2.store keyedKn und_ops (by decide) (kn 11 (by decide)) (.func (.func 55) #[] #[])
 have K3 := Lib.hid (K2.out.turned t3 M3.isMap)
 have q3 : (Instr.mapUpdate 77 (.map (some w.heap.size)) (.int .i64 11) (.func (.func 55) #[] #[])).run Tryz.prog w2 = .ok () w3 := r3
 obtain ⟨w4, r4, M4, t4⟩ := M3.store keyedKn und_ops (by decide) (kn 12 (by decide)) (.func (.func 58) #[] #[])
 have K4 := Lib.hid (K3.out.turned t4 M4.isMap)
 have q4 : (Instr.mapUpdate 77 (.map (some w.heap.size)) (.int .i64 12) (.func (.func 58) #[] #[])).run Tryz.prog w3 = .ok () w4 := r4
 obtain ⟨w5, r5, M5, t5⟩ := M4.store keyedKn und_ops (by decide) (kn 13 (by decide)) (.func (.func 60) #[] #[])
 have K5 := Lib.hid (K4.out.turned t5 M5.isMap)
 have q5 : (Instr.mapUpdate 77 (.map (some w.heap.size)) (.int .i64 13) (.func (.func 60) #[] #[])).run Tryz.prog w4 = .ok () w5 := r5
 obtain ⟨w6, r6, M6, t6⟩ := M5.store keyedKn und_ops (by decide) (kn 14 (by decide)) (.func (.func 62) #[] #[])
 have K6 := Lib.hid (K5.out.turned t6 M6.isMap)
 have q6 : (Instr.mapUpdate 77 (.map (some w.heap.size)) (.int .i64 14) (.func (.func 62) #[] #[])).run Tryz.prog w5 = .ok () w6 := r6
 have HM := Lib.hid (show OpsAt w6 w.heap.size from M6)
 clear r1 M0 t1 r2 M1 t2 r3 M2 t3 r4 M3 t4 r5 M4 t5 r6 M5 t6 M6 Z0
 go_enter Tryz.func32, Tryz.ntmps32
 go_wp2_with fail
 go_ret
 exact ⟨_, rfl, Nat.le_refl _, HM.out, Lw.low (Low.alloc (Low.refl w) _) K6.out (Nat.le_refl _)⟩
end Go.Proofs.YtnchohglplobeaaGreat
namespace Go.Proofs.YtnchohglplobeaaGreat
open Go.RowKit Go.Sort Go.Maps
set_option maxHeartbeats 1600000 in
theorem idxE14_c (n : Nat) (l : List E) (f : E → Bool) (x0 : Nat) (w : World) (p : Option Addr) (c : Nat) (h : RowB w 12 encE4 (RE n) l (.slice p l.length c)) (hc : ∀ j (hj : j < l.length) (W : World) (ai : Option Addr) (ci : Nat) (an : Option Addr) (cn : Nat) (ak : Option Addr) (ck : Nat) (am : Option Addr) (cm : Nat), Low w W → RE n W l[j] (p4 l[j] ai ci an cn ak ck am cm) → Calls Tryz.prog 51 #[ex12 l[j] ai ci an cn ak ck am cm, .pointer (some ⟨x0, 0, none⟩)] W fun r W' => r = .returned (.bool (f l[j])) ∧ Low W W') :
  Calls Tryz.prog 91 #[.slice p l.length c, .func (.func 51) #[] #[.pointer (some ⟨x0, 0, none⟩)]] w fun e w' => e = .returned (.int .i64 (firstI l f)) ∧ Low w w' := by
 obtain ⟨-, z1, z2⟩ := row_len h
 have HA := Lib.hid h
 have HC := Lib.hid hc
 obtain ⟨r, hr⟩ : ∃ r, r = firstI l f := ⟨_, rfl⟩
 have CS := Lib.hid (show ∀ i (hi : i < l.length), f l[i] = true → (∀ j (hj : j < l.length), j < i → f l[j] = false) → (i : Int) = r from fun i hi h1 h2 => by rw [hr, firstI_some hi h1 h2])
 have CN := Lib.hid (show (∀ j (hj : j < l.length), f l[j] = false) → -1 = r from fun h2 => by rw [hr, firstI_none h2])
 rw [← hr]
 clear h hr hc
 go_enter Tryz.func91, Tryz.ntmps91
 go_wp2_with fail
 go_loopg [5, 8] l.length (fun gk vx vi wr => ∃ i : Nat, vi = .int .i64 (i : Int) ∧ i ≤ l.length ∧ l.length - i ≤ gk ∧ Hid (Low w wr) ∧ Hid (∀ j (hj : j < l.length), j < i → f l[j] = false))
 case atStart => exact ⟨0, rfl, Nat.zero_le _, Nat.le_refl _, Lib.hid (Low.refl _), Lib.hid fun j hj h => absurd h (Nat.not_lt_zero _)⟩
 case round =>
  obtain ⟨i, rfl, hi, hg, G, K⟩ := hrel
  by_cases hlt : i < l.length
  ·have zl : (i : Int) < (l.length : Int) := by omega
   obtain ⟨b, o, ai, ci, an, cn, ak, ck, am, cm, rfl, hcs, hre⟩ := re_at (HA.out.low G.out fun _ _ k => RE.low k G.out) hlt
   obtain ⟨e0, e1, e2, e3, e4, e5, e6, e7, e8, e9, e10, e11⟩ := cells12b hcs
   have HF := Lib.hid (HC.out i hlt wr ai ci an cn ak ck am cm G.out hre)
   obtain ⟨q, hq⟩ : ∃ q, q = f l[i] := ⟨_, rfl⟩
   rw [← hq] at HF
   have HQ := Lib.hid hq
   clear hcs hre hq
   go_wp2_with fail
   refine HF.out.mono ?_
   rintro e w' ⟨rfl, l1⟩
   have G2 := Lib.hid (G.out.trans l1)
   clear l1 HF
   cases q with
   | true =>
    have HQ2 := Lib.hid (CS.out i hlt HQ.out.symm K.out)
    go_wp2_with fail
    go_ret
    exact ⟨retI HQ2.out, G2.out⟩
   | false =>
    go_wp2_with fail
    go_roundg (l.length - (i + 1))
    case measure => omega
    case rel =>
     refine ⟨i + 1, by go_num, by omega, by omega, G2, Lib.hid fun j hj hji => ?_⟩
     rcases Nat.lt_succ_iff_lt_or_eq.1 hji with h | rfl
     ·exact K.out j hj h
     ·exact HQ.out.symm
  ·have zl : ¬ (i : Int) < (l.length : Int) := by omega
   have HQ2 := Lib.hid (CN.out fun j hj => K.out j hj (by omega))
   go_wp2_with fail
   go_ret
   exact ⟨retI HQ2.out, G.out⟩
theorem conE14_c (n : Nat) (l : List E) (f : E → Bool) (x0 : Nat) (w : World) (p : Option Addr) (c : Nat) (h : RowB w 12 encE4 (RE n) l (.slice p l.length c)) (hc : ∀ j (hj : j < l.length) (W : World) (ai : Option Addr) (ci : Nat) (an : Option Addr) (cn : Nat) (ak : Option Addr) (ck : Nat) (am : Option Addr) (cm : Nat), Low w W → RE n W l[j] (p4 l[j] ai ci an cn ak ck am cm) → Calls Tryz.prog 51 #[ex12 l[j] ai ci an cn ak ck am cm, .pointer (some ⟨x0, 0, none⟩)] W fun r W' => r = .returned (.bool (f l[j])) ∧ Low W W') :
  Calls Tryz.prog 50 #[.slice p l.length c, .func (.func 51) #[] #[.pointer (some ⟨x0, 0, none⟩)]] w fun e w' => e = .returned (.bool (l.any f)) ∧ Low w w' := by
 have HI := Lib.hid (idxE14_c n l f x0 w p c h hc)
 obtain ⟨-, z1, z2⟩ := row_len h
 obtain ⟨r, hr⟩ : ∃ r, r = firstI l f := ⟨_, rfl⟩
 rw [← hr] at HI
 have HR := Lib.hid (show decide (0 ≤ r) = l.any f by rw [hr]; exact firstI_any l f)
 clear h hc hr
 go_enter Tryz.func50, Tryz.ntmps50
 go_wp2_with fail
 refine HI.out.mono ?_
 rintro e w' ⟨rfl, l1⟩
 go_wp2_with fail
 go_ret
 exact ⟨retB14 HR.out, l1⟩
def DeE (k : Nat) : Prop := ∀ (n : Nat) (e : E) (w : World) (ai : Option Addr) (ci : Nat) (an : Option Addr) (cn : Nat) (ak : Option Addr) (ck : Nat) (am : Option Addr) (cm : Nat), RE n w e (p4 e ai ci an cn ak ck am cm) → Calls Tryz.prog 31 #[ex12 e ai ci an cn ak ck am cm, .int .i64 (k : Int)] w fun r w' => r = .returned (.bool (decide (k < dpE e))) ∧ Low w w'
set_option maxHeartbeats 1600000 in
theorem deE1_c (k : Nat) (hk : k < 1000) (ih : DeE k) (n : Nat) (e : E) (bx : Nat) (w : World) (ai : Option Addr) (ci : Nat) (an : Option Addr) (cn : Nat) (ak : Option Addr) (ck : Nat) (am : Option Addr) (cm : Nat) (hr : RE n w e (p4 e ai ci an cn ak ck am cm)) (hb : w.cell? ⟨bx, 0, none⟩ = some (.int .i64 ((k + 1 : Nat) : Int))) :
  Calls Tryz.prog 51 #[ex12 e ai ci an cn ak ck am cm, .pointer (some ⟨bx, 0, none⟩)] w fun r w' => r = .returned (.bool (decide (k < dpE e))) ∧ Low w w' := by
 have HC := Lib.hid fun W (l : Low w W) => ih n e W ai ci an cn ak ck am cm (RE.low hr l)
 have hb2 : ∀ X, (w.alloc X).cell? ⟨bx, 0, none⟩ = some (.int .i64 ((k : Int) + 1)) := fun X => (Low.alloc (Low.refl w) X).keep (by rw [hb]; simp)
 generalize decide (k < dpE e) = r at HC ⊢
 clear hr hb ih
 go_enter Tryz.func51, Tryz.ntmps51
 go_wp2_with fail
 refine (HC.out _ (Low.alloc (Low.refl w) _)).mono ?_
 rintro e w1 ⟨rfl, g⟩
 go_wp2_with fail
 go_ret
 exact ⟨rfl, (Low.alloc (Low.refl w) _).trans g⟩
set_option maxHeartbeats 1600000 in
theorem deeperE_n (k : Nat) (hk : k < 1000) : DeE k := by
 induction k with
 | zero =>
  intro n e w ai ci an cn ak ck am cm hr
  have e0 : decide (0 < dpE e) = true := by rw [dpE_v]; simp
  rw [e0]
  clear hr e0 hk
  go_enter Tryz.func31, Tryz.ntmps31
  go_wp2_with fail
  go_ret
  exact ⟨rfl, Low.alloc (Low.alloc (Low.refl w) _) _⟩
 | succ k ih =>
  intro n e w ai ci an cn ak ck am cm hr
  have e0 : decide (k + 1 < dpE e) = e.ks.any fun x => decide (k < dpE x) := by
   rw [dpE_v, Bool.eq_iff_iff]
   simp only [decide_eq_true_eq, List.any_eq_true]
   constructor
   ·intro h
    rcases Classical.em (∃ x, x ∈ e.ks ∧ k < dpE x) with h1 | h1
    ·exact h1
    ·have : dpEL e.ks ≤ k := dpEL_le.2 fun x hx => by
      rcases Nat.lt_or_ge k (dpE x) with h2 | h2
      ·exact absurd ⟨x, hx, h2⟩ h1
      ·exact h2
     omega
   ·rintro ⟨x, hx, h⟩
    have := (dpEL_le (l := e.ks) (n := dpEL e.ks)).1 (Nat.le_refl _) x hx
    omega
  cases n with
  | zero => exact hr.elim
  | succ n =>
  have hrow := (re_succ.1 hr).2.2.1
  have CO := Lib.hid fun W (h : Low w W) (hb : W.cell? ⟨w.heap.size + 1, 0, none⟩ = some (.int .i64 ((k + 1 : Nat) : Int))) => conE14_c n e.ks (fun x => decide (k < dpE x)) (w.heap.size + 1) W ak ck (hrow.low h fun _ _ q => RE.low q h) fun j hj W' ai' ci' an' cn' ak' ck' am' cm' hl hr => deE1_c k (by omega) (ih (by omega)) n e.ks[j] _ W' ai' ci' an' cn' ak' ck' am' cm' hr (hl.keep hb)
  rw [e0]
  clear e0 ih hr hrow
  generalize (e.ks.any fun x => decide (k < dpE x)) = r at CO ⊢
  obtain ⟨W, hW⟩ : ∃ W, W = (w.alloc (.cells #[.int .i64 e.op, .int .i64 e.v.h.k, .bool e.v.h.b, .int .i64 e.v.h.n, .string e.v.h.s, .string e.v.h.t, .string e.v.h.i, .slice ai e.v.l.length ci, .slice an e.v.ns.length cn, .string e.nm, .slice ak e.ks.length ck, .slice am e.ns.length cm] 30)).alloc (.cells #[.int .i64 ((k : Int) + 1)] 3) := ⟨_, rfl⟩
  have hg : Low w W := hW ▸ Low.alloc (Low.alloc (Low.refl w) _) _
  have hb : W.cell? ⟨w.heap.size + 1, 0, none⟩ = some (.int .i64 ((k : Int) + 1)) := by rw [hW]; simp [go_sem]
  have BE := Lib.hid (show BoxAtv W w.heap.size [.int .i64 e.op, .int .i64 e.v.h.k, .bool e.v.h.b, .int .i64 e.v.h.n, .string e.v.h.s, .string e.v.h.t, .string e.v.h.i, .slice ai e.v.l.length ci, .slice an e.v.ns.length cn, .string e.nm, .slice ak e.ks.length ck, .slice am e.ns.length cm] from BoxAtv.low (BoxAtv.made (w := w) (W := w.alloc (.cells #[.int .i64 e.op, .int .i64 e.v.h.k, .bool e.v.h.b, .int .i64 e.v.h.n, .string e.v.h.s, .string e.v.h.t, .string e.v.h.i, .slice ai e.v.l.length ci, .slice an e.v.ns.length cn, .string e.nm, .slice ak e.ks.length ck, .slice am e.ns.length cm] 30)) rfl rfl rfl) (hW ▸ Low.alloc (Low.refl _) _))
  have HCO := Lib.hid (CO.out W hg (by rw [hb]; simp))
  have HG := Lib.hid hg
  clear CO hg
  have hk1 : ((k : Int) + 1 == 0) = false := by rw [beq_eq_false_iff_ne]; omega
  go_enter Tryz.func31, Tryz.ntmps31
  go_upto_region 1 with fail
  rw [← hW]
  clear hW
  obtain ⟨e0, e1, e2, e3, e4, e5, e6, e7, e8, e9, e10, e11⟩ := BE.out.at12
  go_wp2_with fail
  refine HCO.out.mono ?_
  rintro e w2 ⟨rfl, g2⟩
  have HG2 := Lib.hid (HG.out.trans g2)
  clear g2
  go_wp2_with fail
  go_ret
  exact ⟨rfl, HG2.out⟩
theorem deeperE_c (n : Nat) (e : E) (w : World) (ai : Option Addr) (ci : Nat) (an : Option Addr) (cn : Nat) (ak : Option Addr) (ck : Nat) (am : Option Addr) (cm : Nat) (hr : RE n w e (p4 e ai ci an cn ak ck am cm)) : Calls Tryz.prog 31 #[ex12 e ai ci an cn ak ck am cm, .int .i64 50] w fun r w' => r = .returned (.bool (decide (50 < dpE e))) ∧ Low w w' := deeperE_n 50 (by decide) n e w ai ci an cn ak ck am cm hr
end Go.Proofs.YtnchohglplobeaaGreat
namespace Go.Proofs.YtnchohglplobeaaGreat
open Go.RowKit Go.Sort Go.Maps
theorem retBB {a b : Bool} (h : a = b) : Ending.returned (.bool a) = .returned (.bool b) := by rw [h]
set_option maxRecDepth 100000 in
set_option maxHeartbeats 4000000 in
theorem count_c (e : E) (w : World) (ai : Option Addr) (ci : Nat) (an : Option Addr) (cn : Nat) (ak : Option Addr) (ck : Nat) (am : Option Addr) (cm : Nat) : Calls Tryz.prog 64 #[ex12 e ai ci an cn ak ck am cm] w fun r w' => r = .returned (.bool (formB e)) ∧ Low w w' := by
 obtain ⟨op, v, nm, ks, ns⟩ := e
 obtain ⟨nk, hnk⟩ : ∃ n, n = ks.length := ⟨_, rfl⟩
 obtain ⟨nn, hnn⟩ : ∃ n, n = ns.length := ⟨_, rfl⟩
 obtain ⟨q, hq⟩ : ∃ q, q = formB (.mk op v nm ks ns) := ⟨_, rfl⟩
 rw [← hq]
 have HQ : Hid (q = (decide (1 ≤ op ∧ op ≤ 23) && (decide (kidsN op = -1) || decide (kidsN op = (nk : Int))) && (decide (op ≠ 20) || decide (nk = nn)))) := by
  rw [hnk, hnn]
  exact hq
 simp only [ex12, E.op, E.v, E.nm, E.ks, E.ns]
 rw [← hnk, ← hnn]
 clear hq hnk hnn
 by_cases h1 : op = 1
 ·subst h1
  have HR := Lib.hid (show ((nk : Int) == 0) = q by rw [HQ.out]; rw [Bool.eq_iff_iff]; simp [kidsN]; omega)
  go_enter Tryz.func64, Tryz.ntmps64
  go_wp2_with fail
  go_ret
  exact ⟨retBB HR.out, Low.alloc (Low.refl w) _⟩
 by_cases h2 : op = 2
 ·subst h2
  have HR := Lib.hid (show ((nk : Int) == 0) = q by rw [HQ.out]; rw [Bool.eq_iff_iff]; simp [kidsN]; omega)
  go_enter Tryz.func64, Tryz.ntmps64
  go_wp2_with fail
  go_ret
  exact ⟨retBB HR.out, Low.alloc (Low.refl w) _⟩
 by_cases h3 : op = 3
 ·subst h3
  have HR := Lib.hid (show ((nk : Int) == 0) = q by rw [HQ.out]; rw [Bool.eq_iff_iff]; simp [kidsN]; omega)
  go_enter Tryz.func64, Tryz.ntmps64
  go_wp2_with fail
  go_ret
  exact ⟨retBB HR.out, Low.alloc (Low.refl w) _⟩
 by_cases h4 : op = 4
 ·subst h4
  have HR := Lib.hid (show ((nk : Int) == 2) = q by rw [HQ.out]; rw [Bool.eq_iff_iff]; simp [kidsN]; omega)
  go_enter Tryz.func64, Tryz.ntmps64
  go_wp2_with fail
  go_ret
  exact ⟨retBB HR.out, Low.alloc (Low.refl w) _⟩
 by_cases h5 : op = 5
 ·subst h5
  have HR := Lib.hid (show ((nk : Int) == 2) = q by rw [HQ.out]; rw [Bool.eq_iff_iff]; simp [kidsN]; omega)
  go_enter Tryz.func64, Tryz.ntmps64
  go_wp2_with fail
  go_ret
  exact ⟨retBB HR.out, Low.alloc (Low.refl w) _⟩
 by_cases h6 : op = 6
 ·subst h6
  have HR := Lib.hid (show ((nk : Int) == 1) = q by rw [HQ.out]; rw [Bool.eq_iff_iff]; simp [kidsN]; omega)
  go_enter Tryz.func64, Tryz.ntmps64
  go_wp2_with fail
  go_ret
  exact ⟨retBB HR.out, Low.alloc (Low.refl w) _⟩
 by_cases h7 : op = 7
 ·subst h7
  have HR := Lib.hid (show ((nk : Int) == 3) = q by rw [HQ.out]; rw [Bool.eq_iff_iff]; simp [kidsN]; omega)
  go_enter Tryz.func64, Tryz.ntmps64
  go_wp2_with fail
  go_ret
  exact ⟨retBB HR.out, Low.alloc (Low.refl w) _⟩
 by_cases h8 : op = 8
 ·subst h8
  have HR := Lib.hid (show ((nk : Int) == 2) = q by rw [HQ.out]; rw [Bool.eq_iff_iff]; simp [kidsN]; omega)
  go_enter Tryz.func64, Tryz.ntmps64
  go_wp2_with fail
  go_ret
  exact ⟨retBB HR.out, Low.alloc (Low.refl w) _⟩
 by_cases h9 : op = 9
 ·subst h9
  have HR := Lib.hid (show ((nk : Int) == 2) = q by rw [HQ.out]; rw [Bool.eq_iff_iff]; simp [kidsN]; omega)
  go_enter Tryz.func64, Tryz.ntmps64
  go_wp2_with fail
  go_ret
  exact ⟨retBB HR.out, Low.alloc (Low.refl w) _⟩
 by_cases h10 : op = 10
 ·subst h10
  have HR := Lib.hid (show ((nk : Int) == 2) = q by rw [HQ.out]; rw [Bool.eq_iff_iff]; simp [kidsN]; omega)
  go_enter Tryz.func64, Tryz.ntmps64
  go_wp2_with fail
  go_ret
  exact ⟨retBB HR.out, Low.alloc (Low.refl w) _⟩
 by_cases h11 : op = 11
 ·subst h11
  have HR := Lib.hid (show ((nk : Int) == 2) = q by rw [HQ.out]; rw [Bool.eq_iff_iff]; simp [kidsN]; omega)
  go_enter Tryz.func64, Tryz.ntmps64
  go_wp2_with fail
  go_ret
  exact ⟨retBB HR.out, Low.alloc (Low.refl w) _⟩
 by_cases h12 : op = 12
 ·subst h12
  have HR := Lib.hid (show ((nk : Int) == 2) = q by rw [HQ.out]; rw [Bool.eq_iff_iff]; simp [kidsN]; omega)
  go_enter Tryz.func64, Tryz.ntmps64
  go_wp2_with fail
  go_ret
  exact ⟨retBB HR.out, Low.alloc (Low.refl w) _⟩
 by_cases h13 : op = 13
 ·subst h13
  have HR := Lib.hid (show ((nk : Int) == 2) = q by rw [HQ.out]; rw [Bool.eq_iff_iff]; simp [kidsN]; omega)
  go_enter Tryz.func64, Tryz.ntmps64
  go_wp2_with fail
  go_ret
  exact ⟨retBB HR.out, Low.alloc (Low.refl w) _⟩
 by_cases h14 : op = 14
 ·subst h14
  have HR := Lib.hid (show ((nk : Int) == 1) = q by rw [HQ.out]; rw [Bool.eq_iff_iff]; simp [kidsN]; omega)
  go_enter Tryz.func64, Tryz.ntmps64
  go_wp2_with fail
  go_ret
  exact ⟨retBB HR.out, Low.alloc (Low.refl w) _⟩
 by_cases h15 : op = 15
 ·subst h15
  have HR := Lib.hid (show ((nk : Int) == 2) = q by rw [HQ.out]; rw [Bool.eq_iff_iff]; simp [kidsN]; omega)
  go_enter Tryz.func64, Tryz.ntmps64
  go_wp2_with fail
  go_ret
  exact ⟨retBB HR.out, Low.alloc (Low.refl w) _⟩
 by_cases h16 : op = 16
 ·subst h16
  have HR := Lib.hid (show ((nk : Int) == 1) = q by rw [HQ.out]; rw [Bool.eq_iff_iff]; simp [kidsN]; omega)
  go_enter Tryz.func64, Tryz.ntmps64
  go_wp2_with fail
  go_ret
  exact ⟨retBB HR.out, Low.alloc (Low.refl w) _⟩
 by_cases h17 : op = 17
 ·subst h17
  have HR := Lib.hid (show ((nk : Int) == 1) = q by rw [HQ.out]; rw [Bool.eq_iff_iff]; simp [kidsN]; omega)
  go_enter Tryz.func64, Tryz.ntmps64
  go_wp2_with fail
  go_ret
  exact ⟨retBB HR.out, Low.alloc (Low.refl w) _⟩
 by_cases h18 : op = 18
 ·subst h18
  have HR := Lib.hid (show ((nk : Int) == 1) = q by rw [HQ.out]; rw [Bool.eq_iff_iff]; simp [kidsN]; omega)
  go_enter Tryz.func64, Tryz.ntmps64
  go_wp2_with fail
  go_ret
  exact ⟨retBB HR.out, Low.alloc (Low.refl w) _⟩
 by_cases h19 : op = 19
 ·subst h19
  have HR := Lib.hid (show true = q by rw [HQ.out]; simp [kidsN])
  go_enter Tryz.func64, Tryz.ntmps64
  go_wp2_with fail
  go_ret
  exact ⟨retBB HR.out, Low.alloc (Low.refl w) _⟩
 by_cases h20 : op = 20
 ·subst h20
  have HR := Lib.hid (show ((nk : Int) == (nn : Int)) = q by rw [HQ.out]; rw [Bool.eq_iff_iff]; simp [kidsN]; omega)
  go_enter Tryz.func64, Tryz.ntmps64
  go_wp2_with fail
  go_ret
  exact ⟨retBB HR.out, Low.alloc (Low.refl w) _⟩
 by_cases h21 : op = 21
 ·subst h21
  have HR := Lib.hid (show ((nk : Int) == 2) = q by rw [HQ.out]; rw [Bool.eq_iff_iff]; simp [kidsN]; omega)
  go_enter Tryz.func64, Tryz.ntmps64
  go_wp2_with fail
  go_ret
  exact ⟨retBB HR.out, Low.alloc (Low.refl w) _⟩
 by_cases h22 : op = 22
 ·subst h22
  have HR := Lib.hid (show ((nk : Int) == 2) = q by rw [HQ.out]; rw [Bool.eq_iff_iff]; simp [kidsN]; omega)
  go_enter Tryz.func64, Tryz.ntmps64
  go_wp2_with fail
  go_ret
  exact ⟨retBB HR.out, Low.alloc (Low.refl w) _⟩
 by_cases h23 : op = 23
 ·subst h23
  have HR := Lib.hid (show ((nk : Int) == 2) = q by rw [HQ.out]; rw [Bool.eq_iff_iff]; simp [kidsN]; omega)
  go_enter Tryz.func64, Tryz.ntmps64
  go_wp2_with fail
  go_ret
  exact ⟨retBB HR.out, Low.alloc (Low.refl w) _⟩
 have HR := Lib.hid (show false = q by rw [HQ.out]; symm; simp only [Bool.and_eq_false_iff]; left; left; rw [decide_eq_false_iff_not]; omega)
 have b1 : (op == 1) = false := by simpa using h1
 have b2 : (op == 2) = false := by simpa using h2
 have b3 : (op == 3) = false := by simpa using h3
 have b4 : (op == 4) = false := by simpa using h4
 have b5 : (op == 5) = false := by simpa using h5
 have b6 : (op == 6) = false := by simpa using h6
 have b7 : (op == 7) = false := by simpa using h7
 have b8 : (op == 8) = false := by simpa using h8
 have b9 : (op == 9) = false := by simpa using h9
 have b10 : (op == 10) = false := by simpa using h10
 have b11 : (op == 11) = false := by simpa using h11
 have b12 : (op == 12) = false := by simpa using h12
 have b13 : (op == 13) = false := by simpa using h13
 have b14 : (op == 14) = false := by simpa using h14
 have b15 : (op == 15) = false := by simpa using h15
 have b16 : (op == 16) = false := by simpa using h16
 have b17 : (op == 17) = false := by simpa using h17
 have b18 : (op == 18) = false := by simpa using h18
 have b19 : (op == 19) = false := by simpa using h19
 have b20 : (op == 20) = false := by simpa using h20
 have b21 : (op == 21) = false := by simpa using h21
 have b22 : (op == 22) = false := by simpa using h22
 have b23 : (op == 23) = false := by simpa using h23
 clear h1 h2 h3 h4 h5 h6 h7 h8 h9 h10 h11 h12 h13 h14 h15 h16 h17 h18 h19 h20 h21 h22 h23
 go_enter Tryz.func64, Tryz.ntmps64
 go_wp2_with fail
 go_ret
 exact ⟨retBB HR.out, Low.alloc (Low.refl w) _⟩
end Go.Proofs.YtnchohglplobeaaGreat
namespace Go.Proofs.YtnchohglplobeaaGreat
open Go.RowKit Go.Sort Go.Maps
structure Cx (K : Rk) (W0 : World) : Prop where
 ctx : R W0 K.c (.slice K.ai K.c.l.length K.ci) (.slice K.an K.c.ns.length K.cn)
 ok : OkQ K.q
 ops : OpsAt W0 K.mb
 ne : ∀ m, K.X.m = some m → m ≠ K.mb
theorem Cx.at' {K : Rk} {W0 w : World} (cx : Cx K W0) (g : Go K.X W0 w) : OpsAt w K.mb := by
 have hlt := MapAt.lt cx.ops
 have hl := g.lo
 have hne := cx.ne
 revert hl hne
 generalize K.X.m = o
 intro hl hne
 cases o with
 | none => exact OpsAt.low cx.ops hl
 | some m => exact OpsAt.block cx.ops ((show Lw m W0 w from hl).block K.mb hlt (fun e => hne m rfl e.symm))
theorem opF_none (a : Kn) (n9 : a.n ≠ 9) (n10 : a.n ≠ 10) (n11 : a.n ≠ 11) (n12 : a.n ≠ 12) (n13 : a.n ≠ 13) (n14 : a.n ≠ 14) : opF a = none := by
 rw [opF_at, if_neg n14, if_neg n13, if_neg n12, if_neg n11, if_neg n10, if_neg n9]
theorem evS_at {Q : RqE} {n : Nat} {e : E} (h : formB e = true) : evS Q (n + 1) e = evK Q (evS Q n) e.op e.v e.nm e.ks e.ns := by
 rw [evS, if_neg (by rw [h]; decide)]
theorem form_ks {e : E} (h : formB e = true) : (1 ≤ e.op ∧ e.op ≤ 23) ∧ (kidsN e.op = -1 ∨ kidsN e.op = (e.ks.length : Int)) ∧ (e.op ≠ 20 ∨ e.ks.length = e.ns.length) := by
 unfold formB at h
 simp only [Bool.and_eq_true, Bool.or_eq_true, decide_eq_true_eq] at h
 exact ⟨h.1.1, h.1.2, h.2⟩
theorem ks1 {e : E} (h : e.ks.length = 1) : ∃ a, e.ks = [a] := List.length_eq_one_iff.1 h
theorem ks2 {e : E} (h : e.ks.length = 2) : ∃ a b, e.ks = [a, b] := by
 match hk : e.ks, h with
 | [a, b], _ => exact ⟨a, b, rfl⟩
theorem ks3 {e : E} (h : e.ks.length = 3) : ∃ a b c, e.ks = [a, b, c] := by
 match hk : e.ks, h with
 | [a, b, c], _ => exact ⟨a, b, c, rfl⟩
theorem evM1_L {Q : RqE} {f : E → Int × V} {op : Int} {nm : ByteArray} {a : E} : ((evL f [a]).1 ≠ 0 → evM Q f op nm [a] = ((evL f [a]).1, V0)) ∧ ((evL f [a]).1 = 0 → evL f [a] = (0, [(f a).2]) ∧ evM Q f op nm [a] = op1 Q op nm (f a).2) := by
 simp only [evM, evL, thenS]
 by_cases h : (f a).1 = 0
 ·simp [h]
 ·simp [h]
theorem evM2_L {Q : RqE} {f : E → Int × V} {op : Int} {nm : ByteArray} {a b : E} (h4 : op ≠ 4) (h5 : op ≠ 5) : ((evL f [a, b]).1 ≠ 0 → evM Q f op nm [a, b] = ((evL f [a, b]).1, V0)) ∧ ((evL f [a, b]).1 = 0 → evL f [a, b] = (0, [(f a).2, (f b).2]) ∧ evM Q f op nm [a, b] = op2 Q op (f a).2 (f b).2) := by
 simp only [evM, evL, thenS, if_neg h4, if_neg h5]
 by_cases h : (f a).1 = 0
 ·by_cases h2 : (f b).1 = 0
  ·simp [h, h2]
  ·simp [h, h2]
 ·simp [h]
theorem dec2 {Q : RqE} {f : E → Int × V} {nm : ByteArray} {a b : E} : decL false ([a, b].map fun x => trS (f x)) = evM Q f 4 nm [a, b] ∧ decL true ([a, b].map fun x => trS (f x)) = evM Q f 5 nm [a, b] := by
 simp only [List.map_cons, List.map_nil, decL, evM, truS, trS]
 constructor
 ·by_cases h : (f a).1 = 0
  ·by_cases h1 : (f a).2.h.k = 1
   ·cases hb : (f a).2.h.b <;> by_cases h2 : (f b).1 = 0 <;> by_cases h3 : (f b).2.h.k = 1 <;> cases hb2 : (f b).2.h.b <;> simp [h, h1, hb, h2, h3, hb2]
   ·simp [h, h1]
  ·simp [h]
 ·by_cases h : (f a).1 = 0
  ·by_cases h1 : (f a).2.h.k = 1
   ·cases hb : (f a).2.h.b <;> by_cases h2 : (f b).1 = 0 <;> by_cases h3 : (f b).2.h.k = 1 <;> cases hb2 : (f b).2.h.b <;> simp [h, h1, hb, h2, h3, hb2]
   ·simp [h, h1]
  ·simp [h]
theorem RowAt.lt {A : Nat → Prop} {w : World} {l : List V} {it : Value} (h : RowAt A w l it) : RowAt (fun b => A b ∧ b < w.heap.size) w l it := RowAt.to (fun b ha hb => ⟨⟨ha, hb⟩, rfl⟩) h
theorem RowAt.r {A : Nat → Prop} {w : World} {l : List V} {it : Value} (h : RowAt A w l it) : Ro w l it := RowAt.to (fun b _ _ => ⟨trivial, rfl⟩) h
end Go.Proofs.YtnchohglplobeaaGreat
namespace Go.Proofs.YtnchohglplobeaaGreat
open Go.RowKit Go.Sort Go.Maps
set_option maxRecDepth 100000 in
set_option maxHeartbeats 4000000 in
theorem in14_c (K : Rk) {A : Nat → Prop} (v u : V) (w : World) (ai : Option Addr) (ci : Nat) (an : Option Addr) (cn : Nat) (bi : Option Addr) (di : Nat) (bn : Option Addr) (dn : Nat) (hv : R w v (.slice ai v.l.length ci) (.slice an v.ns.length cn)) (hu : R w u (.slice bi u.l.length di) (.slice bn u.ns.length dn)) (hl : u.l.length ≤ 1000000) (hX : K.X.at w) :
  Calls Tryz.prog 101 #[K.v, av8 v.h ai v.l.length ci an v.ns.length cn, av8 u.h bi u.l.length di bn u.ns.length dn] w (VR K.X A (if v.h.k = 4 ∧ ((refsL u).all fun x => decide (x.h.k = 4)) = true then (0, truV ((refsL u).any fun x => K.X.isIn (usOf v) (usOf x))) else (30, V0)) w) := by
 have HXX := Lib.hid hX
 have HC := Lib.hid fun W (h : Low w W) => refs_c u W bi di bn dn (hu.low h) hl
 unfold RefsP at HC
 have HUV := Lib.hid (usOf_bh (rep_v.1 hv).1)
 obtain ⟨q, hq⟩ : ∃ q, q = (refsL u).all fun x => decide (x.h.k = 4) := ⟨_, rfl⟩
 rw [← hq] at HC ⊢
 clear hu hv hl hX hq
 by_cases h4 : v.h.k = 4
 ·cases q with
  | true =>
   rw [if_pos ⟨h4, rfl⟩]
   have HI := Lib.hid fun W r (hx : K.X.at W) (h : UsAt W r ((refsL u).map usOf)) => inOneOf_c (X := K.X) (usOf v) ((refsL u).map usOf) W hx r h
   simp only [K.hx, HUV.out.1, HUV.out.2, List.any_map] at HI
   have e : ((refsL u).any ((fun u => K.X.isIn (usOf v) u) ∘ usOf)) = (refsL u).any fun x => K.X.isIn (usOf v) (usOf x) := rfl
   simp only [e] at HI
   clear e
   generalize ((refsL u).any fun x => K.X.isIn (usOf v) (usOf x)) = b at HI ⊢
   have HT := Lib.hid (fun W => truth_c b W)
   have HK := Lib.hid h4
   clear h4
   obtain ⟨U, HU, LU, ZU, BK, BV, BU, BR⟩ := boxes4 w [.string K.pu.t, .string K.pu.i, .string K.au.t, .string K.au.i, .string K.ru.t, .string K.ru.i, .int .i64 K.c.h.k, .bool K.c.h.b, .int .i64 K.c.h.n, .string K.c.h.s, .string K.c.h.t, .string K.c.h.i, .slice K.ai K.c.l.length K.ci, .slice K.an K.c.ns.length K.cn, .pointer K.xp, .map (some K.mb)] 80 [.int .i64 v.h.k, .bool v.h.b, .int .i64 v.h.n, .string v.h.s, .string v.h.t, .string v.h.i, .slice ai v.l.length ci, .slice an v.ns.length cn] 27 [.int .i64 u.h.k, .bool u.h.b, .int .i64 u.h.n, .string u.h.s, .string u.h.t, .string u.h.i, .slice bi u.l.length di, .slice bn u.ns.length dn] 27 [.int .i64 0, .bool false, .int .i64 0, .string ⟨#[]⟩, .string ⟨#[]⟩, .string ⟨#[]⟩, .slice none 0 0, .slice none 0 0] 27
   go_enter Tryz.func101, Tryz.ntmps101
   go_upto_region 1 with fail
   rw [← HU.out]
   clear HU
   obtain ⟨u0, u1, u2, u3, u4, u5, u6, u7⟩ := BU.out.at8
   go_wp2_with fail
   refine (HC.out _ LU.out).mono ?_
   rintro e w1 ⟨r, rfl, hus, g⟩
   have HG := Lib.hid g
   have HUS := Lib.hid hus
   have BK1 := Lib.hid (BK.out.low g)
   have BV1 := Lib.hid (BV.out.low g)
   have BR1 := Lib.hid (BR.out.low g)
   clear g hus HC u0 u1 u2 u3 u4 u5 u6 u7 BK BV BR
   obtain ⟨v0, v1, v2, v3, v4, v5, v6, v7⟩ := BV1.out.at8
   rw [HK.out] at v0
   obtain ⟨k0, k1, k2, k3, k4, k5, k6, k7, k8, k9, k10, k11, k12, k13, k14, k15⟩ := BK1.out.at16
   go_upto_region 4 with fail
   have HII := Lib.hid (HI.out w1 r (Sx.low HXX.out (LU.out.trans HG.out)) (HUS.out trivial))
   clear HI
   go_wp2_with fail
   refine HII.out.mono ?_
   rintro e w2 ⟨rfl, g⟩
   have HG2 := Lib.hid ((Go.of HXX.out (LU.out.trans HG.out)).trans g)
   have BR2 := Lib.hid (g.box BR1.out (by simp))
   clear g k0 k1 k2 k3 k4 k5 k6 k7 k8 k9 k10 k11 k12 k13 k14 k15 v0 v1 v2 v3 v4 v5 v6 v7 HII
   go_wp2_with fail
   refine (HT.out _).mono ?_
   rintro e w5 ⟨rfl, g5⟩
   have HG5 := Lib.hid (HG2.out.low g5.low)
   have BR5 := Lib.hid (BR2.out.low g5.low)
   clear g5 HT
   obtain ⟨z0, z1, z2, z3, z4, z5, z6, z7⟩ := BR5.out.at8
   obtain ⟨f0, f1, f2, f3, f4, f5, f6, f7⟩ := BR5.out.op8
   go_wp2_with fail
   refine bodyPost_ret (v := .tuple #[trV b, .int .i64 0]) (by simp [results, Tryz.results101, go_sem, World.cell?_setCell_same', z0, z1, z2, z3, z4, z5, z6, z7]; try rfl) rfl ?_
   exact vr_tru (HG5.out.k (k := w.heap.size + 3) (kept8 _ _ _ _ _ _ _ _ _ _) (by omega))
  | false =>
   rw [if_neg (by simp)]
   have HK := Lib.hid h4
   clear h4
   obtain ⟨U, HU, LU, ZU, BK, BV, BU, BR⟩ := boxes4 w [.string K.pu.t, .string K.pu.i, .string K.au.t, .string K.au.i, .string K.ru.t, .string K.ru.i, .int .i64 K.c.h.k, .bool K.c.h.b, .int .i64 K.c.h.n, .string K.c.h.s, .string K.c.h.t, .string K.c.h.i, .slice K.ai K.c.l.length K.ci, .slice K.an K.c.ns.length K.cn, .pointer K.xp, .map (some K.mb)] 80 [.int .i64 v.h.k, .bool v.h.b, .int .i64 v.h.n, .string v.h.s, .string v.h.t, .string v.h.i, .slice ai v.l.length ci, .slice an v.ns.length cn] 27 [.int .i64 u.h.k, .bool u.h.b, .int .i64 u.h.n, .string u.h.s, .string u.h.t, .string u.h.i, .slice bi u.l.length di, .slice bn u.ns.length dn] 27 [.int .i64 0, .bool false, .int .i64 0, .string ⟨#[]⟩, .string ⟨#[]⟩, .string ⟨#[]⟩, .slice none 0 0, .slice none 0 0] 27
   go_enter Tryz.func101, Tryz.ntmps101
   go_upto_region 1 with fail
   rw [← HU.out]
   clear HU
   obtain ⟨u0, u1, u2, u3, u4, u5, u6, u7⟩ := BU.out.at8
   go_wp2_with fail
   refine (HC.out _ LU.out).mono ?_
   rintro e w1 ⟨r, rfl, hus, g⟩
   have HG := Lib.hid g
   have HUS := Lib.hid hus
   have BK1 := Lib.hid (BK.out.low g)
   have BV1 := Lib.hid (BV.out.low g)
   have BR1 := Lib.hid (BR.out.low g)
   clear g hus HC u0 u1 u2 u3 u4 u5 u6 u7 BK BV BR
   obtain ⟨v0, v1, v2, v3, v4, v5, v6, v7⟩ := BV1.out.at8
   rw [HK.out] at v0
   obtain ⟨z0, z1, z2, z3, z4, z5, z6, z7⟩ := BR1.out.at8
   obtain ⟨f0, f1, f2, f3, f4, f5, f6, f7⟩ := BR1.out.op8
   go_wp2_with fail
   refine bodyPost_ret (v := .tuple #[zeV, .int .i64 30]) (by simp [results, Tryz.results101, go_sem, World.cell?_setCell_same', z0, z1, z2, z3, z4, z5, z6, z7]; try rfl) rfl ?_
   exact vr_err ((Go.of HXX.out (LU.out.trans HG.out)).k (k := w.heap.size + 3) (kept8 _ _ _ _ _ _ _ _ _ _) (by omega))
 ·rw [if_neg (fun h => h4 h.1)]
  have hk2 : (v.h.k == 4) = false := by simpa using h4
  have hk4 : (v.h.k != 4) = true := by simpa using h4
  clear h4
  obtain ⟨U, HU, LU, ZU, BK, BV, BU, BR⟩ := boxes4 w [.string K.pu.t, .string K.pu.i, .string K.au.t, .string K.au.i, .string K.ru.t, .string K.ru.i, .int .i64 K.c.h.k, .bool K.c.h.b, .int .i64 K.c.h.n, .string K.c.h.s, .string K.c.h.t, .string K.c.h.i, .slice K.ai K.c.l.length K.ci, .slice K.an K.c.ns.length K.cn, .pointer K.xp, .map (some K.mb)] 80 [.int .i64 v.h.k, .bool v.h.b, .int .i64 v.h.n, .string v.h.s, .string v.h.t, .string v.h.i, .slice ai v.l.length ci, .slice an v.ns.length cn] 27 [.int .i64 u.h.k, .bool u.h.b, .int .i64 u.h.n, .string u.h.s, .string u.h.t, .string u.h.i, .slice bi u.l.length di, .slice bn u.ns.length dn] 27 [.int .i64 0, .bool false, .int .i64 0, .string ⟨#[]⟩, .string ⟨#[]⟩, .string ⟨#[]⟩, .slice none 0 0, .slice none 0 0] 27
  go_enter Tryz.func101, Tryz.ntmps101
  go_upto_region 1 with fail
  rw [← HU.out]
  clear HU
  obtain ⟨u0, u1, u2, u3, u4, u5, u6, u7⟩ := BU.out.at8
  go_wp2_with fail
  refine (HC.out _ LU.out).mono ?_
  rintro e w1 ⟨r, rfl, hus, g⟩
  have HG := Lib.hid g
  have HUS := Lib.hid hus
  have BK1 := Lib.hid (BK.out.low g)
  have BV1 := Lib.hid (BV.out.low g)
  have BR1 := Lib.hid (BR.out.low g)
  clear g hus HC u0 u1 u2 u3 u4 u5 u6 u7 BK BV BR
  obtain ⟨v0, v1, v2, v3, v4, v5, v6, v7⟩ := BV1.out.at8
  obtain ⟨z0, z1, z2, z3, z4, z5, z6, z7⟩ := BR1.out.at8
  obtain ⟨f0, f1, f2, f3, f4, f5, f6, f7⟩ := BR1.out.op8
  go_wp2_with fail
  refine bodyPost_ret (v := .tuple #[zeV, .int .i64 30]) (by simp [results, Tryz.results101, go_sem, World.cell?_setCell_same', z0, z1, z2, z3, z4, z5, z6, z7]; try rfl) rfl ?_
  exact vr_err ((Go.of HXX.out (LU.out.trans HG.out)).k (k := w.heap.size + 3) (kept8 _ _ _ _ _ _ _ _ _ _) (by omega))
end Go.Proofs.YtnchohglplobeaaGreat
