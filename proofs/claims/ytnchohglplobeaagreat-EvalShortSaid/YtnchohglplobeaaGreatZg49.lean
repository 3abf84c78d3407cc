/- Depth of layer 8's reference, few, size and lits of the law, of any expression. Condition: as said. fit: whether expression, request and entities are small. No condition. An expression among a law's arguments lies in memory, its numbers in their range. No condition. Short expressions, plain. No condition. What short expressions come to, in memory. No condition. -/
import Derived.Test.YtnchohglplobeaaGreatZg38
set_option linter.unusedVariables false
set_option linter.unusedSimpArgs false
set_option linter.unnecessarySimpa false
namespace Go.Proofs.YtnchohglplobeaaGreat
open Go.RowKit Go.Sort Go.Maps
def FkE : Nat → E → Prop
 | 0, _ => False
 | n + 1, e => (e.ks.length ≤ 20 ∧ e.ns.length ≤ 20) ∧ ∀ x ∈ e.ks, FkE n x
def LtE : Nat → E → Prop
 | 0, _ => False
 | n + 1, e => (Smv e.v ∧ dep e.v ≤ 61) ∧ ∀ x ∈ e.ks, LtE n x
def RgE : Nat → E → Prop
 | 0, _ => False
 | n + 1, e => (Iv e.v ∧ -9223372036854775808 ≤ e.op ∧ e.op ≤ 9223372036854775807) ∧ ∀ x ∈ e.ks, RgE n x
theorem okE_of : ∀ {n : Nat} {e : E}, FkE n e → LtE n e → RgE n e → OkE n e
 | 0, _, h, _, _ => h.elim
 | n + 1, e, h1, h2, h3 => ⟨⟨⟨h2.1.1, h3.1.1, by have := h2.1.2; omega, by have := h1.1.1; omega, by have := h1.1.2; omega⟩, h3.1.2⟩, fun x hx => okE_of (h1.2 x hx) (h2.2 x hx) (h3.2 x hx)⟩
theorem dpEL_take {l : List E} {i : Nat} (h : i < l.length) : dpEL (l.take (i + 1)) = max (dpEL (l.take i)) (dpE l[i]) := by
 induction l generalizing i with
 | nil => simp at h
 | cons x l ih =>
  cases i with
  | zero => simp [dpEL]
  | succ i =>
   have := ih (i := i) (by simpa using h)
   simp only [List.take_succ_cons, dpEL, List.getElem_cons_succ, this, Nat.max_assoc]
set_option maxRecDepth 100000 in
set_option maxHeartbeats 4000000 in
theorem rdepthE_n (n : Nat) : ∀ (e : E) (ai : Option Addr) (ci : Nat) (an : Option Addr) (cn : Nat) (ak : Option Addr) (ck : Nat) (am : Option Addr) (cm : Nat) (w : World), RE n w e (p4 e ai ci an cn ak ck am cm) → dpE e ≤ 1000000 → Calls Tryz.prog 21 #[ex12 e ai ci an cn ak ck am cm] w fun r w' => r = .returned (.int .i64 (dpE e : Int)) ∧ Low w w' := by
 induction n with
 | zero => intro e ai ci an cn ak ck am cm w h; exact h.elim
 | succ n ih =>
  intro e ai ci an cn ak ck am cm w hr hd
  obtain ⟨hv, -, hrow, hna⟩ := re_succ.1 hr
  obtain ⟨-, z1, z2⟩ := row_len hrow
  have HROW := Lib.hid hrow
  have IH := Lib.hid ih
  have HD := Lib.hid hd
  rw [dpE_v e]
  obtain ⟨m, hm⟩ : ∃ m, m = dpEL e.ks := ⟨_, rfl⟩
  have HM := Lib.hid hm
  have hm6 : m < 1000000 := by rw [dpE_v] at hd; omega
  rw [← hm]
  clear hr hv hna ih hd hm hrow
  obtain ⟨U, HU, LU, ZU, BE⟩ := boxes1 w [.int .i64 e.op, .int .i64 e.v.h.k, .bool e.v.h.b, .int .i64 e.v.h.n, .string e.v.h.s, .string e.v.h.t, .string e.v.h.i, .slice ai e.v.l.length ci, .slice an e.v.ns.length cn, .string e.nm, .slice ak e.ks.length ck, .slice am e.ns.length cm] 30
  go_enter Tryz.func21, Tryz.ntmps21
  go_upto_region 1 with fail
  rw [← HU.out]
  clear HU
  go_wp2_with fail
  go_loopg [3, 4] e.ks.length (fun gk vd vi wr => ∃ (i q : Nat), vd = .int .i64 (q : Int) ∧ vi = .int .i64 (i : Int) ∧ i ≤ e.ks.length ∧ e.ks.length - i ≤ gk ∧ q ≤ m ∧ Hid (q = dpEL (e.ks.take i)) ∧ Hid (Low U wr))
  case atStart => exact ⟨0, 0, rfl, rfl, Nat.zero_le _, Nat.le_refl _, Nat.zero_le _, Lib.hid (by simp [dpEL]), Lib.hid (Low.refl _)⟩
  case round =>
   obtain ⟨i, q, rfl, rfl, hi, hg, hqm, HQ, GU⟩ := hrel
   have G := Lib.hid (LU.out.trans GU.out)
   have bx := (BE.out.low GU.out).at 10 _ rfl
   by_cases hlt : i < e.ks.length
   ·have zl : (i : Int) < (e.ks.length : Int) := by omega
    obtain ⟨b, o, ai', ci', an', cn', ak', ck', am', cm', rfl, hcs, hre⟩ := re_at (HROW.out.low G.out fun _ _ k => RE.low k G.out) hlt
    obtain ⟨e0, e1, e2, e3, e4, e5, e6, e7, e8, e9, e10, e11⟩ := cells12b hcs
    have HC := Lib.hid (IH.out e.ks[i] ai' ci' an' cn' ak' ck' am' cm' wr hre (by have := dpEL_le.1 (Nat.le_of_eq HM.out.symm) e.ks[i] (List.getElem_mem hlt); omega))
    have HT := Lib.hid (dpEL_take hlt)
    have hcm9 : dpE e.ks[i] ≤ m := dpEL_le.1 (Nat.le_of_eq HM.out.symm) e.ks[i] (List.getElem_mem hlt)
    generalize dpE e.ks[i] = c at *
    clear hcs hre
    go_wp2_with fail
    refine HC.out.mono ?_
    rintro r w2 ⟨rfl, l2⟩
    have G2 := Lib.hid (GU.out.trans l2)
    clear l2 HC e0 e1 e2 e3 e4 e5 e6 e7 e8 e9 e10 e11
    go_wp2_with fail
    all_goals
     go_roundg (e.ks.length - (i + 1))
     case measure => omega
     case rel => exact ⟨i + 1, max q c, by simp only [Value.int.injEq, true_and]; omega, by go_num, by omega, by omega, by omega, Lib.hid (by rw [HT.out, HQ.out]), G2⟩
   ·have zl : ¬ (i : Int) < (e.ks.length : Int) := by omega
    have HQ2 := Lib.hid (show q = m by rw [HQ.out, HM.out, List.take_of_length_le (by omega)])
    go_wp2_with fail
    refine bodyPost_ret (v := .int .i64 ((q : Int) + 1)) (by simp [results, Tryz.results21, go_sem]; try rfl) rfl ?_
    exact ⟨by rw [HQ2.out], G.out⟩
def FwP (n D : Nat) (e : E) (w : World) (r : Ending) (w' : World) : Prop := ∃ b : Bool, r = .returned (.bool b) ∧ (b = true → FkE n e ∧ dpE e + D ≤ 61) ∧ Low w w'
def LiP (n : Nat) (e : E) (w : World) (r : Ending) (w' : World) : Prop := ∃ b : Bool, r = .returned (.bool b) ∧ (b = true → LtE n e) ∧ Low w w'
set_option maxRecDepth 100000 in
set_option maxHeartbeats 4000000 in
theorem fewE_n (n : Nat) : ∀ (D : Nat), D ≤ 1000 → ∀ (e : E) (ai : Option Addr) (ci : Nat) (an : Option Addr) (cn : Nat) (ak : Option Addr) (ck : Nat) (am : Option Addr) (cm : Nat) (w : World), RE n w e (p4 e ai ci an cn ak ck am cm) → Calls Tryz.prog 22 #[ex12 e ai ci an cn ak ck am cm, .int .i64 (D : Int)] w (FwP n D e w) := by
 induction n with
 | zero => intro D hD e ai ci an cn ak ck am cm w h; exact h.elim
 | succ n ih =>
  intro D hD e ai ci an cn ak ck am cm w hr
  obtain ⟨-, -, hrow, am0, cm0, hna, hnl, -⟩ := re_succ.1 hr
  simp only [Value.slice.injEq] at hna
  obtain ⟨rfl, -, rfl⟩ := hna
  obtain ⟨-, z1, z2⟩ := row_len hrow
  have HROW := Lib.hid hrow
  by_cases hc : e.ks.length ≤ 20 ∧ e.ns.length ≤ 20 ∧ D ≤ 60
  ·obtain ⟨c1, c2, c3⟩ := hc
   have IH := Lib.hid (ih (D + 1) (by omega))
   have y1 : (e.ks.length : Int) ≤ 20 := by omega
   have y2 : (e.ns.length : Int) ≤ 20 := by omega
   have y3 : (D : Int) ≤ 60 := by omega
   have y4 : (D : Int) + 1 ≤ 61 := by omega
   clear hr ih hrow hnl
   obtain ⟨U, HU, LU, ZU, BE⟩ := boxes1 w [.int .i64 e.op, .int .i64 e.v.h.k, .bool e.v.h.b, .int .i64 e.v.h.n, .string e.v.h.s, .string e.v.h.t, .string e.v.h.i, .slice ai e.v.l.length ci, .slice an e.v.ns.length cn, .string e.nm, .slice ak e.ks.length ck, .slice am e.ns.length cm] 30
   go_enter Tryz.func22, Tryz.ntmps22
   go_upto_region 1 with fail
   rw [← HU.out]
   clear HU
   have b10 := BE.out.at 10 _ rfl
   have b11 := BE.out.at 11 _ rfl
   go_wp2_with fail
   clear b10 b11
   go_loopg [5, 6] e.ks.length (fun gk vi vb wr => ∃ i : Nat, vi = .int .i64 (i : Int) ∧ i ≤ e.ks.length ∧ e.ks.length - i ≤ gk ∧ Hid (∀ j (hj : j < e.ks.length), j < i → FkE n e.ks[j] ∧ dpE e.ks[j] + D ≤ 60) ∧ Hid (Low U wr))
   case atStart => exact ⟨0, rfl, Nat.zero_le _, Nat.le_refl _, Lib.hid fun j hj h => absurd h (Nat.not_lt_zero _), Lib.hid (Low.refl _)⟩
   case round =>
    obtain ⟨i, rfl, hi, hg, HQ, GU⟩ := hrel
    have G := Lib.hid (LU.out.trans GU.out)
    have bx := (BE.out.low GU.out).at 10 _ rfl
    by_cases hlt : i < e.ks.length
    ·have zl : (i : Int) < (e.ks.length : Int) := by omega
     obtain ⟨b, o, ai', ci', an', cn', ak', ck', am', cm', rfl, hcs, hre⟩ := re_at (HROW.out.low G.out fun _ _ k => RE.low k G.out) hlt
     obtain ⟨e0, e1, e2, e3, e4, e5, e6, e7, e8, e9, e10, e11⟩ := cells12b hcs
     have HC := Lib.hid (IH.out e.ks[i] ai' ci' an' cn' ak' ck' am' cm' wr hre)
     clear hcs hre
     go_wp2_with fail
     refine HC.out.mono ?_
     rintro r w2 ⟨bb, rfl, hb, l2⟩
     have G2 := Lib.hid (GU.out.trans l2)
     have HB := Lib.hid hb
     clear l2 hb HC e0 e1 e2 e3 e4 e5 e6 e7 e8 e9 e10 e11
     cases bb with
     | true =>
      go_wp2_with fail
      go_roundg (e.ks.length - (i + 1))
      case measure => omega
      case rel =>
       refine ⟨i + 1, by go_num, by omega, by omega, Lib.hid fun j hj hji => ?_, G2⟩
       rcases Nat.lt_succ_iff_lt_or_eq.1 hji with h | rfl
       ·exact HQ.out j hj h
       ·obtain ⟨h1, h2⟩ := HB.out (by simp)
        exact ⟨h1, by omega⟩
     | false =>
      go_wp2_with fail
      refine bodyPost_ret (v := .bool false) (by simp [results, Tryz.results22, go_sem]; try rfl) rfl ?_
      exact ⟨false, rfl, fun h => by simp at h, LU.out.trans G2.out⟩
    ·have zl : ¬ (i : Int) < (e.ks.length : Int) := by omega
     go_wp2_with fail
     refine bodyPost_ret (v := .bool true) (by simp [results, Tryz.results22, go_sem]; try rfl) rfl ?_
     refine ⟨true, rfl, fun _ => ⟨⟨⟨c1, c2⟩, fun x hx => ?_⟩, ?_⟩, G.out⟩
     ·obtain ⟨j, hj, rfl⟩ := List.getElem_of_mem hx
      exact (HQ.out j hj (by omega)).1
     ·rw [dpE_v]
      have : dpEL e.ks ≤ 60 - D := dpEL_le.2 fun x hx => by
       obtain ⟨j, hj, rfl⟩ := List.getElem_of_mem hx
       have := (HQ.out j hj (by omega)).2
       omega
      omega
  ·clear ih hrow hr hnl
   go_enter Tryz.func22, Tryz.ntmps22
   by_cases c1 : e.ks.length ≤ 20
   ·have y1 : (e.ks.length : Int) ≤ 20 := by omega
    by_cases c2 : e.ns.length ≤ 20
    ·have y2 : (e.ns.length : Int) ≤ 20 := by omega
     have y3 : (60 : Int) < (D : Int) := by omega
     go_wp2_with fail
     refine bodyPost_ret (v := .bool false) (by simp [results, Tryz.results22, go_sem]; try rfl) rfl ?_
     exact ⟨false, rfl, fun h => by simp at h, Low.alloc (Low.refl w) _⟩
    ·have y2 : (20 : Int) < (e.ns.length : Int) := by omega
     go_wp2_with fail
     refine bodyPost_ret (v := .bool false) (by simp [results, Tryz.results22, go_sem]; try rfl) rfl ?_
     exact ⟨false, rfl, fun h => by simp at h, Low.alloc (Low.refl w) _⟩
   ·have y1 : (20 : Int) < (e.ks.length : Int) := by omega
    go_wp2_with fail
    refine bodyPost_ret (v := .bool false) (by simp [results, Tryz.results22, go_sem]; try rfl) rfl ?_
    exact ⟨false, rfl, fun h => by simp at h, Low.alloc (Low.refl w) _⟩
def SzP (w : World) (r : Ending) (w' : World) : Prop := ∃ v : Int, r = .returned (.int .i64 v) ∧ Low w w'
set_option maxRecDepth 100000 in
set_option maxHeartbeats 4000000 in
theorem sizeE_n (n : Nat) : ∀ (e : E) (ai : Option Addr) (ci : Nat) (an : Option Addr) (cn : Nat) (ak : Option Addr) (ck : Nat) (am : Option Addr) (cm : Nat) (w : World), RE n w e (p4 e ai ci an cn ak ck am cm) → Calls Tryz.prog 23 #[ex12 e ai ci an cn ak ck am cm] w (SzP w) := by
 induction n with
 | zero => intro e ai ci an cn ak ck am cm w h; exact h.elim
 | succ n ih =>
  intro e ai ci an cn ak ck am cm w hr
  obtain ⟨-, -, hrow, -⟩ := re_succ.1 hr
  obtain ⟨-, z1, z2⟩ := row_len hrow
  have HROW := Lib.hid hrow
  have IH := Lib.hid ih
  clear hr ih hrow
  obtain ⟨U, HU, LU, ZU, BE⟩ := boxes1 w [.int .i64 e.op, .int .i64 e.v.h.k, .bool e.v.h.b, .int .i64 e.v.h.n, .string e.v.h.s, .string e.v.h.t, .string e.v.h.i, .slice ai e.v.l.length ci, .slice an e.v.ns.length cn, .string e.nm, .slice ak e.ks.length ck, .slice am e.ns.length cm] 30
  go_enter Tryz.func23, Tryz.ntmps23
  go_upto_region 1 with fail
  rw [← HU.out]
  clear HU
  go_wp2_with fail
  go_loopg [3, 4] e.ks.length (fun gk vn vi wr => ∃ (i : Nat) (q : Int), vn = .int .i64 q ∧ vi = .int .i64 (i : Int) ∧ i ≤ e.ks.length ∧ e.ks.length - i ≤ gk ∧ Hid (Low U wr))
  case atStart => exact ⟨0, 1, rfl, rfl, Nat.zero_le _, Nat.le_refl _, Lib.hid (Low.refl _)⟩
  case round =>
   obtain ⟨i, q, rfl, rfl, hi, hg, GU⟩ := hrel
   have G := Lib.hid (LU.out.trans GU.out)
   have bx := (BE.out.low GU.out).at 10 _ rfl
   by_cases hlt : i < e.ks.length
   ·have zl : (i : Int) < (e.ks.length : Int) := by omega
    by_cases hq : q < 1000
    ·skip
     obtain ⟨b, o, ai', ci', an', cn', ak', ck', am', cm', rfl, hcs, hre⟩ := re_at (HROW.out.low G.out fun _ _ k => RE.low k G.out) hlt
     obtain ⟨e0, e1, e2, e3, e4, e5, e6, e7, e8, e9, e10, e11⟩ := cells12b hcs
     have HC := Lib.hid (IH.out e.ks[i] ai' ci' an' cn' ak' ck' am' cm' wr hre)
     clear hcs hre
     go_wp2_with fail
     refine HC.out.mono ?_
     rintro r w2 ⟨v, rfl, l2⟩
     have G2 := Lib.hid (GU.out.trans l2)
     clear l2 HC e0 e1 e2 e3 e4 e5 e6 e7 e8 e9 e10 e11
     go_wp2_with fail
     go_roundg (e.ks.length - (i + 1))
     case measure => omega
     case rel => exact ⟨i + 1, _, rfl, by go_num, by omega, by omega, G2⟩
    ·go_wp2_with fail
     refine bodyPost_ret (v := .int .i64 q) (by simp [results, Tryz.results23, go_sem]; try rfl) rfl ?_
     exact ⟨q, rfl, G.out⟩
   ·have zl : ¬ (i : Int) < (e.ks.length : Int) := by omega
    go_wp2_with fail
    refine bodyPost_ret (v := .int .i64 q) (by simp [results, Tryz.results23, go_sem]; try rfl) rfl ?_
    exact ⟨q, rfl, G.out⟩
set_option maxRecDepth 100000 in
set_option maxHeartbeats 4000000 in
theorem litsE_n (n : Nat) : ∀ (e : E) (ai : Option Addr) (ci : Nat) (an : Option Addr) (cn : Nat) (ak : Option Addr) (ck : Nat) (am : Option Addr) (cm : Nat) (w : World), RE n w e (p4 e ai ci an cn ak ck am cm) → Calls Tryz.prog 24 #[ex12 e ai ci an cn ak ck am cm] w (LiP n e w) := by
 induction n with
 | zero => intro e ai ci an cn ak ck am cm w h; exact h.elim
 | succ n ih =>
  intro e ai ci an cn ak ck am cm w hr
  obtain ⟨hv, -, hrow, -⟩ := re_succ.1 hr
  obtain ⟨-, z1, z2⟩ := row_len hrow
  have HROW := Lib.hid hrow
  have IH := Lib.hid ih
  have HS := Lib.hid fun W (l : Low w W) => slight_c (dep e.v) e.v _ 0 W _ _ (Nat.le_refl _) (Rep.low hv l) (by decide) (by decide)
  unfold avv at HS
  clear hr ih hrow hv
  obtain ⟨U, HU, LU, ZU, BE⟩ := boxes1 w [.int .i64 e.op, .int .i64 e.v.h.k, .bool e.v.h.b, .int .i64 e.v.h.n, .string e.v.h.s, .string e.v.h.t, .string e.v.h.i, .slice ai e.v.l.length ci, .slice an e.v.ns.length cn, .string e.nm, .slice ak e.ks.length ck, .slice am e.ns.length cm] 30
  go_enter Tryz.func24, Tryz.ntmps24
  go_upto_region 1 with fail
  rw [← HU.out]
  clear HU
  obtain ⟨e0, e1, e2, e3, e4, e5, e6, e7, e8, e9, e10, e11⟩ := BE.out.at12
  go_wp2_with fail
  refine (HS.out _ LU.out).mono ?_
  rintro r w1 ⟨b1, rfl, h1, g1⟩
  have H1 := Lib.hid h1
  have LU1 := Lib.hid g1.low
  clear g1 HS h1 e0 e1 e2 e3 e4 e5 e6 e7 e8 e9 e10 e11
  cases b1 with
  | false =>
   go_wp2_with fail
   refine bodyPost_ret (v := .bool false) (by simp [results, Tryz.results24, go_sem]; try rfl) rfl ?_
   exact ⟨false, rfl, fun h => by simp at h, LU.out.trans LU1.out⟩
  | true =>
  have HV := Lib.hid (H1.out rfl)
  have bx0 := (BE.out.low LU1.out).at 10 _ rfl
  go_wp2_with fail
  go_loopg [4, 5] e.ks.length (fun gk vi vb wr => ∃ i : Nat, vi = .int .i64 (i : Int) ∧ i ≤ e.ks.length ∧ e.ks.length - i ≤ gk ∧ Hid (∀ j (hj : j < e.ks.length), j < i → LtE n e.ks[j]) ∧ Hid (Low U wr))
  case atStart => exact ⟨0, rfl, Nat.zero_le _, Nat.le_refl _, Lib.hid fun j hj h => absurd h (Nat.not_lt_zero _), LU1⟩
  case round =>
   clear bx0
   obtain ⟨i, rfl, hi, hg, HQ, GU⟩ := hrel
   have G := Lib.hid (LU.out.trans GU.out)
   have bx := (BE.out.low GU.out).at 10 _ rfl
   by_cases hlt : i < e.ks.length
   ·have zl : (i : Int) < (e.ks.length : Int) := by omega
    obtain ⟨b, o, ai', ci', an', cn', ak', ck', am', cm', rfl, hcs, hre⟩ := re_at (HROW.out.low G.out fun _ _ k => RE.low k G.out) hlt
    obtain ⟨e0, e1, e2, e3, e4, e5, e6, e7, e8, e9, e10, e11⟩ := cells12b hcs
    have HC := Lib.hid (IH.out e.ks[i] ai' ci' an' cn' ak' ck' am' cm' wr hre)
    clear hcs hre
    go_wp2_with fail
    refine HC.out.mono ?_
    rintro r w2 ⟨bb, rfl, hb, l2⟩
    have G2 := Lib.hid (GU.out.trans l2)
    have HB := Lib.hid hb
    clear l2 hb HC e0 e1 e2 e3 e4 e5 e6 e7 e8 e9 e10 e11
    cases bb with
    | true =>
     go_wp2_with fail
     go_roundg (e.ks.length - (i + 1))
     case measure => omega
     case rel =>
      refine ⟨i + 1, by go_num, by omega, by omega, Lib.hid fun j hj hji => ?_, G2⟩
      rcases Nat.lt_succ_iff_lt_or_eq.1 hji with h | rfl
      ·exact HQ.out j hj h
      ·exact HB.out (by simp)
    | false =>
     go_wp2_with fail
     refine bodyPost_ret (v := .bool false) (by simp [results, Tryz.results24, go_sem]; try rfl) rfl ?_
     exact ⟨false, rfl, fun h => by simp at h, LU.out.trans G2.out⟩
   ·have zl : ¬ (i : Int) < (e.ks.length : Int) := by omega
    go_wp2_with fail
    refine bodyPost_ret (v := .bool true) (by simp [results, Tryz.results24, go_sem]; try rfl) rfl ?_
    refine ⟨true, rfl, fun _ => ⟨⟨HV.out.1, by have := HV.out.2; omega⟩, fun x hx => ?_⟩, G.out⟩
    obtain ⟨j, hj, rfl⟩ := List.getElem_of_mem hx
    exact HQ.out j hj (by omega)
end Go.Proofs.YtnchohglplobeaaGreat
namespace Go.Proofs.YtnchohglplobeaaGreat
open Go.RowKit Go.Sort Go.Maps
def FtP (n : Nat) (e : E) (c : V) (qs : List Ee) (w : World) (r : Ending) (w' : World) : Prop := ∃ b : Bool, r = .returned (.bool b) ∧ (b = true → (FkE n e ∧ dpE e ≤ 61 ∧ LtE n e) ∧ (Smv c ∧ (dep c : Int) + 0 ≤ 61) ∧ qs.length ≤ 20 ∧ ∀ q ∈ qs, SmE9 q.e) ∧ Low w w'
set_option maxRecDepth 100000 in
set_option maxHeartbeats 4000000 in
theorem fit_c (n : Nat) (e : E) (ai : Option Addr) (ci : Nat) (an : Option Addr) (cn : Nat) (ak : Option Addr) (ck : Nat) (am : Option Addr) (cm : Nat) (pu au ru : Us) (c : V) (qi : Option Addr) (qj : Nat) (qn : Option Addr) (qm : Nat) (qs : List Ee) (r0 : Value) (w : World) (hr : RE n w e (p4 e ai ci an cn ak ck am cm)) (hc : R w c (.slice qi c.l.length qj) (.slice qn c.ns.length qm)) (hq : EtAt w r0 qs) :
  Calls Tryz.prog 11 #[ex12 e ai ci an cn ak ck am cm, rq14 pu au ru c qi qj qn qm, r0] w (FtP n e c qs w) := by
 have H1 := Lib.hid fun W (l : Low w W) => fewE_n n 0 (by decide) e ai ci an cn ak ck am cm W (RE.low hr l)
 have H2 := Lib.hid fun W (l : Low w W) => sizeE_n n e ai ci an cn ak ck am cm W (RE.low hr l)
 have H3 := Lib.hid fun W (l : Low w W) => litsE_n n e ai ci an cn ak ck am cm W (RE.low hr l)
 have H4 := Lib.hid fun W (l : Low w W) => slight_c (dep c) c _ 0 W _ _ (Nat.le_refl _) (Rep.low hc l) (by decide) (by decide)
 have H5 := Lib.hid fun W (l : Low w W) => crowd_c qs W r0 (hq.low l)
 unfold avv at H4
 clear hr hc hq
 obtain ⟨U, HU, LU, ZU, BE, BQ⟩ := boxes2 w [.int .i64 e.op, .int .i64 e.v.h.k, .bool e.v.h.b, .int .i64 e.v.h.n, .string e.v.h.s, .string e.v.h.t, .string e.v.h.i, .slice ai e.v.l.length ci, .slice an e.v.ns.length cn, .string e.nm, .slice ak e.ks.length ck, .slice am e.ns.length cm] 30 [.string pu.t, .string pu.i, .string au.t, .string au.i, .string ru.t, .string ru.i, .int .i64 c.h.k, .bool c.h.b, .int .i64 c.h.n, .string c.h.s, .string c.h.t, .string c.h.i, .slice qi c.l.length qj, .slice qn c.ns.length qm] 32
 go_enter Tryz.func11, Tryz.ntmps11
 go_upto_region 1 with fail
 rw [← HU.out]
 clear HU
 obtain ⟨e0, e1, e2, e3, e4, e5, e6, e7, e8, e9, e10, e11⟩ := BE.out.at12
 go_wp2_with fail
 refine (H1.out _ LU.out).mono ?_
 rintro r w1 ⟨b1, rfl, h1, l1⟩
 have K1 := Lib.hid h1
 have G1 := Lib.hid l1
 have T1 := Lib.hid (LU.out.trans l1)
 clear h1 l1 H1 e0 e1 e2 e3 e4 e5 e6 e7 e8 e9 e10 e11
 obtain ⟨e0, e1, e2, e3, e4, e5, e6, e7, e8, e9, e10, e11⟩ := (BE.out.low G1.out).at12
 cases b1 with
 | false =>
  go_wp2_with fail
  refine bodyPost_ret (v := .bool false) (by simp [results, Tryz.results11, go_sem]; try rfl) rfl ?_
  exact ⟨false, rfl, fun h => by simp at h, T1.out⟩
 | true =>
 go_wp2_with fail
 refine (H2.out _ T1.out).mono ?_
 rintro r w2 ⟨v, rfl, l2⟩
 have G2 := Lib.hid (G1.out.trans l2)
 have T2 := Lib.hid (T1.out.trans l2)
 clear l2 H2 e0 e1 e2 e3 e4 e5 e6 e7 e8 e9 e10 e11
 by_cases hv : (200 : Int) < v
 ·go_wp2_with fail
  refine bodyPost_ret (v := .bool false) (by simp [results, Tryz.results11, go_sem]; try rfl) rfl ?_
  exact ⟨false, rfl, fun h => by simp at h, T2.out⟩
 obtain ⟨e0, e1, e2, e3, e4, e5, e6, e7, e8, e9, e10, e11⟩ := (BE.out.low G2.out).at12
 go_wp2_with fail
 refine (H3.out _ T2.out).mono ?_
 rintro r w3 ⟨b3, rfl, h3, l3⟩
 have K3 := Lib.hid h3
 have G3 := Lib.hid (G2.out.trans l3)
 have T3 := Lib.hid (T2.out.trans l3)
 clear l3 H3 h3 e0 e1 e2 e3 e4 e5 e6 e7 e8 e9 e10 e11
 obtain ⟨q0, q1, q2, q3, q4, q5, q6, q7, q8, q9, q10, q11, q12, q13⟩ := (BQ.out.low G3.out).at14
 go_wp2_with fail
 refine (H4.out _ T3.out).mono ?_
 rintro r w4 ⟨b4, rfl, h4, l4⟩
 have K4 := Lib.hid h4
 have T4 := Lib.hid (T3.out.trans l4.low)
 clear l4 H4 h4 q0 q1 q2 q3 q4 q5 q6 q7 q8 q9 q10 q11 q12 q13
 go_wp2_with fail
 refine (H5.out _ T4.out).mono ?_
 rintro r w5 ⟨b5, rfl, h5, l5⟩
 have K5 := Lib.hid h5
 have T5 := Lib.hid (T4.out.trans l5.low)
 clear l5 H5 h5
 rcases b3 with _ | _
 ·go_wp2_with fail
  refine bodyPost_ret (v := .bool false) (by simp [results, Tryz.results11, go_sem]; try rfl) rfl ?_
  exact ⟨false, rfl, fun h => by simp at h, T5.out⟩
 rcases b4 with _ | _
 ·go_wp2_with fail
  refine bodyPost_ret (v := .bool false) (by simp [results, Tryz.results11, go_sem]; try rfl) rfl ?_
  exact ⟨false, rfl, fun h => by simp at h, T5.out⟩
 rcases b5 with _ | _
 ·go_wp2_with fail
  refine bodyPost_ret (v := .bool false) (by simp [results, Tryz.results11, go_sem]; try rfl) rfl ?_
  exact ⟨false, rfl, fun h => by simp at h, T5.out⟩
 go_wp2_with fail
 refine bodyPost_ret (v := .bool true) (by simp [results, Tryz.results11, go_sem]; try rfl) rfl ?_
 exact ⟨true, rfl, fun _ => ⟨⟨(K1.out (by simp)).1, (K1.out (by simp)).2, K3.out (by simp)⟩, K4.out (by simp), K5.out (by simp)⟩, T5.out⟩
end Go.Proofs.YtnchohglplobeaaGreat
namespace Go.Proofs.YtnchohglplobeaaGreat
open Go.RowKit Go.ChangeShapes Go.WideShapes Go.Deep
variable {H : Type} {enc : TypeId × Value → H} {w : World} {spare : Nat → Bool} {held : Bool}
set_option maxRecDepth 100000 in
theorem cofE14 : Tryz.prog.cellsOf 30 = 12 := by kernel_rfl
theorem cofEs14 : Tryz.prog.cellsOf 28 = 1 := by kernel_rfl
instance : Inhabited E := ⟨.mk 0 V0 ⟨#[]⟩ [] []⟩
theorem RgE.up : ∀ {n m : Nat} {e : E}, n ≤ m → RgE n e → RgE m e
 | 0, _, _, _, h => h.elim
 | n + 1, 0, _, hm, _ => absurd hm (by omega)
 | n + 1, m + 1, e, hm, h => ⟨h.1, fun x hx => RgE.up (by omega) (h.2 x hx)⟩
theorem RE.up : ∀ {n m : Nat} {w : World} {e : E} {p : P4}, n ≤ m → RE n w e p → RE m w e p
 | 0, _, _, _, _, _, h => h.elim
 | n + 1, 0, _, _, _, hm, _ => absurd hm (by omega)
 | n + 1, m + 1, w, e, p, hm, h => by
  obtain ⟨h1, h2, h3, h4⟩ := re_succ.1 h
  exact re_succ.2 ⟨h1, h2, RowB.imp4 h3 fun x hx q hq => RE.up (by omega) hq, h4⟩
set_option maxRecDepth 100000 in
theorem trod_expr {base : Nat} : ∀ (fuel : Nat) {cs : List Value} {x : DataW H × List MemPlace}, DataW.trod enc Tryz.prog w base spare held fuel 30 cs = some x → ∃ (e : E) (p : P4), cs = encE4 e p ∧ RE (fuel + 1) w e p ∧ RgE (fuel + 1) e := by
 intro fuel
 induction fuel using Nat.strongRecOn with
 | _ fuel ih =>
  intro cs x h
  obtain ⟨xs, n, rfl, -, hlen, hxl, hf⟩ := DataW.trod_struct Tryz.underlying30 h
  rw [cofE14] at hlen
  have hx5 : xs.length = 5 := hxl
  match cs, hlen with
  | [c0, c1, c2, c3, c4, c5, c6, c7, c8, c9, c10, c11], _ =>
   have f0 : DataW.trod enc Tryz.prog w base spare held n 3 (([c0, c1, c2, c3, c4, c5, c6, c7, c8, c9, c10, c11].drop 0).take (Tryz.prog.cellsOf 3)) = some _ := (hf 0 _ rfl).trans (List.getElem?_eq_getElem (by omega))
   have f1 : DataW.trod enc Tryz.prog w base spare held n 27 (([c0, c1, c2, c3, c4, c5, c6, c7, c8, c9, c10, c11].drop 1).take (Tryz.prog.cellsOf 27)) = some _ := (hf 1 _ rfl).trans (List.getElem?_eq_getElem (by omega))
   have f2 : DataW.trod enc Tryz.prog w base spare held n 9 (([c0, c1, c2, c3, c4, c5, c6, c7, c8, c9, c10, c11].drop 9).take (Tryz.prog.cellsOf 9)) = some _ := (hf 2 _ rfl).trans (List.getElem?_eq_getElem (by omega))
   have f3 : DataW.trod enc Tryz.prog w base spare held n 28 (([c0, c1, c2, c3, c4, c5, c6, c7, c8, c9, c10, c11].drop 10).take (Tryz.prog.cellsOf 28)) = some _ := (hf 3 _ rfl).trans (List.getElem?_eq_getElem (by omega))
   have f4 : DataW.trod enc Tryz.prog w base spare held n 25 (([c0, c1, c2, c3, c4, c5, c6, c7, c8, c9, c10, c11].drop 11).take (Tryz.prog.cellsOf 25)) = some _ := (hf 4 _ rfl).trans (List.getElem?_eq_getElem (by omega))
   rw [cof3] at f0
   rw [cof27] at f1
   rw [cof9] at f2
   rw [cofEs14] at f3
   rw [cof25] at f4
   obtain ⟨op, e0, -, hop⟩ := DataW.trod_int Tryz.underlying3 f0
   obtain ⟨v, it, nm, e1, hv, hiv⟩ := trod_valI _ f1
   obtain ⟨s, e2, -, hs⟩ := DataW.trod_string Tryz.underlying9 f2
   obtain ⟨ns, nv, e4, hns⟩ := trod_names f4
   have hopr : -9223372036854775808 ≤ op ∧ op ≤ 9223372036854775807 := by
    simp [Lit.wf, IntKind.min, IntKind.max, IntKind.signed, IntKind.bits] at hop
    omega
   simp [hdc] at e0 e1 e2 e4
   obtain ⟨rfl, rfl, rfl, rfl, rfl, rfl, rfl, rfl⟩ := e1
   subst e0 e2 e4
   unfold maxLen at hs
   rcases DataW.trod_slice Tryz.underlying28 f3 with ⟨e6, -⟩ | ⟨a, len, cap, elems, rest, n2, hn2, e6, -, -, hlc, hcm, hel, hall, -, -⟩
   ·simp at e6
    subst e6
    exact ⟨.mk op v s [] ns, ((_, _), .slice none 0 0, _), rfl, re_succ.2 ⟨hv, hs, ⟨none, 0, rfl, by simp [E.ks], fun j hj => absurd hj (Nat.not_lt_zero _)⟩, hns⟩, ⟨hiv, hopr⟩, fun x hx => by simp [E.ks] at hx⟩
   ·simp at e6
    subst e6
    rw [cofE14] at hall
    have hx : ∀ j, j < len → ∃ z : E × P4, (∀ c u, (encE4 z.1 z.2)[c]? = some u → w.cell? (a.add (j * 12 + c)) = some u) ∧ RE (n + 1) w z.1 z.2 ∧ RgE (n + 1) z.1 := fun j hj => by
     have h1 := hall j hj
     rw [List.getElem?_eq_getElem (by omega)] at h1
     obtain ⟨c, h2, h3⟩ := Option.bind_eq_some_iff.1 h1
     obtain ⟨e, p, rfl, hr, hg⟩ := ih n2 (by omega) h3
     obtain ⟨-, -, hat⟩ := World.cells?_some h2
     refine ⟨(e, p), fun c u hu => ?_, hr.up (by omega), hg.up (by omega)⟩
     have h8 : c < 12 := by have := (List.getElem?_eq_some_iff.1 hu).1; simpa [encE4] using this
     have := hat c h8
     rw [add_add] at this
     rw [this]; exact hu
    haveI : Inhabited (E × P4) := ⟨(default, ((.nilFunc, .nilFunc), .nilFunc, .nilFunc))⟩
    obtain ⟨f, hfz⟩ := choose_lt hx
    refine ⟨.mk op v s ((List.range len).map fun j => (f j).1) ns, ((_, _), .slice (some a) len cap, _), rfl, re_succ.2 ⟨hv, hs, ⟨some a, cap, by simp [E.ks], by simp [E.ks]; unfold maxLen at hcm; omega, fun j hj => ?_⟩, hns⟩, ⟨hiv, hopr⟩, fun x hx => ?_⟩
    ·have hj' : j < len := by simpa [E.ks] using hj
     obtain ⟨bb, oo, rfl⟩ := addr_plainv ((hfz 0 (by omega)).1 0 _ rfl)
     have hg : (E.mk op v s ((List.range len).map fun j => (f j).1) ns).ks[j] = (f j).1 := by simp [E.ks]
     rw [hg]
     refine ⟨bb, oo, (f j).2, rfl, fun c u hu => ?_, (hfz j hj').2.1⟩
     have := (hfz j hj').1 c u hu
     rw [Addr.add_lit] at this
     rw [Nat.add_assoc]; exact this
    ·obtain ⟨j, hj, rfl⟩ := List.mem_map.1 (show x ∈ (List.range len).map fun j => (f j).1 from hx)
     exact (hfz j (List.mem_range.1 hj)).2.2
set_option maxRecDepth 100000 in
theorem open_expr {r : Reach} {base : Nat} {v : Value} {d : DataW H} {p : List MemPlace} (hv : Value.okWide Tryz.prog w r base 30 v) (h : DataW.Trod enc Tryz.prog w 0 spare held 30 v d p) : ∃ (n : Nat) (e : E) (ai : Option Addr) (ci : Nat) (an : Option Addr) (cn : Nat) (ak : Option Addr) (ck : Nat) (am : Option Addr) (cm : Nat), v = ex12 e ai ci an cn ak ck am cm ∧ RE n w e (p4 e ai ci an cn ak ck am cm) ∧ RgE n e := by
 obtain ⟨cs, rfl, -⟩ := okWide_struct Tryz.underlying30 hv
 obtain ⟨fuel, hf⟩ := h
 obtain ⟨e, q, he, hr, hg⟩ := trod_expr fuel hf
 obtain ⟨ai, ci, an, cn, ak, ck, am, cm, rfl⟩ := re_open hr
 refine ⟨_, e, ai, ci, an, cn, ak, ck, am, cm, ?_, hr, hg⟩
 have : cs = (encE4 e (p4 e ai ci an cn ak ck am cm)).toArray := by
  rw [← he]; simp [Value.cells]
 rw [this]; rfl
end Go.Proofs.YtnchohglplobeaaGreat
namespace Go.Proofs.YtnchohglplobeaaGreat
open Go.RowKit Go.Sort Go.Maps
theorem dpE_pos (e : E) : 1 ≤ dpE e := by rw [dpE_v]; omega
def thE (op : Int) (x y z : E) : E := .mk op V0 ⟨#[]⟩ [x, y, z] []
abbrev fE : E := lfE (truV false)
abbrev tE : E := lfE (truV true)
theorem dp_lf (v : V) : dpE (lfE v) = 1 := by simp [lfE, dpE, dpEL]
theorem dp_tw1 (op : Int) (v : V) (x : E) : dpE (twE op (lfE v) x) = dpE x + 1 := by
 have := dpE_pos x
 rw [dpE_v]; simp only [twE, E.ks, dpEL, dp_lf]; omega
theorem dp_th2 (op : Int) (u v : V) (x : E) : dpE (thE op (lfE u) (lfE v) x) = dpE x + 1 := by
 have := dpE_pos x
 rw [dpE_v]; simp only [thE, E.ks, dpEL, dp_lf]; omega
theorem dp_th1 (op : Int) (u v : V) (x : E) : dpE (thE op (lfE u) x (lfE v)) = dpE x + 1 := by
 have := dpE_pos x
 rw [dpE_v]; simp only [thE, E.ks, dpEL, dp_lf]; omega
theorem ev_sh0 {Q : RqE} {x : E} (h : ¬ 50 < dpE x + 1) : evalE Q (twE 4 fE x) = (0, truV false) := by
 unfold evalE
 rw [dp_tw1, if_neg h, evS, if_neg (by simp [formB, twE, kidsN, E.op, E.ks, E.ns])]
 show evM Q (evS Q 49) 4 ⟨#[]⟩ [fE, x] = _
 simp only [evM, ev_leaf, can_tru, truS, ↓reduceIte]; rfl
theorem ev_sh1 {Q : RqE} {x : E} (h : ¬ 50 < dpE x + 1) : evalE Q (twE 5 tE x) = (0, truV true) := by
 unfold evalE
 rw [dp_tw1, if_neg h, evS, if_neg (by simp [formB, twE, kidsN, E.op, E.ks, E.ns])]
 show evM Q (evS Q 49) 5 ⟨#[]⟩ [tE, x] = _
 simp only [evM, ev_leaf, can_tru, truS, ↓reduceIte]; rfl
theorem ev_sh2 {Q : RqE} {x : E} (h : ¬ 50 < dpE x + 1) : evalE Q (thE 7 tE tE x) = (0, truV true) := by
 unfold evalE
 rw [dp_th2, if_neg h, evS, if_neg (by simp [formB, thE, kidsN, E.op, E.ks, E.ns])]
 show evM Q (evS Q 49) 7 ⟨#[]⟩ [tE, tE, x] = _
 simp only [evM, ev_leaf, can_tru, truS, ↓reduceIte]; rfl
theorem ev_sh3 {Q : RqE} {x : E} (h : ¬ 50 < dpE x + 1) : evalE Q (thE 7 fE x tE) = (0, truV true) := by
 unfold evalE
 rw [dp_th1, if_neg h, evS, if_neg (by simp [formB, thE, kidsN, E.op, E.ks, E.ns])]
 show evM Q (evS Q 49) 7 ⟨#[]⟩ [fE, x, tE] = _
 simp only [evM, ev_leaf, can_tru, truS, ↓reduceIte]; rfl
theorem ev_shD {Q : RqE} {e : E} (h : 50 < dpE e) : evalE Q e = (11, V0) := by unfold evalE; rw [if_pos h]
theorem row_three {n : Nat} {w : World} {b : Nat} {x y z : E} {p q r : P4} (h : CellsAtv w b 0 (encE4 x p ++ (encE4 y q ++ encE4 z r))) (hx : RE n w x p) (hy : RE n w y q) (hz : RE n w z r) : RowB w 12 encE4 (RE n) [x, y, z] (.slice (some ⟨b, 0, none⟩) 3 3) := by
 obtain ⟨h1, h4⟩ := cells_app h (k := 12) rfl
 obtain ⟨h2, h3⟩ : CellsAt w b 12 (encE4 y q) ∧ CellsAt w b 24 (encE4 z r) := by
  constructor
  ·intro j v hv
   exact h4 j v (by rw [List.getElem?_append_left (List.getElem?_eq_some_iff.1 hv).1]; exact hv)
  ·intro j v hv
   have := h4 (12 + j) v (by rw [List.getElem?_append_right (show (encE4 y q).length ≤ 12 + j by show 12 ≤ 12 + j; omega)]; show (encE4 z r)[12 + j - 12]? = some v; rw [Nat.add_sub_cancel_left]; exact hv)
   rwa [← Nat.add_assoc] at this
 refine ⟨_, _, rfl, by simp, fun j hj => ?_⟩
 match j, hj with
 | 0, _ => exact ⟨b, 0, p, rfl, h1, hx⟩
 | 1, _ => exact ⟨b, 0, q, rfl, h2, hy⟩
 | 2, _ => exact ⟨b, 0, r, rfl, h3, hz⟩
theorem re_three {n : Nat} {w : World} {op : Int} {x y z : E} {it : Value} (h : RowB w 12 encE4 (RE n) [x, y, z] it) : RE (n + 1) w (thE op x y z) ((.slice none 0 0, .slice none 0 0), it, .slice none 0 0) := re_succ.2 ⟨flat_V0.r, Nat.zero_le _, h, na_nil⟩
theorem ok_three {n : Nat} {op : Int} {x y z : E} (hop : -9223372036854775808 ≤ op ∧ op ≤ 9223372036854775807) (hx : OkE n x) (hy : OkE n y) (hz : OkE n z) : OkE (n + 1) (thE op x y z) :=
 ⟨⟨⟨flat_V0.ok.1, flat_V0.ok.2.1, flat_V0.ok.2.2, by simp [thE, E.ks], by simp [thE, E.ns]⟩, hop⟩, fun u hu => by
  simp only [thE, E.ks, List.mem_cons, List.not_mem_nil, or_false] at hu
  rcases hu with rfl | rfl | rfl
  ·exact hx
  ·exact hy
  ·exact hz⟩
theorem and3k (op : Int) : ∃ k : Nat, bits BinOp.and IntKind.i64 op 3 = (k : Int) ∧ k < 4 := by
 refine ⟨(BitVec.ofInt 64 op).toNat &&& 3, ?_, by have := Nat.and_le_right (n := (BitVec.ofInt 64 op).toNat) (m := 3); omega⟩
 have h : ((BitVec.ofInt 64 op).toNat &&& 3) < 4 := by have := Nat.and_le_right (n := (BitVec.ofInt 64 op).toNat) (m := 3); omega
 have h3 : (BitVec.ofInt IntKind.i64.bits 3).toNat = 3 := by decide
 have hw : ∀ n : Int, 0 ≤ n → n < 4 → IntKind.i64.wrap n = n := fun n h0 h1 => by
  simp [IntKind.wrap, IntKind.bits, IntKind.signed]; omega
 simp only [bits, BitVec.toNat_and, h3]
 exact hw _ (Int.natCast_nonneg _) (by exact_mod_cast h)
theorem boxes5u (w : World) (t : TypeId) (C0 : List Value) (C1 : List Value) (C2 : List Value) (C3 : List Value) (C4 : List Value) : ∃ U, Hid (U = (((((w.alloc (.cells C0.toArray t)).alloc (.cells C1.toArray t)).alloc (.cells C2.toArray t)).alloc (.cells C3.toArray t)).alloc (.cells C4.toArray t))) ∧ Hid (Low w U) ∧ Hid (BoxAtv U (w.heap.size + 0) C0) ∧ Hid (BoxAtv U (w.heap.size + 1) C1) ∧ Hid (BoxAtv U (w.heap.size + 2) C2) ∧ Hid (BoxAtv U (w.heap.size + 3) C3) ∧ Hid (BoxAtv U (w.heap.size + 4) C4) :=
 ⟨_, Lib.hid rfl, Lib.hid (Low.alloc (Low.alloc (Low.alloc (Low.alloc (Low.alloc (Low.refl _) _) _) _) _) _), Lib.hid (BoxAtv.low (BoxAtv.made rfl (by simp) rfl) (Low.alloc (Low.alloc (Low.alloc (Low.alloc (Low.refl _) _) _) _) _)), Lib.hid (BoxAtv.low (BoxAtv.made rfl (by simp) rfl) (Low.alloc (Low.alloc (Low.alloc (Low.refl _) _) _) _)), Lib.hid (BoxAtv.low (BoxAtv.made rfl (by simp) rfl) (Low.alloc (Low.alloc (Low.refl _) _) _)), Lib.hid (BoxAtv.low (BoxAtv.made rfl (by simp) rfl) (Low.alloc (Low.refl _) _)), Lib.hid (BoxAtv.low (BoxAtv.made rfl (by simp) rfl) (Low.refl _))⟩
end Go.Proofs.YtnchohglplobeaaGreat
namespace Go.Proofs.YtnchohglplobeaaGreat
open Go.RowKit Go.Sort Go.Maps
def F0P (n : Nat) (e : E) (w : World) (r : Ending) (w' : World) : Prop := ∃ b : Bool, r = .returned (.bool b) ∧ (b = true → FkE n e ∧ dpE e ≤ 61 ∧ LtE n e) ∧ Low w w'
set_option maxRecDepth 100000 in
set_option maxHeartbeats 4000000 in
theorem fit0_c (n : Nat) (e : E) (ai : Option Addr) (ci : Nat) (an : Option Addr) (cn : Nat) (ak : Option Addr) (ck : Nat) (am : Option Addr) (cm : Nat) (w : World) (hr : RE n w e (p4 e ai ci an cn ak ck am cm)) : Calls Tryz.prog 11 #[ex12 e ai ci an cn ak ck am cm, .agg #[.string ⟨#[]⟩, .string ⟨#[]⟩, .string ⟨#[]⟩, .string ⟨#[]⟩, .string ⟨#[]⟩, .string ⟨#[]⟩, .int .i64 0, .bool false, .int .i64 0, .string ⟨#[]⟩, .string ⟨#[]⟩, .string ⟨#[]⟩, .slice none 0 0, .slice none 0 0], .slice none 0 0] w (F0P n e w) :=
 (fit_c n e ai ci an cn ak ck am cm us0 us0 us0 V0 none 0 none 0 [] (.slice none 0 0) w hr flat_V0.r (et_nil _)).mono fun r w' ⟨b, h1, h2, h3⟩ => ⟨b, h1, fun hb => (h2 hb).1, h3⟩
theorem evSh0_c {n : Nat} {x : E} (ai : Option Addr) (ci : Nat) (an : Option Addr) (cn : Nat) (ak : Option Addr) (ck : Nat) (am : Option Addr) (cm : Nat) (ho : OkE n x) (hdeep : ¬ 50 < dpE x + 1) (W : World) (b : Nat) (h : CellsAtv W b 0 [.int .i64 1, .int .i64 1, .bool false, .int .i64 0, .string ⟨#[]⟩, .string ⟨#[]⟩, .string ⟨#[]⟩, .slice none 0 0, .slice none 0 0, .string ⟨#[]⟩, .slice none 0 0, .slice none 0 0, .int .i64 x.op, .int .i64 x.v.h.k, .bool x.v.h.b, .int .i64 x.v.h.n, .string x.v.h.s, .string x.v.h.t, .string x.v.h.i, .slice ai x.v.l.length ci, .slice an x.v.ns.length cn, .string x.nm, .slice ak x.ks.length ck, .slice am x.ns.length cm]) (hx : RE n W x (p4 x ai ci an cn ak ck am cm)) : Calls Tryz.prog 14 #[.agg #[.int .i64 4, .int .i64 0, .bool false, .int .i64 0, .string ⟨#[]⟩, .string ⟨#[]⟩, .string ⟨#[]⟩, .slice none 0 0, .slice none 0 0, .string ⟨#[]⟩, .slice (some ⟨b, 0, none⟩) 2 2, .slice none 0 0], .agg #[.string ⟨#[]⟩, .string ⟨#[]⟩, .string ⟨#[]⟩, .string ⟨#[]⟩, .string ⟨#[]⟩, .string ⟨#[]⟩, .int .i64 0, .bool false, .int .i64 0, .string ⟨#[]⟩, .string ⟨#[]⟩, .string ⟨#[]⟩, .slice none 0 0, .slice none 0 0], .pointer none] W (fun e w' => ∃ ai ci an cn, e = .returned (.tuple #[.agg #[.int .i64 1, .bool false, .int .i64 0, .string ⟨#[]⟩, .string ⟨#[]⟩, .string ⟨#[]⟩, .slice ai 0 ci, .slice an 0 cn], .int .i64 0]) ∧ Low W w') := by
 obtain ⟨m, rfl⟩ : ∃ m, n = m + 1 := by cases n with | zero => exact hx.elim | succ m => exact ⟨m, rfl⟩
 have HO := Lib.hid ho
 have h1 := eval0_c (m + 2) (twE 4 fE x) none 0 none 0 (some ⟨b, 0, none⟩) 2 none 0 W (re_two (row_two (n := m + 1) (p := pZ) (q := p4 x ai ci an cn ak ck am cm) h (re_leaf (flat_tru _)) hx)) (ok_two (by decide) (ok_leaf (flat_tru _)) HO.out)
 rw [show evalE Q0 (twE 4 fE x) = (0, truV false) from ev_sh0 hdeep] at h1
 exact Calls.mono h1 fun _ _ hv => vr_rtru hv
theorem dpSh0_c {n : Nat} {x : E} (ai : Option Addr) (ci : Nat) (an : Option Addr) (cn : Nat) (ak : Option Addr) (ck : Nat) (am : Option Addr) (cm : Nat) (hd : dpE x ≤ 61) (W : World) (b : Nat) (h : CellsAtv W b 0 [.int .i64 1, .int .i64 1, .bool false, .int .i64 0, .string ⟨#[]⟩, .string ⟨#[]⟩, .string ⟨#[]⟩, .slice none 0 0, .slice none 0 0, .string ⟨#[]⟩, .slice none 0 0, .slice none 0 0, .int .i64 x.op, .int .i64 x.v.h.k, .bool x.v.h.b, .int .i64 x.v.h.n, .string x.v.h.s, .string x.v.h.t, .string x.v.h.i, .slice ai x.v.l.length ci, .slice an x.v.ns.length cn, .string x.nm, .slice ak x.ks.length ck, .slice am x.ns.length cm]) (hx : RE n W x (p4 x ai ci an cn ak ck am cm)) : Calls Tryz.prog 21 #[.agg #[.int .i64 4, .int .i64 0, .bool false, .int .i64 0, .string ⟨#[]⟩, .string ⟨#[]⟩, .string ⟨#[]⟩, .slice none 0 0, .slice none 0 0, .string ⟨#[]⟩, .slice (some ⟨b, 0, none⟩) 2 2, .slice none 0 0]] W (fun e w' => e = .returned (.int .i64 ((dpE x : Int) + 1)) ∧ Low W w') := by
 obtain ⟨m, rfl⟩ : ∃ m, n = m + 1 := by cases n with | zero => exact hx.elim | succ m => exact ⟨m, rfl⟩
 have h1 := rdepthE_n (m + 2) (twE 4 fE x) none 0 none 0 (some ⟨b, 0, none⟩) 2 none 0 W (re_two (row_two (n := m + 1) (p := pZ) (q := p4 x ai ci an cn ak ck am cm) h (re_leaf (flat_tru _)) hx)) (by rw [dp_tw1 _ _ x]; omega)
 rw [dp_tw1 _ _ x] at h1
 exact h1
theorem evSh0d_c {n : Nat} {x : E} (ai : Option Addr) (ci : Nat) (an : Option Addr) (cn : Nat) (ak : Option Addr) (ck : Nat) (am : Option Addr) (cm : Nat) (ho : OkE n x) (hdeep : 50 < dpE x + 1) (W : World) (b : Nat) (h : CellsAtv W b 0 [.int .i64 1, .int .i64 1, .bool false, .int .i64 0, .string ⟨#[]⟩, .string ⟨#[]⟩, .string ⟨#[]⟩, .slice none 0 0, .slice none 0 0, .string ⟨#[]⟩, .slice none 0 0, .slice none 0 0, .int .i64 x.op, .int .i64 x.v.h.k, .bool x.v.h.b, .int .i64 x.v.h.n, .string x.v.h.s, .string x.v.h.t, .string x.v.h.i, .slice ai x.v.l.length ci, .slice an x.v.ns.length cn, .string x.nm, .slice ak x.ks.length ck, .slice am x.ns.length cm]) (hx : RE n W x (p4 x ai ci an cn ak ck am cm)) : Calls Tryz.prog 14 #[.agg #[.int .i64 4, .int .i64 0, .bool false, .int .i64 0, .string ⟨#[]⟩, .string ⟨#[]⟩, .string ⟨#[]⟩, .slice none 0 0, .slice none 0 0, .string ⟨#[]⟩, .slice (some ⟨b, 0, none⟩) 2 2, .slice none 0 0], .agg #[.string ⟨#[]⟩, .string ⟨#[]⟩, .string ⟨#[]⟩, .string ⟨#[]⟩, .string ⟨#[]⟩, .string ⟨#[]⟩, .int .i64 0, .bool false, .int .i64 0, .string ⟨#[]⟩, .string ⟨#[]⟩, .string ⟨#[]⟩, .slice none 0 0, .slice none 0 0], .pointer none] W (fun e w' => ∃ ai ci an cn, e = .returned (.tuple #[.agg #[.int .i64 0, .bool false, .int .i64 0, .string ⟨#[]⟩, .string ⟨#[]⟩, .string ⟨#[]⟩, .slice ai 0 ci, .slice an 0 cn], .int .i64 11]) ∧ Low W w') := by
 obtain ⟨m, rfl⟩ : ∃ m, n = m + 1 := by cases n with | zero => exact hx.elim | succ m => exact ⟨m, rfl⟩
 have HO := Lib.hid ho
 have h1 := eval0_c (m + 2) (twE 4 fE x) none 0 none 0 (some ⟨b, 0, none⟩) 2 none 0 W (re_two (row_two (n := m + 1) (p := pZ) (q := p4 x ai ci an cn ak ck am cm) h (re_leaf (flat_tru _)) hx)) (ok_two (by decide) (ok_leaf (flat_tru _)) HO.out)
 rw [show evalE Q0 (twE 4 fE x) = (11, V0) from ev_shD (by rw [dp_tw1 _ _ x]; exact hdeep)] at h1
 exact Calls.mono h1 fun _ _ hv => vr_rerr hv
theorem evSh1_c {n : Nat} {x : E} (ai : Option Addr) (ci : Nat) (an : Option Addr) (cn : Nat) (ak : Option Addr) (ck : Nat) (am : Option Addr) (cm : Nat) (ho : OkE n x) (hdeep : ¬ 50 < dpE x + 1) (W : World) (b : Nat) (h : CellsAtv W b 0 [.int .i64 1, .int .i64 1, .bool true, .int .i64 0, .string ⟨#[]⟩, .string ⟨#[]⟩, .string ⟨#[]⟩, .slice none 0 0, .slice none 0 0, .string ⟨#[]⟩, .slice none 0 0, .slice none 0 0, .int .i64 x.op, .int .i64 x.v.h.k, .bool x.v.h.b, .int .i64 x.v.h.n, .string x.v.h.s, .string x.v.h.t, .string x.v.h.i, .slice ai x.v.l.length ci, .slice an x.v.ns.length cn, .string x.nm, .slice ak x.ks.length ck, .slice am x.ns.length cm]) (hx : RE n W x (p4 x ai ci an cn ak ck am cm)) : Calls Tryz.prog 14 #[.agg #[.int .i64 5, .int .i64 0, .bool false, .int .i64 0, .string ⟨#[]⟩, .string ⟨#[]⟩, .string ⟨#[]⟩, .slice none 0 0, .slice none 0 0, .string ⟨#[]⟩, .slice (some ⟨b, 0, none⟩) 2 2, .slice none 0 0], .agg #[.string ⟨#[]⟩, .string ⟨#[]⟩, .string ⟨#[]⟩, .string ⟨#[]⟩, .string ⟨#[]⟩, .string ⟨#[]⟩, .int .i64 0, .bool false, .int .i64 0, .string ⟨#[]⟩, .string ⟨#[]⟩, .string ⟨#[]⟩, .slice none 0 0, .slice none 0 0], .pointer none] W (fun e w' => ∃ ai ci an cn, e = .returned (.tuple #[.agg #[.int .i64 1, .bool true, .int .i64 0, .string ⟨#[]⟩, .string ⟨#[]⟩, .string ⟨#[]⟩, .slice ai 0 ci, .slice an 0 cn], .int .i64 0]) ∧ Low W w') := by
 obtain ⟨m, rfl⟩ : ∃ m, n = m + 1 := by cases n with | zero => exact hx.elim | succ m => exact ⟨m, rfl⟩
 have HO := Lib.hid ho
 have h1 := eval0_c (m + 2) (twE 5 tE x) none 0 none 0 (some ⟨b, 0, none⟩) 2 none 0 W (re_two (row_two (n := m + 1) (p := pZ) (q := p4 x ai ci an cn ak ck am cm) h (re_leaf (flat_tru _)) hx)) (ok_two (by decide) (ok_leaf (flat_tru _)) HO.out)
 rw [show evalE Q0 (twE 5 tE x) = (0, truV true) from ev_sh1 hdeep] at h1
 exact Calls.mono h1 fun _ _ hv => vr_rtru hv
theorem dpSh1_c {n : Nat} {x : E} (ai : Option Addr) (ci : Nat) (an : Option Addr) (cn : Nat) (ak : Option Addr) (ck : Nat) (am : Option Addr) (cm : Nat) (hd : dpE x ≤ 61) (W : World) (b : Nat) (h : CellsAtv W b 0 [.int .i64 1, .int .i64 1, .bool true, .int .i64 0, .string ⟨#[]⟩, .string ⟨#[]⟩, .string ⟨#[]⟩, .slice none 0 0, .slice none 0 0, .string ⟨#[]⟩, .slice none 0 0, .slice none 0 0, .int .i64 x.op, .int .i64 x.v.h.k, .bool x.v.h.b, .int .i64 x.v.h.n, .string x.v.h.s, .string x.v.h.t, .string x.v.h.i, .slice ai x.v.l.length ci, .slice an x.v.ns.length cn, .string x.nm, .slice ak x.ks.length ck, .slice am x.ns.length cm]) (hx : RE n W x (p4 x ai ci an cn ak ck am cm)) : Calls Tryz.prog 21 #[.agg #[.int .i64 5, .int .i64 0, .bool false, .int .i64 0, .string ⟨#[]⟩, .string ⟨#[]⟩, .string ⟨#[]⟩, .slice none 0 0, .slice none 0 0, .string ⟨#[]⟩, .slice (some ⟨b, 0, none⟩) 2 2, .slice none 0 0]] W (fun e w' => e = .returned (.int .i64 ((dpE x : Int) + 1)) ∧ Low W w') := by
 obtain ⟨m, rfl⟩ : ∃ m, n = m + 1 := by cases n with | zero => exact hx.elim | succ m => exact ⟨m, rfl⟩
 have h1 := rdepthE_n (m + 2) (twE 5 tE x) none 0 none 0 (some ⟨b, 0, none⟩) 2 none 0 W (re_two (row_two (n := m + 1) (p := pZ) (q := p4 x ai ci an cn ak ck am cm) h (re_leaf (flat_tru _)) hx)) (by rw [dp_tw1 _ _ x]; omega)
 rw [dp_tw1 _ _ x] at h1
 exact h1
theorem evSh1d_c {n : Nat} {x : E} (ai : Option Addr) (ci : Nat) (an : Option Addr) (cn : Nat) (ak : Option Addr) (ck : Nat) (am : Option Addr) (cm : Nat) (ho : OkE n x) (hdeep : 50 < dpE x + 1) (W : World) (b : Nat) (h : CellsAtv W b 0 [.int .i64 1, .int .i64 1, .bool true, .int .i64 0, .string ⟨#[]⟩, .string ⟨#[]⟩, .string ⟨#[]⟩, .slice none 0 0, .slice none 0 0, .string ⟨#[]⟩, .slice none 0 0, .slice none 0 0, .int .i64 x.op, .int .i64 x.v.h.k, .bool x.v.h.b, .int .i64 x.v.h.n, .string x.v.h.s, .string x.v.h.t, .string x.v.h.i, .slice ai x.v.l.length ci, .slice an x.v.ns.length cn, .string x.nm, .slice ak x.ks.length ck, .slice am x.ns.length cm]) (hx : RE n W x (p4 x ai ci an cn ak ck am cm)) : Calls Tryz.prog 14 #[.agg #[.int .i64 5, .int .i64 0, .bool false, .int .i64 0, .string ⟨#[]⟩, .string ⟨#[]⟩, .string ⟨#[]⟩, .slice none 0 0, .slice none 0 0, .string ⟨#[]⟩, .slice (some ⟨b, 0, none⟩) 2 2, .slice none 0 0], .agg #[.string ⟨#[]⟩, .string ⟨#[]⟩, .string ⟨#[]⟩, .string ⟨#[]⟩, .string ⟨#[]⟩, .string ⟨#[]⟩, .int .i64 0, .bool false, .int .i64 0, .string ⟨#[]⟩, .string ⟨#[]⟩, .string ⟨#[]⟩, .slice none 0 0, .slice none 0 0], .pointer none] W (fun e w' => ∃ ai ci an cn, e = .returned (.tuple #[.agg #[.int .i64 0, .bool false, .int .i64 0, .string ⟨#[]⟩, .string ⟨#[]⟩, .string ⟨#[]⟩, .slice ai 0 ci, .slice an 0 cn], .int .i64 11]) ∧ Low W w') := by
 obtain ⟨m, rfl⟩ : ∃ m, n = m + 1 := by cases n with | zero => exact hx.elim | succ m => exact ⟨m, rfl⟩
 have HO := Lib.hid ho
 have h1 := eval0_c (m + 2) (twE 5 tE x) none 0 none 0 (some ⟨b, 0, none⟩) 2 none 0 W (re_two (row_two (n := m + 1) (p := pZ) (q := p4 x ai ci an cn ak ck am cm) h (re_leaf (flat_tru _)) hx)) (ok_two (by decide) (ok_leaf (flat_tru _)) HO.out)
 rw [show evalE Q0 (twE 5 tE x) = (11, V0) from ev_shD (by rw [dp_tw1 _ _ x]; exact hdeep)] at h1
 exact Calls.mono h1 fun _ _ hv => vr_rerr hv
theorem evSh2_c {n : Nat} {x : E} (ai : Option Addr) (ci : Nat) (an : Option Addr) (cn : Nat) (ak : Option Addr) (ck : Nat) (am : Option Addr) (cm : Nat) (ho : OkE n x) (hdeep : ¬ 50 < dpE x + 1) (W : World) (b : Nat) (h : CellsAtv W b 0 [.int .i64 1, .int .i64 1, .bool true, .int .i64 0, .string ⟨#[]⟩, .string ⟨#[]⟩, .string ⟨#[]⟩, .slice none 0 0, .slice none 0 0, .string ⟨#[]⟩, .slice none 0 0, .slice none 0 0, .int .i64 1, .int .i64 1, .bool true, .int .i64 0, .string ⟨#[]⟩, .string ⟨#[]⟩, .string ⟨#[]⟩, .slice none 0 0, .slice none 0 0, .string ⟨#[]⟩, .slice none 0 0, .slice none 0 0, .int .i64 x.op, .int .i64 x.v.h.k, .bool x.v.h.b, .int .i64 x.v.h.n, .string x.v.h.s, .string x.v.h.t, .string x.v.h.i, .slice ai x.v.l.length ci, .slice an x.v.ns.length cn, .string x.nm, .slice ak x.ks.length ck, .slice am x.ns.length cm]) (hx : RE n W x (p4 x ai ci an cn ak ck am cm)) : Calls Tryz.prog 14 #[.agg #[.int .i64 7, .int .i64 0, .bool false, .int .i64 0, .string ⟨#[]⟩, .string ⟨#[]⟩, .string ⟨#[]⟩, .slice none 0 0, .slice none 0 0, .string ⟨#[]⟩, .slice (some ⟨b, 0, none⟩) 3 3, .slice none 0 0], .agg #[.string ⟨#[]⟩, .string ⟨#[]⟩, .string ⟨#[]⟩, .string ⟨#[]⟩, .string ⟨#[]⟩, .string ⟨#[]⟩, .int .i64 0, .bool false, .int .i64 0, .string ⟨#[]⟩, .string ⟨#[]⟩, .string ⟨#[]⟩, .slice none 0 0, .slice none 0 0], .pointer none] W (fun e w' => ∃ ai ci an cn, e = .returned (.tuple #[.agg #[.int .i64 1, .bool true, .int .i64 0, .string ⟨#[]⟩, .string ⟨#[]⟩, .string ⟨#[]⟩, .slice ai 0 ci, .slice an 0 cn], .int .i64 0]) ∧ Low W w') := by
 obtain ⟨m, rfl⟩ : ∃ m, n = m + 1 := by cases n with | zero => exact hx.elim | succ m => exact ⟨m, rfl⟩
 have HO := Lib.hid ho
 have h1 := eval0_c (m + 2) (thE 7 tE tE x) none 0 none 0 (some ⟨b, 0, none⟩) 3 none 0 W (re_three (row_three (n := m + 1) (p := pZ) (q := pZ) (r := p4 x ai ci an cn ak ck am cm) h (re_leaf (flat_tru _)) (re_leaf (flat_tru _)) hx)) (ok_three (by decide) (ok_leaf (flat_tru _)) (ok_leaf (flat_tru _)) HO.out)
 rw [show evalE Q0 (thE 7 tE tE x) = (0, truV true) from ev_sh2 hdeep] at h1
 exact Calls.mono h1 fun _ _ hv => vr_rtru hv
theorem dpSh2_c {n : Nat} {x : E} (ai : Option Addr) (ci : Nat) (an : Option Addr) (cn : Nat) (ak : Option Addr) (ck : Nat) (am : Option Addr) (cm : Nat) (hd : dpE x ≤ 61) (W : World) (b : Nat) (h : CellsAtv W b 0 [.int .i64 1, .int .i64 1, .bool true, .int .i64 0, .string ⟨#[]⟩, .string ⟨#[]⟩, .string ⟨#[]⟩, .slice none 0 0, .slice none 0 0, .string ⟨#[]⟩, .slice none 0 0, .slice none 0 0, .int .i64 1, .int .i64 1, .bool true, .int .i64 0, .string ⟨#[]⟩, .string ⟨#[]⟩, .string ⟨#[]⟩, .slice none 0 0, .slice none 0 0, .string ⟨#[]⟩, .slice none 0 0, .slice none 0 0, .int .i64 x.op, .int .i64 x.v.h.k, .bool x.v.h.b, .int .i64 x.v.h.n, .string x.v.h.s, .string x.v.h.t, .string x.v.h.i, .slice ai x.v.l.length ci, .slice an x.v.ns.length cn, .string x.nm, .slice ak x.ks.length ck, .slice am x.ns.length cm]) (hx : RE n W x (p4 x ai ci an cn ak ck am cm)) : Calls Tryz.prog 21 #[.agg #[.int .i64 7, .int .i64 0, .bool false, .int .i64 0, .string ⟨#[]⟩, .string ⟨#[]⟩, .string ⟨#[]⟩, .slice none 0 0, .slice none 0 0, .string ⟨#[]⟩, .slice (some ⟨b, 0, none⟩) 3 3, .slice none 0 0]] W (fun e w' => e = .returned (.int .i64 ((dpE x : Int) + 1)) ∧ Low W w') := by
 obtain ⟨m, rfl⟩ : ∃ m, n = m + 1 := by cases n with | zero => exact hx.elim | succ m => exact ⟨m, rfl⟩
 have h1 := rdepthE_n (m + 2) (thE 7 tE tE x) none 0 none 0 (some ⟨b, 0, none⟩) 3 none 0 W (re_three (row_three (n := m + 1) (p := pZ) (q := pZ) (r := p4 x ai ci an cn ak ck am cm) h (re_leaf (flat_tru _)) (re_leaf (flat_tru _)) hx)) (by rw [dp_th2 _ _ _ x]; omega)
 rw [dp_th2 _ _ _ x] at h1
 exact h1
theorem evSh2d_c {n : Nat} {x : E} (ai : Option Addr) (ci : Nat) (an : Option Addr) (cn : Nat) (ak : Option Addr) (ck : Nat) (am : Option Addr) (cm : Nat) (ho : OkE n x) (hdeep : 50 < dpE x + 1) (W : World) (b : Nat) (h : CellsAtv W b 0 [.int .i64 1, .int .i64 1, .bool true, .int .i64 0, .string ⟨#[]⟩, .string ⟨#[]⟩, .string ⟨#[]⟩, .slice none 0 0, .slice none 0 0, .string ⟨#[]⟩, .slice none 0 0, .slice none 0 0, .int .i64 1, .int .i64 1, .bool true, .int .i64 0, .string ⟨#[]⟩, .string ⟨#[]⟩, .string ⟨#[]⟩, .slice none 0 0, .slice none 0 0, .string ⟨#[]⟩, .slice none 0 0, .slice none 0 0, .int .i64 x.op, .int .i64 x.v.h.k, .bool x.v.h.b, .int .i64 x.v.h.n, .string x.v.h.s, .string x.v.h.t, .string x.v.h.i, .slice ai x.v.l.length ci, .slice an x.v.ns.length cn, .string x.nm, .slice ak x.ks.length ck, .slice am x.ns.length cm]) (hx : RE n W x (p4 x ai ci an cn ak ck am cm)) : Calls Tryz.prog 14 #[.agg #[.int .i64 7, .int .i64 0, .bool false, .int .i64 0, .string ⟨#[]⟩, .string ⟨#[]⟩, .string ⟨#[]⟩, .slice none 0 0, .slice none 0 0, .string ⟨#[]⟩, .slice (some ⟨b, 0, none⟩) 3 3, .slice none 0 0], .agg #[.string ⟨#[]⟩, .string ⟨#[]⟩, .string ⟨#[]⟩, .string ⟨#[]⟩, .string ⟨#[]⟩, .string ⟨#[]⟩, .int .i64 0, .bool false, .int .i64 0, .string ⟨#[]⟩, .string ⟨#[]⟩, .string ⟨#[]⟩, .slice none 0 0, .slice none 0 0], .pointer none] W (fun e w' => ∃ ai ci an cn, e = .returned (.tuple #[.agg #[.int .i64 0, .bool false, .int .i64 0, .string ⟨#[]⟩, .string ⟨#[]⟩, .string ⟨#[]⟩, .slice ai 0 ci, .slice an 0 cn], .int .i64 11]) ∧ Low W w') := by
 obtain ⟨m, rfl⟩ : ∃ m, n = m + 1 := by cases n with | zero => exact hx.elim | succ m => exact ⟨m, rfl⟩
 have HO := Lib.hid ho
 have h1 := eval0_c (m + 2) (thE 7 tE tE x) none 0 none 0 (some ⟨b, 0, none⟩) 3 none 0 W (re_three (row_three (n := m + 1) (p := pZ) (q := pZ) (r := p4 x ai ci an cn ak ck am cm) h (re_leaf (flat_tru _)) (re_leaf (flat_tru _)) hx)) (ok_three (by decide) (ok_leaf (flat_tru _)) (ok_leaf (flat_tru _)) HO.out)
 rw [show evalE Q0 (thE 7 tE tE x) = (11, V0) from ev_shD (by rw [dp_th2 _ _ _ x]; exact hdeep)] at h1
 exact Calls.mono h1 fun _ _ hv => vr_rerr hv
theorem evSh3_c {n : Nat} {x : E} (ai : Option Addr) (ci : Nat) (an : Option Addr) (cn : Nat) (ak : Option Addr) (ck : Nat) (am : Option Addr) (cm : Nat) (ho : OkE n x) (hdeep : ¬ 50 < dpE x + 1) (W : World) (b : Nat) (h : CellsAtv W b 0 [.int .i64 1, .int .i64 1, .bool false, .int .i64 0, .string ⟨#[]⟩, .string ⟨#[]⟩, .string ⟨#[]⟩, .slice none 0 0, .slice none 0 0, .string ⟨#[]⟩, .slice none 0 0, .slice none 0 0, .int .i64 x.op, .int .i64 x.v.h.k, .bool x.v.h.b, .int .i64 x.v.h.n, .string x.v.h.s, .string x.v.h.t, .string x.v.h.i, .slice ai x.v.l.length ci, .slice an x.v.ns.length cn, .string x.nm, .slice ak x.ks.length ck, .slice am x.ns.length cm, .int .i64 1, .int .i64 1, .bool true, .int .i64 0, .string ⟨#[]⟩, .string ⟨#[]⟩, .string ⟨#[]⟩, .slice none 0 0, .slice none 0 0, .string ⟨#[]⟩, .slice none 0 0, .slice none 0 0]) (hx : RE n W x (p4 x ai ci an cn ak ck am cm)) : Calls Tryz.prog 14 #[.agg #[.int .i64 7, .int .i64 0, .bool false, .int .i64 0, .string ⟨#[]⟩, .string ⟨#[]⟩, .string ⟨#[]⟩, .slice none 0 0, .slice none 0 0, .string ⟨#[]⟩, .slice (some ⟨b, 0, none⟩) 3 3, .slice none 0 0], .agg #[.string ⟨#[]⟩, .string ⟨#[]⟩, .string ⟨#[]⟩, .string ⟨#[]⟩, .string ⟨#[]⟩, .string ⟨#[]⟩, .int .i64 0, .bool false, .int .i64 0, .string ⟨#[]⟩, .string ⟨#[]⟩, .string ⟨#[]⟩, .slice none 0 0, .slice none 0 0], .pointer none] W (fun e w' => ∃ ai ci an cn, e = .returned (.tuple #[.agg #[.int .i64 1, .bool true, .int .i64 0, .string ⟨#[]⟩, .string ⟨#[]⟩, .string ⟨#[]⟩, .slice ai 0 ci, .slice an 0 cn], .int .i64 0]) ∧ Low W w') := by
 obtain ⟨m, rfl⟩ : ∃ m, n = m + 1 := by cases n with | zero => exact hx.elim | succ m => exact ⟨m, rfl⟩
 have HO := Lib.hid ho
 have h1 := eval0_c (m + 2) (thE 7 fE x tE) none 0 none 0 (some ⟨b, 0, none⟩) 3 none 0 W (re_three (row_three (n := m + 1) (p := pZ) (q := p4 x ai ci an cn ak ck am cm) (r := pZ) h (re_leaf (flat_tru _)) hx (re_leaf (flat_tru _)))) (ok_three (by decide) (ok_leaf (flat_tru _)) HO.out (ok_leaf (flat_tru _)))
 rw [show evalE Q0 (thE 7 fE x tE) = (0, truV true) from ev_sh3 hdeep] at h1
 exact Calls.mono h1 fun _ _ hv => vr_rtru hv
theorem dpSh3_c {n : Nat} {x : E} (ai : Option Addr) (ci : Nat) (an : Option Addr) (cn : Nat) (ak : Option Addr) (ck : Nat) (am : Option Addr) (cm : Nat) (hd : dpE x ≤ 61) (W : World) (b : Nat) (h : CellsAtv W b 0 [.int .i64 1, .int .i64 1, .bool false, .int .i64 0, .string ⟨#[]⟩, .string ⟨#[]⟩, .string ⟨#[]⟩, .slice none 0 0, .slice none 0 0, .string ⟨#[]⟩, .slice none 0 0, .slice none 0 0, .int .i64 x.op, .int .i64 x.v.h.k, .bool x.v.h.b, .int .i64 x.v.h.n, .string x.v.h.s, .string x.v.h.t, .string x.v.h.i, .slice ai x.v.l.length ci, .slice an x.v.ns.length cn, .string x.nm, .slice ak x.ks.length ck, .slice am x.ns.length cm, .int .i64 1, .int .i64 1, .bool true, .int .i64 0, .string ⟨#[]⟩, .string ⟨#[]⟩, .string ⟨#[]⟩, .slice none 0 0, .slice none 0 0, .string ⟨#[]⟩, .slice none 0 0, .slice none 0 0]) (hx : RE n W x (p4 x ai ci an cn ak ck am cm)) : Calls Tryz.prog 21 #[.agg #[.int .i64 7, .int .i64 0, .bool false, .int .i64 0, .string ⟨#[]⟩, .string ⟨#[]⟩, .string ⟨#[]⟩, .slice none 0 0, .slice none 0 0, .string ⟨#[]⟩, .slice (some ⟨b, 0, none⟩) 3 3, .slice none 0 0]] W (fun e w' => e = .returned (.int .i64 ((dpE x : Int) + 1)) ∧ Low W w') := by
 obtain ⟨m, rfl⟩ : ∃ m, n = m + 1 := by cases n with | zero => exact hx.elim | succ m => exact ⟨m, rfl⟩
 have h1 := rdepthE_n (m + 2) (thE 7 fE x tE) none 0 none 0 (some ⟨b, 0, none⟩) 3 none 0 W (re_three (row_three (n := m + 1) (p := pZ) (q := p4 x ai ci an cn ak ck am cm) (r := pZ) h (re_leaf (flat_tru _)) hx (re_leaf (flat_tru _)))) (by rw [dp_th1 _ _ _ x]; omega)
 rw [dp_th1 _ _ _ x] at h1
 exact h1
theorem evSh3d_c {n : Nat} {x : E} (ai : Option Addr) (ci : Nat) (an : Option Addr) (cn : Nat) (ak : Option Addr) (ck : Nat) (am : Option Addr) (cm : Nat) (ho : OkE n x) (hdeep : 50 < dpE x + 1) (W : World) (b : Nat) (h : CellsAtv W b 0 [.int .i64 1, .int .i64 1, .bool false, .int .i64 0, .string ⟨#[]⟩, .string ⟨#[]⟩, .string ⟨#[]⟩, .slice none 0 0, .slice none 0 0, .string ⟨#[]⟩, .slice none 0 0, .slice none 0 0, .int .i64 x.op, .int .i64 x.v.h.k, .bool x.v.h.b, .int .i64 x.v.h.n, .string x.v.h.s, .string x.v.h.t, .string x.v.h.i, .slice ai x.v.l.length ci, .slice an x.v.ns.length cn, .string x.nm, .slice ak x.ks.length ck, .slice am x.ns.length cm, .int .i64 1, .int .i64 1, .bool true, .int .i64 0, .string ⟨#[]⟩, .string ⟨#[]⟩, .string ⟨#[]⟩, .slice none 0 0, .slice none 0 0, .string ⟨#[]⟩, .slice none 0 0, .slice none 0 0]) (hx : RE n W x (p4 x ai ci an cn ak ck am cm)) : Calls Tryz.prog 14 #[.agg #[.int .i64 7, .int .i64 0, .bool false, .int .i64 0, .string ⟨#[]⟩, .string ⟨#[]⟩, .string ⟨#[]⟩, .slice none 0 0, .slice none 0 0, .string ⟨#[]⟩, .slice (some ⟨b, 0, none⟩) 3 3, .slice none 0 0], .agg #[.string ⟨#[]⟩, .string ⟨#[]⟩, .string ⟨#[]⟩, .string ⟨#[]⟩, .string ⟨#[]⟩, .string ⟨#[]⟩, .int .i64 0, .bool false, .int .i64 0, .string ⟨#[]⟩, .string ⟨#[]⟩, .string ⟨#[]⟩, .slice none 0 0, .slice none 0 0], .pointer none] W (fun e w' => ∃ ai ci an cn, e = .returned (.tuple #[.agg #[.int .i64 0, .bool false, .int .i64 0, .string ⟨#[]⟩, .string ⟨#[]⟩, .string ⟨#[]⟩, .slice ai 0 ci, .slice an 0 cn], .int .i64 11]) ∧ Low W w') := by
 obtain ⟨m, rfl⟩ : ∃ m, n = m + 1 := by cases n with | zero => exact hx.elim | succ m => exact ⟨m, rfl⟩
 have HO := Lib.hid ho
 have h1 := eval0_c (m + 2) (thE 7 fE x tE) none 0 none 0 (some ⟨b, 0, none⟩) 3 none 0 W (re_three (row_three (n := m + 1) (p := pZ) (q := p4 x ai ci an cn ak ck am cm) (r := pZ) h (re_leaf (flat_tru _)) hx (re_leaf (flat_tru _)))) (ok_three (by decide) (ok_leaf (flat_tru _)) HO.out (ok_leaf (flat_tru _)))
 rw [show evalE Q0 (thE 7 fE x tE) = (11, V0) from ev_shD (by rw [dp_th1 _ _ _ x]; exact hdeep)] at h1
 exact Calls.mono h1 fun _ _ hv => vr_rerr hv
end Go.Proofs.YtnchohglplobeaaGreat
