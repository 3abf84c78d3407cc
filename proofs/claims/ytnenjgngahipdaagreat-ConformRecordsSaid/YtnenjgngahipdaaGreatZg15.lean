/- The program's deeper, rise, mayBe, Check. Condition: short rows. The program's mayBe, Check, Attr, shallow. Condition: short rows. schema.hasAll, stands, attrsStand, rowMayBe. Conditions: each asked type is small (few's yes). A schema's actions as entities, by definition; a record type of a row of attributes, an action's name. No condition. conform.stands: is an entity as its type wants it? Condition: the schema's attributes may be, the entity's attributes are as they must be. How deep a value is nested, and whether it is deeper than a number. Condition: a bound on the depth. Whether a value is nested deeper than a number. No condition but that the number is not below 0. Values as they must be, by definition; facts on these that stand on nothing. No condition. Values in a row of the call's own. No condition. -/
import Derived.Test.YtnenjgngahipdaaGreatZg13
import Derived.Test.YtnenjgngahipdaaGreatZTyB
import Derived.Laws.Cover1
import Derived.Test.YtnenjgngahipdaaGreatZg02
import Derived.Test.YtnenjgngahipdaaGreatZg12
import Derived.Test.YtnenjgngahipdaaGreatZg01
import Derived.Test.YtnenjgngahipdaaGreatZg10
import Derived.Test.YtnenjgngahipdaaGreatZg00
set_option linter.unusedVariables false
set_option linter.unusedSimpArgs false
set_option linter.unnecessarySimpa false
namespace Go.Proofs.YtnenjgngahipdaaGreat
open Go.RowKit
set_option linter.unusedVariables false
/-- Is a text a name of the rows? -/
def nmB (g : Gra) (s : ByteArray) : Bool := if h : s.size ≤ 9223372036854775807 then (look g ⟨s, h⟩).isSome else false
theorem nmB_of (g : Gra) (x : Nm) : nmB g x.s = (look g x).isSome := by unfold nmB; rw [dif_pos x.hs]
/-- What stands tells. -/
def stB (h : ByteArray → Bool) : Nat → T → Bool
  | 0, _ => false
  | n + 1, t => !(decide (t.k = 0) || decide (t.k = 1) || decide (t.k = 2)) && !(decide (t.k = 6) && !h t.n) && (t.l.all (stB h n) && t.ats.all fun a => stB h n (aty a))
def knows (g : Gra) (x : Nm) : Bool := (look g x).isSome
/-- May a row of attributes be? -/
def recT (l : List At) : T := .mk 8 ⟨#[]⟩ [] l
def rowB (h : ByteArray → Bool) (n : Nat) (l : List At) : Bool := decide (chkE (n + 1) (recT l) = 0) && l.all fun a => stB h n (aty a)
theorem rec_rt {A : Nat → Prop} {w : World} {n : Nat} {l : List At} {v : Value} (h : RAs A w n l v) : RT A w (n + 1) (recT l) (.slice none 0 0) v := ⟨(by decide : (⟨#[]⟩ : ByteArray).size ≤ 9223372036854775807), RL.nil A w n, h⟩
end Go.Proofs.YtnenjgngahipdaaGreat
namespace Go.Proofs.YtnenjgngahipdaaGreat
open Go.RowKit
set_option linter.unusedVariables false
def actNm : ByteArray := ⟨#[65, 99, 116, 105, 111, 110]⟩
def uAct (x : Nm) : Us := ⟨actNm, x.s, by decide, by have := x.hs; unfold maxLen; omega⟩
def recV : V := .mk { hd0 with k := 6 } [] []
def actE (a : Ac) : En := ⟨uAct a.nm, a.ins.map uAct, recV⟩
def actsE (acs : List Ac) : List En := acs.map actE
/-- What Actions tells: a row of the call's own. -/
def ActsP (acs : List Ac) (w : World) (e : Ending) (w' : World) : Prop := ∃ v rs, e = .returned v ∧ OwnE w.heap.size w' v rs ∧ (∀ p ∈ rs, EeOk (fun b => some b ≠ v.ownBlock) w' p) ∧ ensOf rs = actsE acs ∧ Low w w'
theorem recV_rep (A : Nat → Prop) (w : World) : Rep A w recV (.slice none 0 0) (.slice none 0 0) := by
  unfold recV
  rw [Rep]
  exact ⟨⟨by decide, by decide, by decide⟩, ⟨none, 0, rfl, by simp, by simp, .inl rfl⟩, none, 0, rfl, ⟨by simp, by simp⟩, .inl rfl⟩
set_option maxHeartbeats 1600000 in
theorem action_c (s : ByteArray) (w : World) : Calls Tryz.prog 42 #[.string s] w fun e w' => e = .returned (.agg #[.string actNm, .string s]) ∧ Low w w' := by
  go_enter Tryz.func42, Tryz.ntmps42
  go_upto_region 1 with fail
  refine gen_w (P := fun W => Code.wp _ _ _ _ W) (fun U hU => ?_)
  have LU := Lib.hid (show Low w U by rw [hU]; exact low_new (Low.refl w) _)
  have BU := Lib.hid (BoxAt.made (cs := [.string ⟨#[]⟩, .string ⟨#[]⟩]) hU rfl rfl)
  clear hU
  have g0 := BU.out.at 0 _ rfl
  have g1 := BU.out.at 1 _ rfl
  have o0 := BU.out.open' 0
  have o1 := BU.out.open' 1
  have HK := Lib.hid (fun (c0 c1 : Value) => (kept_setCell U w.heap.size 0 c0).trans (kept_setCell _ w.heap.size 1 c1))
  go_wp2_with fail
  refine bodyPost_ret (v := .agg #[.string actNm, .string s]) (by simp [results, Tryz.results42, go_sem, World.cell?_setCell_same', g0, g1, actNm]; try rfl) rfl ?_
  exact ⟨rfl, low_all LU.out (Nat.le_refl _) (HK.out _ _)⟩
set_option maxHeartbeats 1600000 in
theorem recordType_c (v : Value) (p : Option Addr) (n c : Nat) (hv : v = .slice p n c) (w : World) : Calls Tryz.prog 56 #[v] w fun e w' => e = .returned (.agg #[.int .i64 8, .string ⟨#[]⟩, .slice none 0 0, v]) ∧ Low w w' := by
  subst hv
  go_enter Tryz.func56, Tryz.ntmps56
  go_upto_region 1 with fail
  refine gen_w (P := fun W => Code.wp _ _ _ _ W) (fun U hU => ?_)
  have LU := Lib.hid (show Low w U by rw [hU]; exact low_new (Low.refl w) _)
  have BU := Lib.hid (BoxAt.made (cs := [.int .i64 0, .string ⟨#[]⟩, .slice none 0 0, .slice none 0 0]) hU rfl rfl)
  clear hU
  obtain ⟨g0, g1, g2, g3⟩ := BU.out.at4
  obtain ⟨o0, o1, o2, o3⟩ := BU.out.op4
  have HK := Lib.hid (fun (c0 c1 c2 c3 : Value) => kept4 U w.heap.size 0 1 2 3 c0 c1 c2 c3)
  go_wp2_with fail
  refine bodyPost_ret (v := .agg #[.int .i64 8, .string ⟨#[]⟩, .slice none 0 0, .slice p n c]) (by simp [results, Tryz.results56, go_sem, World.cell?_setCell_same', g0, g1, g2, g3]; try rfl) rfl ?_
  exact ⟨rfl, low_all LU.out (Nat.le_refl _) (HK.out _ _ _ _)⟩
end Go.Proofs.YtnenjgngahipdaaGreat
namespace Go.Proofs.YtnenjgngahipdaaGreat
open Go.RowKit
set_option linter.unusedVariables false
/-- Is an entity as its type wants it? -/
def standB (n : Nat) (ts : List Et) (e : En) : Bool := match ts.find? (fun t => eqN e.u.t t.nm) with
  | none => false
  | some t => (e.ps.all fun p => hasN t.ins p.t) && isV (n + 1) e.a (recT t.ats)
theorem find_first {l : List Et} {f : Et → Bool} {i : Nat} (hi : i < l.length) (h : firstI l f = (i : Int)) : l.find? f = some l[i] := by
  rcases firstI_cases l f with ⟨k, hk, h1, h2, h3⟩ | ⟨h1, -⟩
  · obtain rfl : k = i := by omega
    rw [List.find?_eq_some_iff_getElem]
    exact ⟨h2, k, hk, rfl, fun j hj => by simp [h3 j (by omega) hj]⟩
  · omega
theorem find_none {l : List Et} {f : Et → Bool} (h : firstI l f = -1) : l.find? f = none := by
  rcases firstI_cases l f with ⟨k, hk, h1, h2, h3⟩ | ⟨-, h1⟩
  · omega
  · rw [List.find?_eq_none]
    intro x hx
    obtain ⟨j, hj, rfl⟩ := List.getElem_of_mem hx
    simp [h1 j hj]
set_option maxHeartbeats 3200000 in
set_option maxRecDepth 100000 in
theorem standsf_c (ins : List Nm) (x : Us) (x0 : Nat) (w : World) (v : Value) (hv : NsAt w ins v) (c1 : w.cell? ⟨x0, 1, none⟩ = some v) :
    Calls Tryz.prog 81 #[.agg #[.string x.t, .string x.i], .pointer (some ⟨x0, 0, none⟩)] w fun r w' => r = .returned (.bool (hasN ins x.t)) ∧ Low w w' := by
  obtain ⟨p, c, rfl, z1, z2⟩ := RowB.sl hv
  have c1X := fun X => (low_new (Low.refl w) X).keep c1
  have CC := Lib.hid fun W (l : Low w W) => contains_c ins x.t W _ (hv.low l)
  obtain ⟨q, hq⟩ : ∃ q, q = hasN ins x.t := ⟨_, rfl⟩
  rw [← hq] at CC ⊢
  clear hv c1 hq
  go_enter Tryz.func81, Tryz.ntmps81
  go_wp2_with fail
  refine (CC.out _ (low_new (Low.refl w) _)).mono ?_
  rintro e w' ⟨rfl, rfl⟩
  go_wp2_with fail
  go_ret
  exact ⟨rfl, low_new (Low.refl w) _⟩
set_option maxHeartbeats 6400000 in
set_option maxRecDepth 100000 in
theorem stands_c (n : Nat) (ts : List Et) (x : Ee) (w : World) (vt va : Value) (h : EtsAt n w ts vt) (hva : ∃ p m c, va = .slice p m c) (hm : ∀ t ∈ ts, mayB (n + 1) (recT t.ats) = true) (hx : EeOk (fun _ => True) w x) (ho : Okv x.e.a) :
    Calls Tryz.prog 49 #[eeV x, .agg #[vt, va]] w fun r w' => r = .returned (.bool (standB n ts x.e)) ∧ Low w w' := by
  obtain ⟨p, c, rfl, z1, z2⟩ := RowB.sl h
  obtain ⟨pa, ma, ca, rfl⟩ := hva
  obtain ⟨U0, hU0⟩ : ∃ U, U = w.alloc (eeC x) := ⟨_, rfl⟩
  obtain ⟨U, hU⟩ : ∃ U, U = U0.alloc (.cells #[.slice p ts.length c, .slice pa ma ca] 46) := ⟨_, rfl⟩
  have s0 : U0.heap.size = w.heap.size + 1 := by rw [hU0]; simp
  have L0 : Low U0 U := by rw [hU]; exact low_new (Low.refl _) _
  have LU := Lib.hid (show Low w U from (by rw [hU0]; exact low_new (Low.refl w) _ : Low w U0).trans L0)
  have BX := Lib.hid ((ee_box x hU0 rfl).low L0)
  have BS := Lib.hid (BoxAt.made (cs := [.slice p ts.length c, .slice pa ma ca]) hU s0 rfl)
  have CT := Lib.hid (type9_c n ts x.e.u.t U _ (.slice pa ma ca) (h.low LU.out))
  obtain ⟨r, hr⟩ : ∃ r, r = standB n ts x.e := ⟨_, rfl⟩
  rw [← hr]
  have HR := Lib.hid hr
  have HM := Lib.hid hm
  have HX := Lib.hid hx
  have HO := Lib.hid ho
  rw [hU0] at hU
  unfold eeC at hU
  have HU := Lib.hid hU
  clear h hm hx ho hU hU0 s0 L0 hr
  unfold eeV
  go_enter Tryz.func49, Tryz.ntmps49
  go_upto_region 1 with fail
  rw [← HU.out]
  clear HU
  obtain ⟨d0, d1, d2, d3, d4, d5, d6, d7, d8, d9, d10⟩ := eeL x BX.out.cells
  have g0 := BS.out.at 0 _ rfl
  have g1 := BS.out.at 1 _ rfl
  go_wp2_with fail
  refine CT.out.mono ?_
  rintro e w1 ⟨nm, qi, li, ci, qa, la, ca2, q, rfl, l1, hq⟩
  have L1 := Lib.hid l1
  have HQ := Lib.hid hq
  clear l1 hq CT d0 d1 d2 d3 d4 d5 d6 d7 d8 d9 d10 g0 g1
  go_upto_region 2 with fail
  refine gen_w (P := fun W => Code.wp _ _ _ _ W) (fun V1 hV1 => ?_)
  have LQ1 := Lib.hid (show Low w1 V1 by rw [hV1]; exact low_new (Low.refl _) _)
  have LV1 := Lib.hid (LU.out.trans (L1.out.trans LQ1.out))
  obtain ⟨tb, htb⟩ : ∃ b, b = w1.heap.size := ⟨_, rfl⟩
  have BT := Lib.hid (BoxAt.made (cs := [.string nm, .slice qi li ci, .slice qa la ca2]) hV1 htb.symm rfl)
  rw [← htb]
  clear hV1 htb
  have BXV := Lib.hid (BX.out.low (L1.out.trans LQ1.out))
  clear BX BS
  haveI := InL.some V1
  have d2 := fun q : InL V1 => q.cell (eeL x BXV.out.cells).2.2.1
  have d3 := fun q : InL V1 => q.cell (eeL x BXV.out.cells).2.2.2.1
  have d4 := fun q : InL V1 => q.cell (eeL x BXV.out.cells).2.2.2.2.1
  have d5 := fun q : InL V1 => q.cell (eeL x BXV.out.cells).2.2.2.2.2.1
  have d6 := fun q : InL V1 => q.cell (eeL x BXV.out.cells).2.2.2.2.2.2.1
  have d7 := fun q : InL V1 => q.cell (eeL x BXV.out.cells).2.2.2.2.2.2.2.1
  have d8 := fun q : InL V1 => q.cell (eeL x BXV.out.cells).2.2.2.2.2.2.2.2.1
  have d9 := fun q : InL V1 => q.cell (eeL x BXV.out.cells).2.2.2.2.2.2.2.2.2.1
  have d10 := fun q : InL V1 => q.cell (eeL x BXV.out.cells).2.2.2.2.2.2.2.2.2.2
  have t2 := fun q : InL V1 => q.cell (BT.out.at 2 _ rfl)
  rcases HQ.out with ⟨rfl, hf, -⟩ | ⟨rfl, i, hi, hf, rfl, rfl, rfl, hns, has⟩
  · have HF := Lib.hid (show false = r by rw [HR.out]; unfold standB; rw [find_none hf])
    clear hf
    refine wp_region_low mixedT (by kernel_rfl) ?_
    repeat (go_big_quiet_step (fail))
    refine wpQuiet_nil ?_
    rintro W8 ⟨p8, hW8⟩
    have L8 := Lib.hid (show Low V1 W8 by rw [hW8]; exact p8.ok)
    clear hW8 p8 d2 d3 d4 d5 d6 d7 d8 d9 d10 t2 this
    go_wp2_with fail
    go_ret
    exact ⟨retB HF.out, LV1.out.trans L8.out⟩
  · have HF := Lib.hid (show ((x.e.ps.all fun p => hasN ts[i].ins p.t) && isV (n + 1) x.e.a (recT ts[i].ats)) = r by rw [HR.out]; unfold standB; rw [find_first hi hf])
    have CB := Lib.hid fun q : InL V1 => Calls.low q (allU_c x.e.ps (fun p => hasN ts[i].ins p.t) tb q.w _ ((HX.out.1.low (LV1.out.trans q.ok)).any) fun j hj W hlW _ => standsf_c ts[i].ins x.e.ps[j] tb W _ (NsAt.low hns (LQ1.out.trans (q.ok.trans hlW))) ((q.ok.trans hlW).keep (BT.out.at 1 _ rfl)))
    have CR := Lib.hid fun q : InL V1 => Calls.low q (recordType_c (.slice qa ts[i].ats.length ca2) qa ts[i].ats.length ca2 rfl q.w)
    have CO := Lib.hid fun q : InL V1 => Calls.low q (of_c (n + 1) x.e.a (recT ts[i].ats) q.w _ _ _ _ HO.out (HM.out _ (List.getElem_mem hi)) (Rep.low HX.out.2 (LV1.out.trans q.ok)) (rec_rt (RAs.low has (LQ1.out.trans q.ok))))
    obtain ⟨q1, hq1⟩ : ∃ q, q = (x.e.ps.all fun p => hasN ts[i].ins p.t) := ⟨_, rfl⟩
    obtain ⟨q2, hq2⟩ : ∃ q, q = isV (n + 1) x.e.a (recT ts[i].ats) := ⟨_, rfl⟩
    rw [← hq1] at CB HF
    rw [← hq2] at CO HF
    unfold Sh.p Ee.sh at CB
    simp only at CB
    unfold avv tv recT Ee.it Ee.nm at CO
    simp only [T.k, T.n] at CO
    clear hq1 hq2 hns has
    cases q1 with
    | false =>
      refine wp_region_low mixedT (by kernel_rfl) ?_
      repeat (go_big_quiet_step (first | with_reducible exact CB.out _ | with_reducible exact CR.out _ | with_reducible exact CO.out _))
      refine wpQuiet_nil ?_
      rintro W8 ⟨p8, hW8⟩
      have L8 := Lib.hid (show Low V1 W8 by rw [hW8]; exact p8.ok)
      clear hW8 p8 d2 d3 d4 d5 d6 d7 d8 d9 d10 t2 this
      go_wp2_with fail
      go_ret
      exact ⟨retB HF.out, LV1.out.trans L8.out⟩
    | true =>
      refine wp_region_low mixedT (by kernel_rfl) ?_
      repeat (go_big_quiet_step (first | with_reducible exact CB.out _ | with_reducible exact CR.out _ | with_reducible exact CO.out _))
      refine wpQuiet_nil ?_
      rintro W8 ⟨p8, hW8⟩
      have L8 := Lib.hid (show Low V1 W8 by rw [hW8]; exact p8.ok)
      clear hW8 p8 d2 d3 d4 d5 d6 d7 d8 d9 d10 t2 this
      go_wp2_with fail
      go_ret
      exact ⟨retB HF.out, LV1.out.trans L8.out⟩
set_option maxHeartbeats 3200000 in
set_option maxRecDepth 100000 in
theorem storef_c (n : Nat) (ts : List Et) (x : Ee) (x0 : Nat) (w : World) (vt va : Value) (h : EtsAt n w ts vt) (hva : ∃ p m c, va = .slice p m c) (hm : ∀ t ∈ ts, mayB (n + 1) (recT t.ats) = true) (hx : EeOk (fun _ => True) w x) (ho : Okv x.e.a) (c0 : w.cell? ⟨x0, 0, none⟩ = some vt) (c1 : w.cell? ⟨x0, 1, none⟩ = some va) :
    Calls Tryz.prog 48 #[eeV x, .pointer (some ⟨x0, 0, none⟩)] w fun r w' => r = .returned (.bool (standB n ts x.e)) ∧ Low w w' := by
  obtain ⟨p, c, rfl, z1, z2⟩ := RowB.sl h
  have CS := Lib.hid fun W (l : Low w W) => stands_c n ts x W _ va (h.low l) hva hm (hx.low l) ho
  obtain ⟨pa, ma, ca, rfl⟩ := hva
  have c0X := fun X => (low_new (Low.refl w) X).keep c0
  have c1X := fun X => (low_new (Low.refl w) X).keep c1
  obtain ⟨q, hq⟩ : ∃ q, q = standB n ts x.e := ⟨_, rfl⟩
  rw [← hq] at CS ⊢
  unfold eeV at CS ⊢
  clear h hm hx ho c0 c1 hq
  go_enter Tryz.func48, Tryz.ntmps48
  go_wp2_with fail
  refine (CS.out _ (low_new (Low.refl w) _)).mono ?_
  rintro e w' ⟨rfl, l1⟩
  have G2 := Lib.hid ((low_new (Low.refl w) _).trans l1)
  clear l1 CS
  go_wp2_with fail
  go_ret
  exact ⟨rfl, G2.out⟩
end Go.Proofs.YtnenjgngahipdaaGreat
namespace Go.Proofs.YtnenjgngahipdaaGreat
open Go.RowKit Go.Sort
mutual
/-- Depth, as the document says. -/
def dptv : V → Nat
  | .mk h l _ => if h.k = 5 ∨ h.k = 6 then dptL l + 1 else 1
def dptL : List V → Nat
  | [] => 0
  | x :: l => max (dptv x) (dptL l)
end
/-- What is right inside. -/
def V.nest (v : V) : List V := if v.h.k = 5 ∨ v.h.k = 6 then v.l else []
theorem dpt_v (v : V) : dptv v = dptL v.nest + 1 := by
  cases v with
  | mk h l ns =>
    rw [dptv]
    unfold V.nest
    simp only [V.h, V.l]
    by_cases hk : h.k = 5 ∨ h.k = 6 <;> simp [hk, dptL]
theorem dptL_append (l m : List V) : dptL (l ++ m) = max (dptL l) (dptL m) := by
  induction l with
  | nil => simp [dptL]
  | cons x l ih => rw [List.cons_append, dptL, dptL, ih]; omega
theorem dptL_take {l : List V} {i : Nat} (h : i < l.length) : dptL (l.take (i + 1)) = max (dptL (l.take i)) (dptv l[i]) := by
  rw [List.take_succ_eq_append_getElem h, dptL_append]
  simp [dptL]
theorem dptL_le {l : List V} {n : Nat} : dptL l ≤ n ↔ ∀ x ∈ l, dptv x ≤ n := by
  induction l with
  | nil => simp [dptL]
  | cons x l ih => rw [dptL, Nat.max_le, ih]; simp
theorem mem_nest {v x : V} (h : x ∈ v.nest) : x ∈ v.l := by
  unfold V.nest at h
  split at h
  · exact h
  · simp at h
theorem dpt_dep (n : Nat) : ∀ v : V, dep v ≤ n → dptv v ≤ dep v := by
  induction n with
  | zero => intro v h; rw [dep_v] at h; omega
  | succ n ih =>
    intro v h
    rw [dep_v] at h
    rw [dpt_v, dep_v]
    have : dptL v.nest ≤ depL v.l := dptL_le.2 fun x hx => Nat.le_trans (ih x (by have := dep_mem (mem_nest hx); omega)) (dep_mem (mem_nest hx))
    omega
theorem dpt_le_dep (v : V) : dptv v ≤ dep v := dpt_dep (dep v) v (Nat.le_refl _)
theorem ro_nil (w : World) : Ro w [] (.slice none 0 0) := ⟨none, 0, rfl, ⟨by simp, by simp⟩, .inl rfl⟩
theorem nested_c (v : V) (w : World) (it nm : Value) (hr : R w v it nm) : Calls Tryz.prog 92 #[avv v.h it nm] w (RowP v.nest w) := by
  obtain ⟨ai, ci, an, cn, rfl, rfl⟩ := r_slices hr
  have RA := Lib.hid (show Ro w v.l (.slice ai v.l.length ci) from (rep_v.1 hr).2.2)
  clear hr
  unfold avv
  by_cases h5 : v.h.k = 5
  · have e : v.nest = v.l := by unfold V.nest; rw [if_pos (.inl h5)]
    rw [e, h5]
    clear e h5
    go_enter Tryz.func92, Tryz.ntmps92
    go_wp2_with fail
    go_ret
    exact ⟨_, rfl, RA.out.low (Gr.alloc (Gr.refl w) _).low, Gr.alloc (Gr.refl w) _⟩
  · by_cases h6 : v.h.k = 6
    · have e : v.nest = v.l := by unfold V.nest; rw [if_pos (.inr h6)]
      rw [e, h6]
      clear e h6 h5
      go_enter Tryz.func92, Tryz.ntmps92
      go_wp2_with fail
      go_ret
      exact ⟨_, rfl, RA.out.low (Gr.alloc (Gr.refl w) _).low, Gr.alloc (Gr.refl w) _⟩
    · have e : v.nest = [] := by unfold V.nest; rw [if_neg (by omega)]
      have b5 : (v.h.k == 5) = false := by simpa using h5
      have b6 : (v.h.k == 6) = false := by simpa using h6
      rw [e]
      clear e h5 h6
      go_enter Tryz.func92, Tryz.ntmps92
      go_wp2_with fail
      go_ret
      exact ⟨_, rfl, ro_nil _, Gr.alloc (Gr.refl w) _⟩
def DepC (f : Nat) (v : V) : Prop := ∀ (w : World) (it nm : Value), R w v it nm → Calls Tryz.prog f #[avv v.h it nm] w fun e w' => e = .returned (.int .i64 (dptv v : Int)) ∧ Gr w w'
theorem ro_len {w : World} {l : List V} {it : Value} (h : Ro w l it) : ∃ ao cap, it = .slice ao l.length cap ∧ l.length ≤ cap ∧ cap ≤ 9223372036854775807 := by
  obtain ⟨ao, cap, rfl, ⟨h1, h2⟩, -⟩ := h
  exact ⟨ao, cap, rfl, h1, h2⟩
set_option maxHeartbeats 1600000 in
theorem rDepth_n (n : Nat) (hn : n ≤ 1000000) : ∀ v : V, dep v ≤ n → DepC 29 v := by
  induction n with
  | zero => intro v h; rw [dep_v] at h; omega
  | succ n ih =>
    intro v hd w it nm hr
    obtain ⟨ai, ci, an, cn, rfl, rfl⟩ := r_slices hr
    by_cases hk : v.h.k = 5 ∨ v.h.k = 6
    · have hne : v.nest = v.l := by unfold V.nest; rw [if_pos hk]
      have ih' : ∀ x ∈ v.l, DepC 29 x := fun x hx => ih (by omega) x (by have := dep_mem hx; rw [dep_v] at hd; omega)
      have hb : ∀ i, dptL (v.l.take i) ≤ 1000000 := fun i => dptL_le.2 fun x hx => by
        have h1 := List.mem_of_mem_take hx
        have h2 := dep_mem h1
        have h3 := dpt_le_dep x
        rw [dep_v] at hd
        omega
      have e : dptv v = dptL v.l + 1 := by rw [dpt_v, hne]
      rw [e]
      have RA := Lib.hid (show Ro w v.l (.slice ai v.l.length ci) from (rep_v.1 hr).2.2)
      obtain ⟨zl, zc⟩ : v.l.length ≤ ci ∧ ci ≤ 9223372036854775807 := by obtain ⟨_, _, h, h1, _⟩ := (rep_v.1 hr).2.2; simp only [Value.slice.injEq] at h; obtain ⟨_, _, rfl⟩ := h; exact h1
      clear e hr hd ih hne
      have HI := Lib.hid ih'
      have HB := Lib.hid hb
      clear ih' hb
      unfold avv at *
      rcases hk with hk | hk
      all_goals
        have HK := Lib.hid hk
        rw [hk]
        clear hk
        go_enter Tryz.func29, Tryz.ntmps29
        go_wp2_with fail
        go_loopg [3, 4] v.l.length (fun gk vd vi wr => ∃ i : Nat, vd = .int .i64 (dptL (v.l.take i) : Int) ∧ vi = .int .i64 (i : Int) ∧ i ≤ v.l.length ∧ v.l.length - i ≤ gk ∧ Hid (Gr (w.alloc (.cells #[.int .i64 v.h.k, .bool v.h.b, .int .i64 v.h.n, .string v.h.s, .string v.h.t, .string v.h.i, .slice ai v.l.length ci, .slice an v.ns.length cn] 27)) wr))
        case atStart => exact ⟨0, rfl, rfl, Nat.zero_le _, Nat.le_refl _, Lib.hid (by rw [HK.out]; exact Gr.refl _)⟩
        case round =>
          obtain ⟨i, rfl, rfl, hi, hg, G⟩ := hrel
          have f6 := (gr_box G.out).2.2.2.2.2.2.1
          have G0 := Lib.hid ((Gr.alloc (Gr.refl w) _).trans G.out)
          by_cases hlt : i < v.l.length
          · have z1 : (i : Int) < (v.l.length : Int) := by omega
            obtain ⟨b, o, bi, di, bn, dn, rfl, hcs, hrx⟩ := ro_at (RA.out.low G0.out.low) hlt
            obtain ⟨e0, e1, e2, e3, e4, e5, e6, e7⟩ := cells8 hcs
            have hcon := HI.out v.l[i] (List.getElem_mem hlt) _ _ _ hrx
            have HC := Lib.hid hcon
            have HT := Lib.hid (dptL_take hlt)
            generalize dptL (v.l.take i) = q at *
            generalize dptv v.l[i] = c at *
            clear hcon hcs hrx
            unfold avv at HC
            go_wp2_with fail
            refine HC.out.mono ?_
            rintro e w2 ⟨rfl, g⟩
            by_cases hqc : q < c
            · have z2 : (q : Int) < (c : Int) := by omega
              go_wp2_with fail
              go_roundg (v.l.length - (i + 1))
              case measure => omega
              case rel => exact ⟨i + 1, by rw [HT.out]; congr 1; omega, by go_num, by omega, by omega, Lib.hid (G.out.trans g)⟩
            · have z2 : ¬ (q : Int) < (c : Int) := by omega
              go_wp2_with fail
              go_roundg (v.l.length - (i + 1))
              case measure => omega
              case rel => exact ⟨i + 1, by rw [HT.out]; congr 1; omega, by go_num, by omega, by omega, Lib.hid (G.out.trans g)⟩
          · have z1 : ¬ (i : Int) < (v.l.length : Int) := by omega
            have hq : v.l.take i = v.l := List.take_of_length_le (by omega)
            have hb := HB.out v.l.length
            rw [List.take_length] at hb
            rw [hq]
            clear hq
            obtain ⟨q, hq⟩ : ∃ q, q = dptL v.l := ⟨_, rfl⟩
            rw [← hq] at hb ⊢
            have HQ := Lib.hid hq
            clear hq
            go_wp2_with fail
            go_ret
            exact ⟨retIv (by have := HQ.out; omega), G0.out⟩
    · have e : dptv v = 1 := by rw [dpt_v]; unfold V.nest; rw [if_neg hk]; rfl
      rw [e]
      have b5 : (v.h.k != 5) = true := by simp; omega
      have b6 : (v.h.k != 6) = true := by simp; omega
      clear hr e hk hd ih
      unfold avv
      go_enter Tryz.func29, Tryz.ntmps29
      go_wp2_with fail
      go_ret
      exact ⟨rfl, Gr.alloc (Gr.refl w) _⟩
theorem rDepth_c (v : V) (h : dep v ≤ 1000000) : DepC 29 v := rDepth_n (dep v) h v (Nat.le_refl _)
end Go.Proofs.YtnenjgngahipdaaGreat
namespace Go.Proofs.YtnenjgngahipdaaGreat
open Go.RowKit Go.Sort
def DeC (k : Nat) (v : V) : Prop := ∀ (w : World) (it nm : Value), R w v it nm → Calls Tryz.prog 59 #[avv v.h it nm, .int .i64 (k : Int)] w fun e w' => e = .returned (.bool (decide (k < dptv v))) ∧ Gr w w'
set_option maxHeartbeats 800000 in
theorem deepC_c (k : Nat) (hk : k < 1000) (x : V) (ih : DeC k x) (bx : Nat) (w : World) (it nm : Value) (hr : R w x it nm) (hb : w.cell? ⟨bx, 0, none⟩ = some (.int .i64 ((k + 1 : Nat) : Int))) :
    Calls Tryz.prog 93 #[avv x.h it nm, .pointer (some ⟨bx, 0, none⟩)] w fun e w' => e = .returned (.bool (decide (k < dptv x))) ∧ Gr w w' := by
  obtain ⟨ai, ci, an, cn, rfl, rfl⟩ := r_slices hr
  have HC := Lib.hid (ih _ _ _ (hr.low (Gr.alloc (Gr.refl w) (.cells #[.int .i64 x.h.k, .bool x.h.b, .int .i64 x.h.n, .string x.h.s, .string x.h.t, .string x.h.i, .slice ai x.l.length ci, .slice an x.ns.length cn] 27)).low))
  have hb2 : ∀ X, (w.alloc X).cell? ⟨bx, 0, none⟩ = some (.int .i64 ((k : Int) + 1)) := fun X => (Gr.alloc (Gr.refl w) X).cell (by rw [hb]; simp)
  generalize decide (k < dptv x) = r at HC ⊢
  clear hr hb ih
  unfold avv at *
  go_enter Tryz.func93, Tryz.ntmps93
  go_wp2_with fail
  refine HC.out.mono ?_
  rintro e w1 ⟨rfl, g⟩
  go_wp2_with fail
  go_ret
  exact ⟨rfl, (Gr.alloc (Gr.refl w) _).trans g⟩
set_option maxHeartbeats 1600000 in
theorem deeper_n (k : Nat) (hk : k < 1000) : ∀ v : V, DeC k v := by
  induction k with
  | zero =>
    intro v w it nm hr
    obtain ⟨ai, ci, an, cn, rfl, rfl⟩ := r_slices hr
    have e : decide (0 < dptv v) = true := by rw [dpt_v]; simp
    rw [e]
    clear hr e hk
    unfold avv
    go_enter Tryz.func59, Tryz.ntmps59
    go_wp2_with fail
    go_ret
    exact ⟨rfl, Gr.alloc (Gr.alloc (Gr.refl w) _) _⟩
  | succ k ih =>
    intro v w it nm hr
    obtain ⟨ai, ci, an, cn, rfl, rfl⟩ := r_slices hr
    have e : decide (k + 1 < dptv v) = v.nest.any fun x => decide (k < dptv x) := by
      rw [dpt_v, Bool.eq_iff_iff]
      simp only [decide_eq_true_eq, List.any_eq_true]
      constructor
      · intro h
        rcases Classical.em (∃ x, x ∈ v.nest ∧ k < dptv x) with h1 | h1
        · exact h1
        · have : dptL v.nest ≤ k := dptL_le.2 fun x hx => by
            rcases Nat.lt_or_ge k (dptv x) with h2 | h2
            · exact absurd ⟨x, hx, h2⟩ h1
            · exact h2
          omega
      · rintro ⟨x, hx, h⟩
        have := (dptL_le (n := dptL v.nest)).1 (Nat.le_refl _) x hx
        omega
    have CN := Lib.hid fun W (h : Low w W) => nested_c v W _ _ (hr.low h)
    have CO := Lib.hid fun W ra (h : Ro W v.nest ra) (hb : W.cell? ⟨w.heap.size + 1, 0, none⟩ = some (.int .i64 ((k + 1 : Nat) : Int))) => conD_c (fun x => decide (k < dptv x)) (w.heap.size + 1) v.nest W (fun x hx w' hg it nm hr => deepC_c k (by omega) x (ih (by omega) x) _ w' it nm hr (hg.cell hb)) ra h
    rw [e]
    clear e ih hr
    generalize (v.nest.any fun x => decide (k < dptv x)) = r at CO ⊢
    obtain ⟨W, hW⟩ : ∃ W, W = (w.alloc (.cells #[.int .i64 v.h.k, .bool v.h.b, .int .i64 v.h.n, .string v.h.s, .string v.h.t, .string v.h.i, .slice ai v.l.length ci, .slice an v.ns.length cn] 27)).alloc (.cells #[.int .i64 ((k : Int) + 1)] 3) := ⟨_, rfl⟩
    have hg : Gr w W := hW ▸ Gr.alloc (Gr.alloc (Gr.refl w) _) _
    have hb : W.cell? ⟨w.heap.size + 1, 0, none⟩ = some (.int .i64 ((k : Int) + 1)) := by rw [hW]; simp [go_sem]
    unfold avv at *
    go_enter Tryz.func59, Tryz.ntmps59
    go_wp2_with fail
    rw [← hW]
    clear hW
    refine (CN.out _ hg.low).mono ?_
    rintro e w1 ⟨ra, rfl, pa, g⟩
    have hb1 := g.cell hb
    go_wp2_with fail
    refine (CO.out _ _ pa hb1).mono ?_
    rintro e w2 ⟨rfl, g2⟩
    go_wp2_with fail
    go_ret
    exact ⟨rfl, hg.trans (g.trans g2)⟩
theorem deeper_c (v : V) (w : World) (it nm : Value) (hr : R w v it nm) : Calls Tryz.prog 59 #[avv v.h it nm, .int .i64 50] w fun e w' => e = .returned (.bool (decide (50 < dptv v))) ∧ Gr w w' := deeper_n 50 (by decide) v w it nm hr
end Go.Proofs.YtnenjgngahipdaaGreat
namespace Go.Proofs.YtnenjgngahipdaaGreat
def cmpP (p q : ByteArray × V) : Int := cmpT p.1 q.1
theorem good_pair : Good cmpP fun _ => True := good_text.pull fun p : ByteArray × V => p.1
def recC (ns : List ByteArray) (m : List V) : Int × V :=
  if ns.Nodup then (0, .mk { hd0 with k := 6 } ((uniq cmpP (ns.zip m)).map (·.2)) ((uniq cmpP (ns.zip m)).map (·.1))) else (13, V0)
/-- No more than so many. -/
def limL (n : Nat) (p : Int × List V) : Int × List V := if p.1 = 0 then (if 4096 < n then (12, []) else p) else p
mutual
/-- A value as it must be: an error's number, or 0 and the value. -/
def can : V → Int × V
  | .mk h l ns =>
    if h.k = 1 then (0, .mk { hd0 with k := 1, b := h.b } [] [])
    else if h.k = 2 then (0, .mk { hd0 with k := 2, n := h.n } [] [])
    else if h.k = 3 then (0, .mk { hd0 with k := 3, s := h.s } [] [])
    else if h.k = 4 then (0, .mk { hd0 with k := 4, t := h.t, i := h.i } [] [])
    else if h.k = 5 then if (limL l.length (canK l)).1 = 0 then (0, .mk { hd0 with k := 5 } (uniq ord (limL l.length (canK l)).2) []) else ((limL l.length (canK l)).1, V0)
    else if h.k = 6 then if ns.length = l.length then (if (limL l.length (canK l)).1 = 0 then recC ns (limL l.length (canK l)).2 else ((limL l.length (canK l)).1, V0)) else (1, V0)
    else (1, V0)
/-- Items as they must be, up to the first error. -/
def canK : List V → Int × List V
  | [] => (0, [])
  | x :: l => if (can x).1 = 0 then (if (canK l).1 = 0 then (0, (can x).2 :: (canK l).2) else ((canK l).1, [])) else ((can x).1, [])
end
/-- Items as they must be, up to the first error; how many they are is asked last. -/
def canL (l : List V) : Int × List V := limL l.length (canK l)
theorem can_v (v : V) : can v =
    if v.h.k = 1 then (0, .mk { hd0 with k := 1, b := v.h.b } [] [])
    else if v.h.k = 2 then (0, .mk { hd0 with k := 2, n := v.h.n } [] [])
    else if v.h.k = 3 then (0, .mk { hd0 with k := 3, s := v.h.s } [] [])
    else if v.h.k = 4 then (0, .mk { hd0 with k := 4, t := v.h.t, i := v.h.i } [] [])
    else if v.h.k = 5 then if (canL v.l).1 = 0 then (0, .mk { hd0 with k := 5 } (uniq ord (canL v.l).2) []) else ((canL v.l).1, V0)
    else if v.h.k = 6 then if v.ns.length = v.l.length then (if (canL v.l).1 = 0 then recC v.ns (canL v.l).2 else ((canL v.l).1, V0)) else (1, V0)
    else (1, V0) := by cases v; rw [can]; rfl
theorem canK_ok : ∀ {l : List V}, (canK l).1 = 0 → (∀ x ∈ l, (can x).1 = 0) ∧ (canK l).2 = l.map fun x => (can x).2
  | [], _ => by simp [canK]
  | x :: l, h => by
    rw [canK] at h ⊢
    by_cases h1 : (can x).1 = 0
    · rw [if_pos h1] at h ⊢
      by_cases h2 : (canK l).1 = 0
      · rw [if_pos h2]
        obtain ⟨h3, h4⟩ := canK_ok h2
        exact ⟨fun y hy => by
          rcases List.mem_cons.1 hy with rfl | hy
          · exact h1
          · exact h3 y hy, by rw [List.map_cons, h4]⟩
      · rw [if_neg h2] at h; exact absurd h h2
    · rw [if_neg h1] at h; exact absurd h h1
theorem canK_of : ∀ {l : List V}, (∀ x ∈ l, (can x).1 = 0) → canK l = (0, l.map fun x => (can x).2)
  | [], _ => by simp [canK]
  | x :: l, h => by
    rw [canK, if_pos (h x (by simp)), canK_of fun y hy => h y (by simp [hy])]
    rfl
theorem canL_eq {l : List V} (h : (canL l).1 = 0) : (canK l).1 = 0 ∧ canL l = canK l ∧ l.length ≤ 4096 := by
  unfold canL limL at h ⊢
  by_cases h1 : (canK l).1 = 0
  · rw [if_pos h1] at h ⊢
    by_cases h2 : 4096 < l.length
    · rw [if_pos h2] at h; simp at h
    · rw [if_neg h2]; exact ⟨h1, rfl, by omega⟩
  · rw [if_neg h1] at h; exact absurd h h1
theorem canL_ok {l : List V} (h : (canL l).1 = 0) : (∀ x ∈ l, (can x).1 = 0) ∧ (canL l).2 = l.map fun x => (can x).2 := by
  obtain ⟨h1, h2, -⟩ := canL_eq h
  rw [h2]; exact canK_ok h1
theorem canL_of {l : List V} (hn : l.length ≤ 4096) (h : ∀ x ∈ l, (can x).1 = 0) : canL l = (0, l.map fun x => (can x).2) := by
  unfold canL limL
  rw [canK_of h, if_pos rfl, if_neg (by omega)]
theorem canL_long {l : List V} (hn : 4096 < l.length) (h : ∀ x ∈ l, (can x).1 = 0) : canL l = (12, []) := by
  unfold canL limL
  rw [canK_of h, if_pos rfl, if_pos hn]
theorem canL_len {l : List V} (h : (canL l).1 = 0) : (canL l).2.length = l.length := by rw [(canL_ok h).2, List.length_map]
theorem canL_le {l : List V} (h : (canL l).1 = 0) : l.length ≤ 4096 := (canL_eq h).2.2
mutual
/-- Only what a kind has. -/
def Cn : V → Prop
  | .mk h l ns => (h = { hd0 with k := 1, b := h.b } ∧ l = [] ∧ ns = []) ∨ (h = { hd0 with k := 2, n := h.n } ∧ l = [] ∧ ns = []) ∨ (h = { hd0 with k := 3, s := h.s } ∧ l = [] ∧ ns = []) ∨
      (h = { hd0 with k := 4, t := h.t, i := h.i } ∧ l = [] ∧ ns = []) ∨ (h = { hd0 with k := 5 } ∧ ns = [] ∧ CnL l) ∨ (h = { hd0 with k := 6 } ∧ ns.length = l.length ∧ CnL l)
def CnL : List V → Prop
  | [] => True
  | x :: l => Cn x ∧ CnL l
end
theorem cnL_iff {l : List V} : CnL l ↔ ∀ x ∈ l, Cn x := by
  induction l with
  | nil => simp [CnL]
  | cons y l ih => simp [CnL, ih]
theorem cn_v {v : V} : Cn v ↔ (v.h = { hd0 with k := 1, b := v.h.b } ∧ v.l = [] ∧ v.ns = []) ∨ (v.h = { hd0 with k := 2, n := v.h.n } ∧ v.l = [] ∧ v.ns = []) ∨ (v.h = { hd0 with k := 3, s := v.h.s } ∧ v.l = [] ∧ v.ns = []) ∨
      (v.h = { hd0 with k := 4, t := v.h.t, i := v.h.i } ∧ v.l = [] ∧ v.ns = []) ∨ (v.h = { hd0 with k := 5 } ∧ v.ns = [] ∧ ∀ x ∈ v.l, Cn x) ∨ (v.h = { hd0 with k := 6 } ∧ v.ns.length = v.l.length ∧ ∀ x ∈ v.l, Cn x) := by
  cases v; rw [Cn, cnL_iff]; rfl
theorem cn_named {v : V} (h : v.ns.length = v.l.length) : v.named = v.l := by unfold V.named; rw [h, Nat.min_self, List.take_length]
theorem v_ext {a b : V} (h1 : a.h = b.h) (h2 : a.l = b.l) (h3 : a.ns = b.ns) : a = b := by rw [a.eta, b.eta, h1, h2, h3]
theorem kd {h : Hd} {k : Int} {b : Bool} {n : Int} {s t i : ByteArray} (e : h = ⟨k, b, n, s, t, i⟩) : h.k = k := by rw [e]
/-- Values with only what a kind has, that are the same, are equal. -/
theorem ord_zero_n (n : Nat) : ∀ a b : V, dep a ≤ n → Cn a → Cn b → ord a b = 0 → a = b := by
  induction n with
  | zero => intro a b h; rw [dep_v] at h; omega
  | succ n ih =>
    intro a b hd ha hb h
    rw [ord_body, orI_zero] at h
    obtain ⟨h0, h1⟩ := h
    have hk := cmpI_zero h0
    have hL : (∀ x ∈ a.l, Cn x) → (∀ x ∈ b.l, Cn x) → ordL a.l b.l = 0 → a.l = b.l := fun h2 h3 h4 => by
      rw [ordL_lex] at h4
      have hS : ∀ x ∈ a.l, Cn x ∧ dep x ≤ n := fun x hx => ⟨h2 x hx, by have := dep_mem hx; rw [dep_v] at hd; omega⟩
      have : ∀ (l m : List V), (∀ x ∈ l, Cn x ∧ dep x ≤ n) → (∀ x ∈ m, Cn x) → lex ord l m = 0 → l = m := by
        intro l
        induction l with
        | nil => intro m _ _ h; cases m with
          | nil => rfl
          | cons y m => simp [lex] at h
        | cons x l ihl =>
          intro m hl hm h
          cases m with
          | nil => simp [lex] at h
          | cons y m =>
            rw [lex, orI_zero] at h
            rw [ih x y (hl x (by simp)).2 (hl x (by simp)).1 (hm y (by simp)) h.1, ihl m (fun z hz => hl z (by simp [hz])) (fun z hz => hm z (by simp [hz])) h.2]
      exact this _ _ hS h3 h4
    rw [cn_v] at ha hb
    rcases ha with ⟨ea, la, na⟩ | ⟨ea, la, na⟩ | ⟨ea, la, na⟩ | ⟨ea, la, na⟩ | ⟨ea, na, la⟩ | ⟨ea, na, la⟩ <;>
    rcases hb with ⟨eb, lb, nb⟩ | ⟨eb, lb, nb⟩ | ⟨eb, lb, nb⟩ | ⟨eb, lb, nb⟩ | ⟨eb, nb, lb⟩ | ⟨eb, nb, lb⟩ <;>
    have ka := kd ea <;> have kb := kd eb <;> (first | (exfalso; omega) | skip)
    · refine v_ext ?_ (la.trans lb.symm) (na.trans nb.symm)
      rw [ka] at h1
      have : a.h.b = b.h.b := cmpB_zero h1
      rw [ea, eb, this]
    · refine v_ext ?_ (la.trans lb.symm) (na.trans nb.symm)
      rw [ka] at h1
      have : a.h.n = b.h.n := cmpI_zero h1
      rw [ea, eb, this]
    · refine v_ext ?_ (la.trans lb.symm) (na.trans nb.symm)
      rw [ka] at h1
      have : a.h.s = b.h.s := cmpT_zero h1
      rw [ea, eb, this]
    · refine v_ext ?_ (la.trans lb.symm) (na.trans nb.symm)
      rw [ka] at h1
      have h2 : orI (cmpT a.h.t b.h.t) (cmpT a.h.i b.h.i) = 0 := h1
      rw [orI_zero] at h2
      rw [ea, eb, cmpT_zero h2.1, cmpT_zero h2.2]
    · rw [ka] at h1
      exact v_ext (ea.trans eb.symm) (hL la lb h1) (na.trans nb.symm)
    · rw [ka] at h1
      have h2 : orI (cmpN a.ns b.ns) (ordL a.named b.named) = 0 := h1
      rw [orI_zero, cn_named na, cn_named nb] at h2
      exact v_ext (ea.trans eb.symm) (hL la lb h2.2) (cmpN_zero h2.1)
theorem ord_zero {a b : V} (ha : Cn a) (hb : Cn b) (h : ord a b = 0) : a = b := ord_zero_n (dep a) a b (Nat.le_refl _) ha hb h
theorem good_cn : Good ord Cn := good_ord.mono fun _ _ => trivial
theorem mem_zip_snd {ns : List ByteArray} {m : List V} {p : ByteArray × V} (h : p ∈ ns.zip m) : p.2 ∈ m := (List.of_mem_zip h).2
theorem uniq_sub {α : Type} {c : α → α → Int} {z : α} : ∀ {l : List α}, z ∈ uniq c l → z ∈ l := by
  have gen : ∀ (l acc : List α), z ∈ l.foldl (fun acc x => ins c x acc) acc → z ∈ l ∨ z ∈ acc := by
    intro l
    induction l with
    | nil => intro acc h; exact .inr h
    | cons x l ih =>
      intro acc h
      rcases ih _ h with h | h
      · exact .inl (by simp [h])
      · rcases ins_sub h with rfl | h
        · exact .inl (by simp)
        · exact .inr h
  intro l h
  rcases gen l [] h with h | h
  · exact h
  · simp at h
theorem can_cn_n (n : Nat) : ∀ v : V, dep v ≤ n → (can v).1 = 0 → Cn (can v).2 := by
  induction n with
  | zero => intro v h; rw [dep_v] at h; omega
  | succ n ih =>
    intro v hd h
    have hI : (canL v.l).1 = 0 → ∀ x ∈ (canL v.l).2, Cn x := fun h0 x hx => by
      obtain ⟨h1, h2⟩ := canL_ok h0
      rw [h2] at hx
      obtain ⟨y, hy, rfl⟩ := List.mem_map.1 hx
      exact ih y (by have := dep_mem hy; rw [dep_v] at hd; omega) (h1 y hy)
    rw [can_v] at h ⊢
    by_cases k1 : v.h.k = 1
    · rw [if_pos k1]; rw [cn_v]; exact .inl ⟨rfl, rfl, rfl⟩
    rw [if_neg k1] at h ⊢
    by_cases k2 : v.h.k = 2
    · rw [if_pos k2]; rw [cn_v]; exact .inr (.inl ⟨rfl, rfl, rfl⟩)
    rw [if_neg k2] at h ⊢
    by_cases k3 : v.h.k = 3
    · rw [if_pos k3]; rw [cn_v]; exact .inr (.inr (.inl ⟨rfl, rfl, rfl⟩))
    rw [if_neg k3] at h ⊢
    by_cases k4 : v.h.k = 4
    · rw [if_pos k4]; rw [cn_v]; exact .inr (.inr (.inr (.inl ⟨rfl, rfl, rfl⟩)))
    rw [if_neg k4] at h ⊢
    by_cases k5 : v.h.k = 5
    · rw [if_pos k5] at h ⊢
      by_cases h0 : (canL v.l).1 = 0
      · rw [if_pos h0]
        rw [cn_v]
        exact .inr (.inr (.inr (.inr (.inl ⟨rfl, rfl, fun x hx => hI h0 x (uniq_sub hx)⟩))))
      · rw [if_neg h0] at h; exact absurd h h0
    rw [if_neg k5] at h ⊢
    by_cases k6 : v.h.k = 6
    · rw [if_pos k6] at h ⊢
      by_cases hn : v.ns.length = v.l.length
      · rw [if_pos hn] at h ⊢
        by_cases h0 : (canL v.l).1 = 0
        · rw [if_pos h0] at h ⊢
          unfold recC at h ⊢
          by_cases hd : v.ns.Nodup
          · rw [if_pos hd]
            rw [cn_v]
            refine .inr (.inr (.inr (.inr (.inr ⟨rfl, by simp [V.ns, V.l], fun x hx => ?_⟩))))
            obtain ⟨p, hp, rfl⟩ := List.mem_map.1 hx
            exact hI h0 _ (mem_zip_snd (uniq_sub hp))
          · rw [if_neg hd] at h; simp at h
        · rw [if_neg h0] at h; exact absurd h h0
      · rw [if_neg hn] at h; simp at h
    · rw [if_neg k6] at h; simp at h
theorem can_cn {v : V} (h : (can v).1 = 0) : Cn (can v).2 := can_cn_n (dep v) v (Nat.le_refl _) h
theorem canL_cn {l : List V} (h : (canL l).1 = 0) : ∀ x ∈ (canL l).2, Cn x := fun x hx => by
  obtain ⟨h1, h2⟩ := canL_ok h
  rw [h2] at hx
  obtain ⟨y, hy, rfl⟩ := List.mem_map.1 hx
  exact can_cn (h1 y hy)
end Go.Proofs.YtnenjgngahipdaaGreat
namespace Go.Proofs.YtnenjgngahipdaaGreat
open Go.RowKit Go.Sort
/-! ### Values in a row of the call's own -/
structure El where
  v : V
  ai : Option Addr
  ci : Nat
  an : Option Addr
  cn : Nat
def El.it (p : El) : Value := .slice p.ai p.v.l.length p.ci
def El.nm (p : El) : Value := .slice p.an p.v.ns.length p.cn
def encVv (p : El) : List Value := hdc p.v.h p.it p.nm
theorem encV_lenv (p : El) : (encVv p).length = 8 := rfl
theorem encV_onev (p : El) : ∀ u ∈ encVv p, u.oneCell' = true := by
  intro u hu
  simp only [encVv, hdc, El.it, El.nm, List.mem_cons, List.not_mem_nil, or_false] at hu
  rcases hu with rfl | rfl | rfl | rfl | rfl | rfl | rfl | rfl <;> rfl
def ElOk (A : Nat → Prop) (w : World) (p : El) : Prop := Rep A w p.v p.it p.nm
def OwnVv (B : Nat) (w : World) (v : Value) (ps : List El) : Prop := OwnR 27 8 encVv B w v ps
theorem v_infov : (Tryz.prog.info? 27).map (fun i => (i.zero, i.size, i.bytes)) = some (some (.agg #[.int .i64 0, .bool false, .int .i64 0, .string ⟨#[]⟩, .string ⟨#[]⟩, .string ⟨#[]⟩, .slice none 0 0, .slice none 0 0]), 8, 120) := by kernel_rfl
/-- Such a row is a row of values. -/
theorem ownV_row {B : Nat} {w : World} {v : Value} {ps : List El} {A A' : Nat → Prop} (h : OwnVv B w v ps) (hp : ∀ p ∈ ps, ElOk A w p) (hA : ∀ b, A b → A' b) (hv : ∀ g, v.ownBlock = some g → A' g) : RowAt A' w (ps.map (·.v)) v := by
  obtain ⟨ao, cap, rfl, h1, h2, h3⟩ := h.shape
  refine ⟨ao, cap, by rw [List.length_map], ⟨by rw [List.length_map]; exact h1, h2⟩, ?_⟩
  rcases h3 with h0 | ⟨g, rfl, hb, hg⟩
  · exact .inl (by rw [h0]; rfl)
  · refine .inr ⟨g, 0, rfl, hv g rfl, repF_of fun j hj => ?_⟩
    have hj' : j < ps.length := by simpa using hj
    refine ⟨ps[j].it, ps[j].nm, fun c u hu => ?_, ?_⟩
    · have hc : c < 8 := by have := (List.getElem?_eq_some_iff.1 hu).1; simpa [hdc] using this
      rw [Nat.zero_add, OwnR.cell encV_lenv h j c hj' hc]
      rw [List.getElem_map] at hu
      exact hu
    · rw [List.getElem_map]
      exact Rep.to (fun b ha _ => ⟨hA b ha, rfl⟩) _ (hp ps[j] (List.getElem_mem hj'))
end Go.Proofs.YtnenjgngahipdaaGreat
