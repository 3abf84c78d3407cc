/- A value as it must be, the reference's way: any value of no more than 20 items each. The reference's entity as it must be. Condition: its rows are short. Plain: a store of entities as they must be: what is above a name; the names that a climb reaches. No condition. Pairs of names as keys of a map: how one is laid as a value, and what it reads as. No condition. A store of entities in memory: its names, its entities by their names, and what is above those names that were climbed. No condition. family.Store.All: all entities, rising, in new memory. Condition: the store is of a list as it must be. Lists of entities: 'small' says that all of it is short. No condition. entity.Canon: a list of entities as it must be, or refused. Condition: no more than 300 entities, of no more than 300 parents each. -/
import Derived.Test.YtnchohglplobeaaGreatZRCanRq1
import Derived.Test.YtnchohglplobeaaGreatZg11
set_option linter.unusedVariables false
set_option linter.unusedSimpArgs false
set_option linter.unnecessarySimpa false
namespace Go.Proofs.YtnchohglplobeaaGreat
open Go.RowKit Go.Sort
theorem rcan_n (n : Nat) : ∀ v : V, dep v ≤ n → CanC 89 v := by
 induction n with
 | zero => intro v h; rw [dep_v] at h; omega
 | succ n ih =>
  intro v hd w it nm hr hsm
  obtain ⟨ai, ci, an, cn, rfl, rfl⟩ := r_slices hr
  obtain ⟨hb, hn, hl⟩ := rep_v.1 hr
  have hI : ∀ x ∈ v.l, CanC 89 x := fun x hx => ih x (by have := dep_mem hx; rw [dep_v] at hd; omega)
  rw [sm_v] at hsm
  obtain ⟨h1, h2, h3⟩ := hsm
  obtain ⟨⟨k, b, nn, s, t, i⟩, l, ns⟩ := v
  have hc := can_v (.mk ⟨k, b, nn, s, t, i⟩ l ns)
  rw [show (V.mk ⟨k, b, nn, s, t, i⟩ l ns).h.k = k from rfl, show (V.mk ⟨k, b, nn, s, t, i⟩ l ns).l = l from rfl, show (V.mk ⟨k, b, nn, s, t, i⟩ l ns).ns = ns from rfl] at hc
  simp only [V.h, V.l, V.ns] at hc hb hn hl hI h1 h2 h3 ⊢
  by_cases k1 : k = 1
  ·rw [if_pos k1] at hc
   rw [hc]
   subst k1
   exact rcan_1 b nn s t i l ns w ai an ci cn hb
  rw [if_neg k1] at hc
  by_cases k2 : k = 2
  ·rw [if_pos k2] at hc
   rw [hc]
   subst k2
   exact rcan_2 b nn s t i l ns w ai an ci cn hb
  rw [if_neg k2] at hc
  by_cases k3 : k = 3
  ·rw [if_pos k3] at hc
   rw [hc]
   subst k3
   exact rcan_3 b nn s t i l ns w ai an ci cn hb
  rw [if_neg k3] at hc
  by_cases k4 : k = 4
  ·rw [if_pos k4] at hc
   rw [hc]
   subst k4
   exact rcan_4 b nn s t i l ns w ai an ci cn hb
  rw [if_neg k4] at hc
  by_cases k5 : k = 5
  ·rw [if_pos k5] at hc
   rw [hc]
   subst k5
   exact rcanSet_c b nn s t i l ns w ai an ci cn hI ⟨h1, h3⟩ hl
  rw [if_neg k5] at hc
  by_cases k6 : k = 6
  ·rw [if_pos k6] at hc
   rw [hc]
   subst k6
   by_cases hlen : ns.length = l.length
   ·exact rcanRec_c b nn s t i l ns w ai an ci cn hI ⟨h1, h3⟩ h2 hn hlen hl
   ·rw [if_neg hlen]
    exact rcan_ne b nn s t i l ns w ai an ci cn (by omega)
  rw [if_neg k6] at hc
  rw [hc]
  by_cases hlo : k < 1
  ·exact rcan_lo k hlo b nn s t i l ns w ai an ci cn
  ·exact rcan_hi k (by omega) hlo b nn s t i l ns w ai an ci cn
theorem rcan_c (v : V) : CanC 89 v := rcan_n (dep v) v (Nat.le_refl _)
set_option maxHeartbeats 2000000 in
theorem rCanon_c (v : V) (w : World) (it nm : Value) (hr : R w v it nm) (hsm : Smv v) (hdp : dep v ≤ 1000000) : Calls Tryz.prog 46 #[avv v.h it nm] w (CanPost (canD v).2 (canD v).1 w) := by
 obtain ⟨ai, ci, an, cn, rfl, rfl⟩ := r_slices hr
 have LA := (Low.alloc (Low.alloc (Low.refl w) _) _ : Low w ((w.alloc (.cells #[.int .i64 v.h.k, .bool v.h.b, .int .i64 v.h.n, .string v.h.s, .string v.h.t, .string v.h.i, .slice ai v.l.length ci, .slice an v.ns.length cn] 27)).alloc (.cells #[.int .i64 0, .bool false, .int .i64 0, .string ⟨#[]⟩, .string ⟨#[]⟩, .string ⟨#[]⟩, .slice none 0 0, .slice none 0 0] 27)))
 have R0 := Lib.hid (res_new (w.alloc (.cells #[.int .i64 v.h.k, .bool v.h.b, .int .i64 v.h.n, .string v.h.s, .string v.h.t, .string v.h.i, .slice ai v.l.length ci, .slice an v.ns.length cn] 27)) 27)
 rw [show (w.alloc (.cells #[.int .i64 v.h.k, .bool v.h.b, .int .i64 v.h.n, .string v.h.s, .string v.h.t, .string v.h.i, .slice ai v.l.length ci, .slice an v.ns.length cn] 27)).heap.size = w.heap.size + 1 by simp] at R0
 have CD := Lib.hid (rDepth_c v hdp _ _ _ (hr.low LA))
 have CC := Lib.hid fun W (h : Low w W) => rcan_c v W _ _ (hr.low h) hsm
 have HL := Lib.hid LA
 clear hr LA hsm hdp
 unfold avv at *
 by_cases hd : 50 < dptv v
 ·have hq : canD v = (11, V0) := by unfold canD; rw [if_pos hd]
  have hb : (50 : Int) < (dptv v : Int) := by omega
  rw [hq]
  clear hq CC
  go_enter Tryz.func46, Tryz.ntmps46
  go_wp2_with fail
  refine CD.out.mono ?_
  rintro e w1 ⟨rfl, g⟩
  have RR := Lib.hid (R0.out.low g.low)
  obtain ⟨⟨c0, c1, c2, c3, c4, c5, c6, c7⟩, f0, f1, f2, f3, f4, f5, f6, f7⟩ := RR.out.facts
  go_wp2_with fail
  refine bodyPost_ret (v := .tuple #[.agg #[.int .i64 0, .bool false, .int .i64 0, .string ⟨#[]⟩, .string ⟨#[]⟩, .string ⟨#[]⟩, .slice none 0 0, .slice none 0 0], .int .i64 11]) (by simp [results, Tryz.results46, go_sem, World.cell?_setCell_same', c0, c1, c2, c3, c4, c5, c6, c7]; try rfl) rfl ?_
  have K8 := kept8 w1 (w.heap.size + 1) (.int .i64 0) (.bool false) (.int .i64 0) (.string ⟨#[]⟩) (.string ⟨#[]⟩) (.string ⟨#[]⟩) (.slice none 0 0) (.slice none 0 0)
  exact ⟨none, 0, none, 0, rfl, rep_V0 _ _, (HL.out.trans g.low).kept K8 fun g hg => by simp at hg; omega⟩
 ·have hq : canD v = can v := by unfold canD; rw [if_neg hd]
  have hb : ¬ (50 : Int) < (dptv v : Int) := by omega
  rw [hq]
  generalize can v = q at CC ⊢
  clear hq
  go_enter Tryz.func46, Tryz.ntmps46
  go_wp2_with fail
  refine CD.out.mono ?_
  rintro e w1 ⟨rfl, g⟩
  obtain ⟨b0, b1, b2, b3, b4, b5, b6, b7⟩ := gr_box ((Gr.alloc (Gr.refl _) (.cells #[.int .i64 0, .bool false, .int .i64 0, .string ⟨#[]⟩, .string ⟨#[]⟩, .string ⟨#[]⟩, .slice none 0 0, .slice none 0 0] 27)).trans g)
  have R1 := Lib.hid (R0.out.low g.low)
  have L1 := Lib.hid (HL.out.trans g.low)
  have LZ := Lib.hid g.size
  clear g
  go_wp2_with fail
  refine (CC.out _ L1.out).mono ?_
  rintro e w2 ⟨bi, di, bn, dn, rfl, hrep, hlow⟩
  have HR := Lib.hid hrep
  have HW := Lib.hid hlow
  have RR := Lib.hid (R1.out.low hlow)
  obtain ⟨⟨c0, c1, c2, c3, c4, c5, c6, c7⟩, f0, f1, f2, f3, f4, f5, f6, f7⟩ := RR.out.facts
  clear hrep hlow
  go_wp2_with fail
  refine bodyPost_ret (v := .tuple #[.agg #[.int .i64 q.2.h.k, .bool q.2.h.b, .int .i64 q.2.h.n, .string q.2.h.s, .string q.2.h.t, .string q.2.h.i, .slice bi q.2.l.length di, .slice bn q.2.ns.length dn], .int .i64 q.1]) (by simp [results, Tryz.results46, go_sem, World.cell?_setCell_same', c0, c1, c2, c3, c4, c5, c6, c7]; try rfl) rfl ?_
  have K8 := kept8 w2 (w.heap.size + 1) (.int .i64 q.2.h.k) (.bool q.2.h.b) (.int .i64 q.2.h.n) (.string q.2.h.s) (.string q.2.h.t) (.string q.2.h.i) (.slice bi q.2.l.length di) (.slice bn q.2.ns.length dn)
  have hz := LZ.out
  simp at hz
  refine ⟨bi, di, bn, dn, rfl, Rep.to (fun b hb hlt => ⟨?_, K8.2.2.2 b hlt ?_⟩) _ HR.out, (L1.out.trans HW.out).kept K8 fun g hg => by simp at hg; omega⟩
  ·omega
  ·simp; omega
end Go.Proofs.YtnchohglplobeaaGreat
namespace Go.Proofs.YtnchohglplobeaaGreat
open Go.RowKit Go.Sort Go.Maps
theorem findI_none {l : List Sh} {x : Us} (h : (fS l x).isSome = false) : findI l x = -1 := by
 unfold findI
 rw [if_neg]
 intro hi
 have := idx_at hi
 have h2 : (fS l l[idxS l x].u).isSome = true := idx_some hi
 rw [this, h] at h2
 simp at h2
theorem canU_step {ps : List Us} {i : Nat} (hi : i < ps.length) : canU (ps.take (i + 1)) = putS ps[i] (canU (ps.take i)) false := by
 rw [putS_ins (canU_rises _), List.take_succ_eq_append_getElem hi]
 unfold canU uniq
 rw [List.foldl_append]
 rfl
theorem canU_len (ps : List Us) : (canU ps).length ≤ ps.length := uniq_len ps
set_option maxHeartbeats 16000000 in
set_option maxRecDepth 100000 in
theorem rone_c (ls : List Sh) (names : List Us) (hnm : ∀ x, x ∈ names ↔ (fS ls x).isSome = true) (rl : Value) (u : Us) (ps : List Us) (v : V) (ap : Option Addr) (cp : Nat) (ai : Option Addr) (ci : Nat) (an : Option Addr) (cn : Nat) (w : World)
  (hL : EsAt w rl ls) (hP : UsAt w (.slice ap ps.length cp) ps) (hR : R w v (.slice ai v.l.length ci) (.slice an v.ns.length cn)) (hsm : Smv v) (hdp : dep v ≤ 1000000) (hps : ps.length ≤ 70000) :
  Calls Tryz.prog 28 #[rl, .agg #[.string u.t, .string u.i, .slice ap ps.length cp, .int .i64 v.h.k, .bool v.h.b, .int .i64 v.h.n, .string v.h.s, .string v.h.t, .string v.h.i, .slice ai v.l.length ci, .slice an v.ns.length cn]] w (CanEP names ⟨u, ps, v⟩ w) := by
 have L0 := (Low.alloc (Low.alloc (Low.alloc (Low.refl w) _) _) _ : Low w (((w.alloc (.cells #[.string u.t, .string u.i, .slice ap ps.length cp, .int .i64 v.h.k, .bool v.h.b, .int .i64 v.h.n, .string v.h.s, .string v.h.t, .string v.h.i, .slice ai v.l.length ci, .slice an v.ns.length cn] 72)).alloc (.cells #[.string ⟨#[]⟩, .string ⟨#[]⟩, .slice none 0 0, .int .i64 0, .bool false, .int .i64 0, .string ⟨#[]⟩, .string ⟨#[]⟩, .string ⟨#[]⟩, .slice none 0 0, .slice none 0 0] 72)).alloc (.cells #[.string u.t, .string u.i, .slice none 0 0, .int .i64 0, .bool false, .int .i64 0, .string ⟨#[]⟩, .string ⟨#[]⟩, .string ⟨#[]⟩, .slice none 0 0, .slice none 0 0] 72)))
 by_cases k6 : v.h.k = 6
 case neg =>
  have he : errE canD names ⟨u, ps, v⟩ = 1 := by unfold errE; rw [if_pos k6]
  have z6 : (v.h.k != 6) = true := by simpa using k6
  have HL := Lib.hid L0
  unfold CanEP
  rw [he]
  clear hP hR hsm hL hnm he L0 k6 hdp
  go_enter Tryz.func28, Tryz.ntmps28
  go_wp2_with fail
  refine bodyPost_ret (v := .tuple #[.agg #[.string u.t, .string u.i, .slice none 0 0, .int .i64 0, .bool false, .int .i64 0, .string ⟨#[]⟩, .string ⟨#[]⟩, .string ⟨#[]⟩, .slice none 0 0, .slice none 0 0], .int .i64 1]) (by simp [results, Tryz.results28, go_sem]; try rfl) rfl ?_
  refine ⟨⟨⟨u, [], V0⟩, none, 0, none, 0, none, 0⟩, rfl, ?_, fun h => by simp at h⟩
  exact Low.alloc (Low.alloc (Low.alloc (Low.refl w) _) _) _
 case pos =>
  have z6 : (v.h.k != 6) = false := by simpa using k6
  obtain ⟨c, x, hq⟩ : ∃ c x, canD v = (c, x) := ⟨_, _, rfl⟩
  have CN := rCanon_c v _ _ _ (hR.low L0) hsm hdp
  rw [hq] at CN
  have HC := Lib.hid (show Calls Tryz.prog 46 #[.agg #[.int .i64 v.h.k, .bool v.h.b, .int .i64 v.h.n, .string v.h.s, .string v.h.t, .string v.h.i, .slice ai v.l.length ci, .slice an v.ns.length cn]] (((w.alloc (.cells #[.string u.t, .string u.i, .slice ap ps.length cp, .int .i64 v.h.k, .bool v.h.b, .int .i64 v.h.n, .string v.h.s, .string v.h.t, .string v.h.i, .slice ai v.l.length ci, .slice an v.ns.length cn] 72)).alloc (.cells #[.string ⟨#[]⟩, .string ⟨#[]⟩, .slice none 0 0, .int .i64 0, .bool false, .int .i64 0, .string ⟨#[]⟩, .string ⟨#[]⟩, .string ⟨#[]⟩, .slice none 0 0, .slice none 0 0] 72)).alloc (.cells #[.string u.t, .string u.i, .slice none 0 0, .int .i64 0, .bool false, .int .i64 0, .string ⟨#[]⟩, .string ⟨#[]⟩, .string ⟨#[]⟩, .slice none 0 0, .slice none 0 0] 72)) (CanPost x c (((w.alloc (.cells #[.string u.t, .string u.i, .slice ap ps.length cp, .int .i64 v.h.k, .bool v.h.b, .int .i64 v.h.n, .string v.h.s, .string v.h.t, .string v.h.i, .slice ai v.l.length ci, .slice an v.ns.length cn] 72)).alloc (.cells #[.string ⟨#[]⟩, .string ⟨#[]⟩, .slice none 0 0, .int .i64 0, .bool false, .int .i64 0, .string ⟨#[]⟩, .string ⟨#[]⟩, .string ⟨#[]⟩, .slice none 0 0, .slice none 0 0] 72)).alloc (.cells #[.string u.t, .string u.i, .slice none 0 0, .int .i64 0, .bool false, .int .i64 0, .string ⟨#[]⟩, .string ⟨#[]⟩, .string ⟨#[]⟩, .slice none 0 0, .slice none 0 0] 72))) from CN)
  have he : errE canD names ⟨u, ps, v⟩ = if c ≠ 0 then c else if ps.all (fun p => decide (p ∈ names)) = true then 0 else 20 := by
   unfold errE
   rw [if_neg (by simpa using k6)]
   show (if (canD v).1 ≠ 0 then (canD v).1 else _) = _
   rw [hq]
  have ho : oneE canD ⟨u, ps, v⟩ = ⟨u, canU ps, x⟩ := by unfold oneE; rw [hq]
  have HE := Lib.hid he
  have HO := Lib.hid ho
  have HP := Lib.hid hP
  have HLS := Lib.hid hL
  have HN := Lib.hid hnm
  have HL := Lib.hid L0
  have HPS := Lib.hid hps
  have HN1 := Lib.hid (show (w.alloc (.cells #[.string u.t, .string u.i, .slice ap ps.length cp, .int .i64 v.h.k, .bool v.h.b, .int .i64 v.h.n, .string v.h.s, .string v.h.t, .string v.h.i, .slice ai v.l.length ci, .slice an v.ns.length cn] 72)).heap.size = w.heap.size + 1 by simp)
  have HN2 := Lib.hid (show ((w.alloc (.cells #[.string u.t, .string u.i, .slice ap ps.length cp, .int .i64 v.h.k, .bool v.h.b, .int .i64 v.h.n, .string v.h.s, .string v.h.t, .string v.h.i, .slice ai v.l.length ci, .slice an v.ns.length cn] 72)).alloc (.cells #[.string ⟨#[]⟩, .string ⟨#[]⟩, .slice none 0 0, .int .i64 0, .bool false, .int .i64 0, .string ⟨#[]⟩, .string ⟨#[]⟩, .string ⟨#[]⟩, .slice none 0 0, .slice none 0 0] 72)).heap.size = w.heap.size + 1 + 1 by simp)
  have HK6 := Lib.hid k6
  clear hP hR hsm hL hnm he ho L0 CN hq hps hdp k6
  unfold CanEP
  go_enter Tryz.func28, Tryz.ntmps28
  go_wp2_with fail
  refine HC.out.mono ?_
  rintro e w1 ⟨bi, di, bn, dn, rfl, hrep, hlow⟩
  have HR := Lib.hid hrep
  have HL1 := Lib.hid hlow
  have BO := Lib.hid (BoxAtv.new (w.heap.size + 1 + 1) hlow (cs := [.string u.t, .string u.i, .slice none 0 0, .int .i64 0, .bool false, .int .i64 0, .string ⟨#[]⟩, .string ⟨#[]⟩, .string ⟨#[]⟩, .slice none 0 0, .slice none 0 0]) rfl HN2.out)
  have BZ := Lib.hid (BoxAtv.new (w.heap.size + 1) ((Low.alloc (Low.refl _) _).trans hlow) (cs := zE) rfl HN1.out)
  have BE := Lib.hid (BoxAtv.new w.heap.size ((Low.alloc (Low.alloc (Low.refl _) _) _).trans hlow) (cs := [.string u.t, .string u.i, .slice ap ps.length cp, .int .i64 v.h.k, .bool v.h.b, .int .i64 v.h.n, .string v.h.s, .string v.h.t, .string v.h.i, .slice ai v.l.length ci, .slice an v.ns.length cn]) rfl rfl)
  clear hrep hlow HC
  obtain ⟨W1, hW1⟩ : ∃ W, W = w1.alloc (.cells #[.int .i64 x.h.k, .bool x.h.b, .int .i64 x.h.n, .string x.h.s, .string x.h.t, .string x.h.i, .slice bi x.l.length di, .slice bn x.ns.length dn] 27) := ⟨_, rfl⟩
  have HW1 := Lib.hid hW1
  have LW := Lib.hid (show Low w1 W1 from hW1 ▸ Low.alloc (Low.refl w1) _)
  have HX := Lib.hid (show BoxAtv W1 w1.heap.size [.int .i64 x.h.k, .bool x.h.b, .int .i64 x.h.n, .string x.h.s, .string x.h.t, .string x.h.i, .slice bi x.l.length di, .slice bn x.ns.length dn] from hW1 ▸ BoxAtv.new w1.heap.size (Low.refl (w1.alloc (.cells #[.int .i64 x.h.k, .bool x.h.b, .int .i64 x.h.n, .string x.h.s, .string x.h.t, .string x.h.i, .slice bi x.l.length di, .slice bn x.ns.length dn] 27))) rfl rfl)
  have BO1 := Lib.hid (BO.out.low LW.out)
  have BZ1 := Lib.hid (BZ.out.low LW.out)
  have BE1 := Lib.hid (BE.out.low LW.out)
  have HS1 := Lib.hid (show w.heap.size + 1 + 1 < w1.heap.size from BO.out.lt)
  have LB := Lib.hid ((HL.out.trans HL1.out).trans LW.out)
  clear hW1 BO BZ BE
  by_cases h0 : c = 0
  case neg =>
   have zc : (c != 0) = true := by simpa using h0
   obtain ⟨c0, c1, c2, c3, c4, c5, c6, c7, c8, c9, c10⟩ := BZ1.out.at11
   obtain ⟨f0, f1, f2, f3, f4, f5, f6, f7, f8, f9, f10⟩ := BZ1.out.op11
   obtain ⟨o0, o1, o2, o3, o4, o5, o6, o7, o8, o9, o10⟩ := BO1.out.at11
   have HH := Lib.hid h0
   clear h0
   go_upto_region 5 with fail
   rw [← HW1.out]
   clear HW1
   go_wp2_with fail
   refine bodyPost_ret (v := .tuple #[.agg #[.string u.t, .string u.i, .slice none 0 0, .int .i64 0, .bool false, .int .i64 0, .string ⟨#[]⟩, .string ⟨#[]⟩, .string ⟨#[]⟩, .slice none 0 0, .slice none 0 0], .int .i64 c]) (by simp [results, Tryz.results28, go_sem, World.cell?_setCell_same', c0, c1, c2, c3, c4, c5, c6, c7, c8, c9, c10]; try rfl) rfl ?_
   have hee : errE canD names ⟨u, ps, v⟩ = c := by rw [HE.out, if_pos HH.out]
   exact ⟨⟨⟨u, [], V0⟩, none, 0, none, 0, none, 0⟩, by rw [hee]; rfl, low_allv LB.out (Nat.le_succ _) (kept11 _ _ _ _ _ _ _ _ _ _ _ _ _), fun h => absurd (hee ▸ h) HH.out⟩
  case pos =>
   subst h0
   have HE0 := Lib.hid (show ps.all (fun p => decide (p ∈ names)) = true → errE canD names ⟨u, ps, v⟩ = 0 from fun h => by rw [HE.out]; simp [h])
   have HE1 := Lib.hid (show ¬ ps.all (fun p => decide (p ∈ names)) = true → errE canD names ⟨u, ps, v⟩ = 20 from fun h => by rw [HE.out]; simp [h])
   obtain ⟨W2, hW2⟩ : ∃ W, W = ((((((((W1.setCell ⟨w.heap.size + 1 + 1, 3, none⟩ (.int .i64 x.h.k)).setCell ⟨w.heap.size + 1 + 1, 4, none⟩ (.bool x.h.b)).setCell ⟨w.heap.size + 1 + 1, 5, none⟩ (.int .i64 x.h.n)).setCell ⟨w.heap.size + 1 + 1, 6, none⟩ (.string x.h.s)).setCell ⟨w.heap.size + 1 + 1, 7, none⟩ (.string x.h.t)).setCell ⟨w.heap.size + 1 + 1, 8, none⟩ (.string x.h.i)).setCell ⟨w.heap.size + 1 + 1, 9, none⟩ (.slice bi x.l.length di)).setCell ⟨w.heap.size + 1 + 1, 10, none⟩ (.slice bn x.ns.length dn)) := ⟨_, rfl⟩
   have HW2 := Lib.hid hW2
   have K12 := Lib.hid (show KeptButv W1 W2 (some (w.heap.size + 1 + 1)) from hW2 ▸ (kept_setCellv _ _ _ _).trans ((kept_setCellv _ _ _ _).trans ((kept_setCellv _ _ _ _).trans ((kept_setCellv _ _ _ _).trans ((kept_setCellv _ _ _ _).trans ((kept_setCellv _ _ _ _).trans ((kept_setCellv _ _ _ _).trans (kept_setCellv _ _ _ _))))))))
   have BO2 := Lib.hid (show BoxAtv W2 (w.heap.size + 1 + 1) [.string u.t, .string u.i, .slice none 0 0, .int .i64 x.h.k, .bool x.h.b, .int .i64 x.h.n, .string x.h.s, .string x.h.t, .string x.h.i, .slice bi x.l.length di, .slice bn x.ns.length dn] from hW2 ▸ (((((((BO1.out.put 3 _).put 4 _).put 5 _).put 6 _).put 7 _).put 8 _).put 9 _).put 10 _)
   have BZ2 := Lib.hid (BZ1.out.kept K12.out (by simp))
   have BE2 := Lib.hid (BE1.out.kept K12.out (by simp; omega))
   have L2 := Lib.hid (LB.out.kept K12.out fun g hg => by simp at hg; omega)
   obtain ⟨x0, x1, x2, x3, x4, x5, x6, x7⟩ := HX.out.at8
   obtain ⟨o0, o1, o2, o3, o4, o5, o6, o7, o8, o9, o10⟩ := BO1.out.at11
   obtain ⟨f0, f1, f2, f3, f4, f5, f6, f7, f8, f9, f10⟩ := BO1.out.op11
   have HRX := Lib.hid (show Rep (fun b => w.heap.size + 1 + 1 < b ∧ b < w1.heap.size) W2 x (.slice bi x.l.length di) (.slice bn x.ns.length dn) from Rep.to (fun b ha hb => by
    simp at ha
    have h1 := LW.out.size
    exact ⟨⟨by omega, hb⟩, (K12.out.2.2.2 b (by omega) (by simp; omega)).trans (LW.out.2.2.2 b hb)⟩) _ HR.out)
   have HSW := Lib.hid (show w1.heap.size ≤ W2.heap.size from Nat.le_trans LW.out.size K12.out.2.2.1)
   clear hW2 HE
   go_upto_region 7 with fail
   rw [← HW1.out]
   clear HW1
   go_upto_region 8 with fail
   rw [← HW2.out]
   clear HW2 x0 x1 x2 x3 x4 x5 x6 x7 o0 o1 o2 o3 o4 o5 o6 o7 o8 o9 o10 f0 f1 f2 f3 f4 f5 f6 f7 f8 f9 f10
   go_wp2_with fail
   obtain ⟨ap9, cp9, hv9, ⟨hl1, hl2⟩, hx9⟩ := HP.out
   simp only [Value.slice.injEq] at hv9
   obtain ⟨rfl, -, rfl⟩ := hv9
   have HX9 := Lib.hid hx9
   clear hx9
   go_loopg [9] ps.length (fun gk vi wr => ∃ (i : Nat) (ao : Option Addr) (ca : Nat) (rs : List Us), vi = .int .i64 (i : Int) ∧ i ≤ ps.length ∧ ps.length - i ≤ gk ∧ Hid (Low w wr) ∧ Hid (BoxAtv wr w.heap.size [.string u.t, .string u.i, .slice ap ps.length cp, .int .i64 v.h.k, .bool v.h.b, .int .i64 v.h.n, .string v.h.s, .string v.h.t, .string v.h.i, .slice ai v.l.length ci, .slice an v.ns.length cn]) ∧ Hid (BoxAtv wr (w.heap.size + 1) zE) ∧ Hid (BoxAtv wr (w.heap.size + 1 + 1) [.string u.t, .string u.i, .slice ao rs.length ca, .int .i64 x.h.k, .bool x.h.b, .int .i64 x.h.n, .string x.h.s, .string x.h.t, .string x.h.i, .slice bi x.l.length di, .slice bn x.ns.length dn]) ∧ Hid (OwnU w1.heap.size wr (.slice ao rs.length ca) rs) ∧ Hid (rs = canU (ps.take i)) ∧ Hid (Rep (fun b => w.heap.size + 1 + 1 < b ∧ b < w1.heap.size) wr x (.slice bi x.l.length di) (.slice bn x.ns.length dn)) ∧ Hid (∀ p ∈ ps.take i, p ∈ names) ∧ w1.heap.size ≤ wr.heap.size)
   case atStart => exact ⟨0, none, 0, [], rfl, Nat.zero_le _, Nat.le_refl _, L2, BE2, BZ2, BO2, Lib.hid (OwnR.nil _ _ _ _ _), Lib.hid rfl, HRX, Lib.hid fun p hp => by simp at hp, HSW.out⟩
   case round =>
    clear L2 BE2 BZ2 BO2 HRX HSW K12
    obtain ⟨i, ao, ca, rs, rfl, hi, hg, G, GE, GZ, GO, O, KR, RX, KN, hsw⟩ := hrel
    have e2 : wr.cell? ⟨w.heap.size, 2, none⟩ = some (.slice ap ps.length cp) := GE.out.at 2 _ rfl
    by_cases hlt : i < ps.length
    ·have zl : (i : Int) < (ps.length : Int) := by omega
     obtain ⟨pb, po, rfl, hcs⟩ := HX9.out i hlt
     obtain ⟨d0, d1⟩ := cells2 (G.out.cells hcs)
     have hcu := canU_step hlt
     obtain ⟨p, hp⟩ : ∃ p, ps[i] = p := ⟨_, rfl⟩
     rw [hp] at d0 d1 hcu hcs
     have HT := Lib.hid (show ps.take (i + 1) = ps.take i ++ [p] by rw [← hp, List.take_succ_eq_append_getElem hlt])
     have HPM := Lib.hid (show p ∈ ps from hp ▸ List.getElem_mem hlt)
     have HCU := Lib.hid hcu
     have HCS := Lib.hid hcs
     have hfi := find_c ls p wr rl (HLS.out.low G.out)
     unfold usV at hfi
     have HRL := Lib.hid (show rs.length ≤ 70000 by have h1 := canU_len (ps.take i); have h2 := HPS.out; rw [← KR.out, List.length_take] at h1; omega)
     cases hq : (fS ls p).isSome with
     | false =>
      rw [findI_none hq] at hfi
      have HF := Lib.hid hfi
      have HQ := Lib.hid hq
      clear hfi hq hcs hp hcu
      go_wp2_with fail
      refine HF.out.mono ?_
      rintro e w3 ⟨rfl, l3⟩
      have L3 := Lib.hid (G.out.trans l3)
      obtain ⟨c0, c1, c2, c3, c4, c5, c6, c7, c8, c9, c10⟩ := (GZ.out.low l3).at11
      obtain ⟨f0, f1, f2, f3, f4, f5, f6, f7, f8, f9, f10⟩ := (GZ.out.low l3).op11
      obtain ⟨o0, o1, o2, o3, o4, o5, o6, o7, o8, o9, o10⟩ := (GO.out.low l3).at11
      clear l3 d0 d1 e2
      go_wp2_with fail
      refine bodyPost_ret (v := .tuple #[.agg #[.string u.t, .string u.i, .slice ao rs.length ca, .int .i64 x.h.k, .bool x.h.b, .int .i64 x.h.n, .string x.h.s, .string x.h.t, .string x.h.i, .slice bi x.l.length di, .slice bn x.ns.length dn], .int .i64 20]) (by simp [results, Tryz.results28, go_sem, World.cell?_setCell_same', c0, c1, c2, c3, c4, c5, c6, c7, c8, c9, c10]; try rfl) rfl ?_
      have hee : errE canD names ⟨u, ps, v⟩ = 20 := HE1.out fun h => by
       have := List.all_eq_true.1 h p HPM.out
       simp at this
       have := (HN.out p).1 this
       rw [HQ.out] at this
       simp at this
      exact ⟨⟨⟨u, rs, x⟩, ao, ca, bi, di, bn, dn⟩, by rw [hee], low_allv L3.out (Nat.le_succ _) (kept11 _ _ _ _ _ _ _ _ _ _ _ _ _), fun h => by rw [hee] at h; simp at h⟩
     | true =>
      have HQ := Lib.hid hq
      have hfz : ¬ findI ls p < 0 := by rw [findI_idx hq]; omega
      obtain ⟨fi, hfe⟩ : ∃ fi, findI ls p = fi := ⟨_, rfl⟩
      rw [hfe] at hfi hfz
      have zf : 0 ≤ fi := by omega
      have zfd : decide (fi < 0) = false := by simp; omega
      have HF := Lib.hid hfi
      clear hfi hq hcs hp hcu hfe hfz
      go_wp2_with fail
      refine HF.out.mono ?_
      rintro e w3 ⟨rfl, l3⟩
      have GE3 := Lib.hid (GE.out.low l3)
      have GZ3 := Lib.hid (GZ.out.low l3)
      have GO3 := Lib.hid (GO.out.low l3)
      have O3 := Lib.hid (OwnR.low O.out l3)
      have L3 := Lib.hid (G.out.trans l3)
      have RX3 := Lib.hid (Rep.low RX.out l3)
      have hsw3 : w1.heap.size ≤ w3.heap.size := Nat.le_trans hsw l3.size
      clear l3 d0 d1 e2
      have e2 : w3.cell? ⟨w.heap.size, 2, none⟩ = some (.slice (some ⟨pb, po, none⟩) ps.length cp) := GE3.out.at 2 _ rfl
      have o2 : w3.cell? ⟨w.heap.size + 1 + 1, 2, none⟩ = some (.slice ao rs.length ca) := GO3.out.at 2 _ rfl
      obtain ⟨d0, d1⟩ := cells2 (L3.out.cells HCS.out)
      have D3 := Lib.hid (show Low w3 w3.drew from Low.drewN w3 1)
      have hrs2 : putS p rs false = canU (ps.take (i + 1)) := by rw [KR.out, HCU.out]
      have HPC := Lib.hid (show Calls Tryz.prog 47 #[.slice ao rs.length ca, .agg #[.string p.t, .string p.i]] w3.drew (ClnP (canU (ps.take (i + 1))) w3.drew) by rw [← hrs2]; exact rput_c rs p w3.drew _ HRL.out (OwnR.usIn (A := fun _ => True) (OwnR.low O3.out D3.out) fun _ _ => trivial).any)
      clear hrs2
      go_wp2_with fail
      go_region_law (first
       | (go_simp; go_at_call 47; (refine HPC.out.mono ?_); rintro e w4 ⟨v4, rfl, O4, l4⟩; obtain ⟨ao4, cp4, rfl, -, -, -⟩ := OwnR.shape O4; have L34 := Lib.hid (D3.out.trans l4); have HO4 := Lib.hid (show OwnU _ _ _ _ from O4); obtain ⟨n4, hn4⟩ : ∃ m, m = (canU (ps.take (i + 1))).length := ⟨_, rfl⟩; rw [← hn4]; have HN4 := Lib.hid hn4; clear hn4; have o2 : w4.cell? ⟨w.heap.size + 1 + 1, 2, none⟩ = some (.slice ao rs.length ca) := (GO3.out.low L34.out).at 2 _ rfl; have q2 : w4.frozen? ⟨w.heap.size + 1 + 1, 2, none⟩ = false := (GO3.out.low L34.out).open' 2; clear O4 l4))
      all_goals
       obtain ⟨W5, hW5⟩ : ∃ W, W = w4.setCell ⟨w.heap.size + 1 + 1, 2, none⟩ (.slice ao4 n4 cp4) := ⟨_, rfl⟩
       have K45 := Lib.hid (show KeptButv w4 W5 (some (w.heap.size + 1 + 1)) from hW5 ▸ kept_setCellv _ _ _ _)
       have GO5 := Lib.hid (show BoxAtv W5 (w.heap.size + 1 + 1) [.string u.t, .string u.i, .slice ao4 (canU (ps.take (i + 1))).length cp4, .int .i64 x.h.k, .bool x.h.b, .int .i64 x.h.n, .string x.h.s, .string x.h.t, .string x.h.i, .slice bi x.l.length di, .slice bn x.ns.length dn] from by rw [← HN4.out]; exact hW5 ▸ (GO3.out.low L34.out).put 2 _)
       have GE5 := Lib.hid ((GE3.out.low L34.out).kept K45.out (by simp; omega))
       have GZ5 := Lib.hid ((GZ3.out.low L34.out).kept K45.out (by simp))
       have L5 := Lib.hid ((L3.out.trans L34.out).kept K45.out fun g hg => by simp at hg; omega)
       have hs3 := HS1.out
       have hs4 := L34.out.size
       have hs5 := K45.out.2.2.1
       have RX5 := Lib.hid (show Rep (fun b => w.heap.size + 1 + 1 < b ∧ b < w1.heap.size) W5 x (.slice bi x.l.length di) (.slice bn x.ns.length dn) from Rep.to (fun b ha hb => ⟨ha, (K45.out.2.2.2 b (by omega) (by simp; omega)).trans (L34.out.2.2.2 b hb)⟩) _ RX3.out)
       have O5 := Lib.hid (show OwnU w1.heap.size W5 (.slice ao4 (canU (ps.take (i + 1))).length cp4) (canU (ps.take (i + 1))) from OwnR.to (OwnR.base HO4.out (Nat.le_trans hsw3 D3.out.size)) fun g hg => K45.out.2.2.2 g (World.ownsRow.lt HO4.out g hg).2 (fun e => by simp at e; have h1 := (World.ownsRow.lt HO4.out g hg).1; have h2 := D3.out.size; omega))
       rw [← hW5]
       clear hW5 o2 q2 e2 d0 d1
       go_wp2_with fail
       go_roundg (ps.length - (i + 1))
       case measure => omega
       case rel =>
        refine ⟨i + 1, ao4, cp4, canU (ps.take (i + 1)), by go_num, by omega, by omega, L5, GE5, GZ5, GO5, O5, Lib.hid rfl, RX5, Lib.hid ?_, by omega⟩
        rw [HT.out]
        intro z hz
        rcases List.mem_append.1 hz with h | h
        ·exact KN.out z h
        ·simp at h; rw [h]; exact (HN.out p).2 HQ.out
    ·have zl : ¬ (i : Int) < (ps.length : Int) := by omega
     have hil : i = ps.length := by omega
     have hall : ps.all (fun p => decide (p ∈ names)) = true := List.all_eq_true.2 fun p hp => by
      simp
      exact KN.out p (by rw [hil, List.take_length]; exact hp)
     have hee := Lib.hid (HE0.out hall)
     have hrs := Lib.hid (show rs = canU ps by rw [KR.out, hil, List.take_length])
     clear hall hil
     obtain ⟨c0, c1, c2, c3, c4, c5, c6, c7, c8, c9, c10⟩ := GZ.out.at11
     obtain ⟨f0, f1, f2, f3, f4, f5, f6, f7, f8, f9, f10⟩ := GZ.out.op11
     obtain ⟨o0, o1, o2, o3, o4, o5, o6, o7, o8, o9, o10⟩ := GO.out.at11
     go_wp2_with fail
     refine bodyPost_ret (v := .tuple #[.agg #[.string u.t, .string u.i, .slice ao rs.length ca, .int .i64 x.h.k, .bool x.h.b, .int .i64 x.h.n, .string x.h.s, .string x.h.t, .string x.h.i, .slice bi x.l.length di, .slice bn x.ns.length dn], .int .i64 0]) (by simp [results, Tryz.results28, go_sem, World.cell?_setCell_same', c0, c1, c2, c3, c4, c5, c6, c7, c8, c9, c10]; try rfl) rfl ?_
     have K11 : KeptButv wr _ (some (w.heap.size + 1)) := kept11 wr (w.heap.size + 1) (.string u.t) (.string u.i) (.slice ao rs.length ca) (.int .i64 x.h.k) (.bool x.h.b) (.int .i64 x.h.n) (.string x.h.s) (.string x.h.t) (.string x.h.i) (.slice bi x.l.length di) (.slice bn x.ns.length dn)
     have hs1 := HS1.out
     refine ⟨⟨⟨u, rs, x⟩, ao, ca, bi, di, bn, dn⟩, by rw [hee.out], low_allv G.out (Nat.le_succ _) K11, fun _ => ⟨?_, ?_, ?_⟩⟩
     ·rw [HO.out, hrs.out]
     ·exact UsIn.to (fun b ha hb => ⟨by omega, K11.2.2.2 b hb (by simp; omega)⟩) (OwnR.usIn (A := fun b => w1.heap.size ≤ b) O.out fun g hg => (World.ownsRow.lt O.out g hg).1)
     ·exact Rep.to (fun b ha hb => ⟨by omega, K11.2.2.2 b hb (by simp; omega)⟩) _ RX.out
end Go.Proofs.YtnchohglplobeaaGreat
namespace Go.Proofs.YtnchohglplobeaaGreat
theorem canE_closed {f : V → Int × V} {l : List En} (h : (canE f l).1 = 0) : Closed (canE f l).2 ∧ ¬ RoundE (canE f l).2 ∧ Rises cmpE (canE f l).2 := by
 obtain ⟨-, hn, he, hr⟩ := canE_ok.1 h
 rw [canE_val h]
 have hn' : (namesE (l.map (oneE f))).Nodup := by rw [names_one]; exact hn
 have hmem : ∀ z, z ∈ uniq cmpE (l.map (oneE f)) ↔ z ∈ l.map (oneE f) := fun z => mem_en hn'
 have hnm : ∀ x, x ∈ namesE (uniq cmpE (l.map (oneE f))) ↔ x ∈ namesE l := fun x => by
  rw [← names_one (c := f) l]
  unfold namesE
  simp only [List.mem_map]
  constructor
  ·rintro ⟨z, hz, rfl⟩
   obtain ⟨e, he, rfl⟩ := List.mem_map.1 ((hmem z).1 hz)
   exact ⟨_, ⟨e, he, rfl⟩, rfl⟩
  ·rintro ⟨z, ⟨e, he, rfl⟩, rfl⟩
   exact ⟨_, (hmem _).2 (List.mem_map.2 ⟨e, he, rfl⟩), rfl⟩
 refine ⟨fun e hz p hp => ?_, fun ⟨x, hx⟩ => hr ⟨x, hx.mono fun a b hs => ?_⟩, rise_en hn'⟩
 ·obtain ⟨d, hd, rfl⟩ := List.mem_map.1 ((hmem e).1 hz)
  have hp2 : p ∈ d.ps := mem_canU.1 hp
  have h0 := he d hd
  unfold errE at h0
  by_cases k1 : d.a.h.k ≠ 6
  ·rw [if_pos k1] at h0; exact absurd h0 (by decide)
  ·rw [if_neg k1] at h0
   by_cases k2 : (f d.a).1 ≠ 0
   ·rw [if_pos k2] at h0; exact absurd h0 k2
   ·rw [if_neg k2] at h0
    by_cases k3 : d.ps.all (fun p => decide (p ∈ namesE l)) = true
    ·rw [List.all_eq_true] at k3
     have := k3 p hp2
     simp at this
     exact (hnm p).2 this
    ·rw [if_neg k3] at h0; exact absurd h0 (by decide)
 ·obtain ⟨h1, h2, h3⟩ := hs
  obtain ⟨e, hz, rfl, hy⟩ := PE_mem h2
  obtain ⟨d, hd, rfl⟩ := List.mem_map.1 ((hmem e).1 hz)
  refine ⟨(hnm _).1 h1, ?_, (hnm _).1 h3⟩
  show b ∈ PE l d.u
  rw [PE_of hn hd]
  exact mem_canU.1 hy
end Go.Proofs.YtnchohglplobeaaGreat
namespace Go.Proofs.YtnchohglplobeaaGreat
open Go.RowKit Go.Maps
theorem abF_nil : abF [] = fun _ => none := by
 funext x
 simp [abF]
end Go.Proofs.YtnchohglplobeaaGreat
namespace Go.Proofs.YtnchohglplobeaaGreat
open Go.RowKit Go.Sort Go.Maps
theorem enF_more {qs : List Ee} {q : Ee} (h : q.e.u ∉ namesE (ensOf qs)) : enF (qs ++ [q]) = updF (enF qs) q.e.u (some q.val) := by
 have h0 : fstQ qs q.e.u = none := by
  have := fstQ_there qs q.e.u
  rw [decide_eq_false h] at this
  cases e : fstQ qs q.e.u with
  | none => rfl
  | some z => rw [e] at this; simp at this
 funext x
 unfold updF enF fstQ
 rw [List.find?_append]
 by_cases e : x = q.e.u
 ·subst e
  unfold fstQ at h0
  rw [if_pos rfl, h0]; simp
 ·rw [if_neg e]
  cases qs.find? (fun q => decide (q.e.u = x)) with
  | some z => simp
  | none => simp [Ne.symm e]
end Go.Proofs.YtnchohglplobeaaGreat
namespace Go.Proofs.YtnchohglplobeaaGreat
open Go.RowKit Go.Sort Go.Maps
theorem size_alloc9 (w : World) (o : Obj) : (w.alloc o).heap.size = w.heap.size + 1 := by simp
end Go.Proofs.YtnchohglplobeaaGreat
namespace Go.Proofs.YtnchohglplobeaaGreat
open Go.RowKit Go.Sort
theorem ee11 {w : World} {b o : Nat} {q : Ee} (h : CellsAtv w b o q.sh.cs) :
  w.cell? ⟨b, o, none⟩ = some (.string q.e.u.t) ∧ w.cell? ⟨b, o + 1, none⟩ = some (.string q.e.u.i) ∧ w.cell? ⟨b, o + 2, none⟩ = some (.slice q.ap q.e.ps.length q.cp) ∧ w.cell? ⟨b, o + 3, none⟩ = some (.int .i64 q.e.a.h.k) ∧
  w.cell? ⟨b, o + 4, none⟩ = some (.bool q.e.a.h.b) ∧ w.cell? ⟨b, o + 5, none⟩ = some (.int .i64 q.e.a.h.n) ∧ w.cell? ⟨b, o + 6, none⟩ = some (.string q.e.a.h.s) ∧ w.cell? ⟨b, o + 7, none⟩ = some (.string q.e.a.h.t) ∧
  w.cell? ⟨b, o + 8, none⟩ = some (.string q.e.a.h.i) ∧ w.cell? ⟨b, o + 9, none⟩ = some (.slice q.ai q.e.a.l.length q.ci) ∧ w.cell? ⟨b, o + 10, none⟩ = some (.slice q.an q.e.a.ns.length q.cn) := cells11 h
def SmE (e : En) : Prop := Smv e.a ∧ dep e.a ≤ 61 ∧ e.ps.length ≤ 20
end Go.Proofs.YtnchohglplobeaaGreat
namespace Go.Proofs.YtnchohglplobeaaGreat
open Go.RowKit Go.Sort Go.Maps
def CanLP (p : Int × List En) (w : World) (e : Ending) (w' : World) : Prop := ∃ v, e = .returned (.tuple #[v, .int .i64 p.1]) ∧ Low w w' ∧ ∃ rs : List Ee, ensOf rs = p.2 ∧ EtAt w' v rs
theorem canLP_bad {w w' : World} {c : Int} (h : Low w w') : CanLP (c, []) w (.returned (.tuple #[.slice none 0 0, .int .i64 c])) w' := ⟨_, rfl, h, [], rfl, et_nil _⟩
set_option maxHeartbeats 8000000 in
set_option maxRecDepth 100000 in
theorem eCanon_c (qs : List Ee) (w : World) (r : Value) (h : EtAt w r qs) (hf : FewE (ensOf qs)) (hs : ∀ q ∈ qs, Smv q.e.a) : Calls Tryz.prog 26 #[r] w (CanLP (canE canD (ensOf qs)) w) := by
 have hpar := par_c (qs.map Ee.sh) w r h.1
 obtain ⟨ao, c, rfl, ⟨hlc, hc9⟩, hx⟩ := h.at
 have hq3 : qs.length ≤ 300 := by have := hf.1; unfold ensOf at this; rwa [List.length_map] at this
 have z1 : (qs.length : Int) ≤ 4096 := by omega
 have zd : decide ((4096 : Int) < (qs.length : Int)) = false := by simp; omega
 have hel : (ensOf qs).length = qs.length := by simp [ensOf]
 have hdef : canE canD (ensOf qs) = if (namesE (ensOf qs)).Nodup then (if errL canD (namesE (ensOf qs)) (ensOf qs) = 0 then (open Classical in if RoundE (ensOf qs) then (21, []) else (0, uniq cmpE ((ensOf qs).map (oneE canD)))) else (errL canD (namesE (ensOf qs)) (ensOf qs), [])) else (13, []) := by
  unfold canE; rw [if_neg (by rw [hel]; omega)]
 obtain ⟨res, hres⟩ : ∃ res, res = canE canD (ensOf qs) := ⟨_, rfl⟩
 rw [← hres] at hdef ⊢
 have HD := Lib.hid hdef
 have HX := Lib.hid hx
 have HQ := Lib.hid h
 have HF := Lib.hid hf
 have HS := Lib.hid hs
 have HP := Lib.hid hpar
 clear hx h hf hs hpar hel hdef hres
 go_enter Tryz.func26, Tryz.ntmps26
 go_wp2_with fail
 refine HP.out.mono ?_
 rintro e w1 ⟨b1, rfl, hb1, M1, L1⟩
 have HM1 := Lib.hid M1
 have HL1 := Lib.hid L1
 clear M1 L1 HP
 have hkn : ∀ ks : List Us, ks.Nodup → (∀ x, x ∈ ks ↔ (fS (qs.map Ee.sh) x).isSome = true) → ((namesE (ensOf qs)).Nodup → ks.length = qs.length) ∧ (¬ (namesE (ensOf qs)).Nodup → ks.length < qs.length) := fun ks hk hm => by
  have h1 := keys_lenv (names := namesE (ensOf qs)) hk fun x => (hm x).trans fS_names
  rwa [show (namesE (ensOf qs)).length = qs.length by simp [namesE, ensOf]] at h1
 by_cases hnd : (namesE (ensOf qs)).Nodup
 case neg =>
  have HK := Lib.hid fun (ks : List Us) (hk : ks.Nodup) (hm : ∀ x, x ∈ ks ↔ (fS (qs.map Ee.sh) x).isSome = true) => (show (ks.length : Int) < (qs.length : Int) by have := (hkn ks hk hm).2 hnd; omega)
  have HR := Lib.hid (show res = (13, []) by rw [HD.out, if_neg hnd])
  clear hnd hkn
  go_wp2_with (at_len; refine at_size rfl _ _ rfl Tryz.underlying87 rfl HM1.out ?_; intro ks hk hm; have zk := HK.out ks hk hm; clear hk hm)
  go_ret2
  rw [HR.out]
  exact canLP_bad HL1.out
 case pos =>
  have HK := Lib.hid fun (ks : List Us) (hk : ks.Nodup) (hm : ∀ x, x ∈ ks ↔ (fS (qs.map Ee.sh) x).isSome = true) => (show ¬ (ks.length : Int) < (qs.length : Int) ∧ decide (ks.length < qs.length) = false by have := (hkn ks hk hm).1 hnd; exact ⟨by omega, by simp; omega⟩)
  have HN := Lib.hid hnd
  clear hnd hkn
  go_wp2_with (at_len; refine at_size rfl _ _ rfl Tryz.underlying87 rfl HM1.out ?_; intro ks hk hm; obtain ⟨zk, zn⟩ := HK.out ks hk hm; clear hk hm)
  clear zk zn HK
  obtain ⟨B, hB⟩ : ∃ B, B = w1.heap.size := ⟨_, rfl⟩
  have HB := Lib.hid hB
  have HNM := Lib.hid (show ∀ x, x ∈ namesE (ensOf qs) ↔ (fS (qs.map Ee.sh) x).isSome = true from fun x => fS_names.symm)
  clear hB
  go_loopg [5, 22] qs.length (fun gk vs vi wr => ∃ (vr : Value) (i : Nat) (rs : List Ee), vr = vs ∧ vi = .int .i64 (i : Int) ∧ i ≤ qs.length ∧ qs.length - i ≤ gk ∧ Hid (Low w1 wr) ∧ Hid (OwnE B wr vr rs) ∧ Hid (ensOf rs = ((ensOf qs).take i).map (oneE canD)) ∧ Hid (∀ p ∈ rs, EeOk (fun b => B ≤ b ∧ some b ≠ vr.ownBlock) wr p) ∧ Hid (∀ e ∈ (ensOf qs).take i, errE canD (namesE (ensOf qs)) e = 0))
  case atStart => exact ⟨_, 0, [], rfl, rfl, Nat.zero_le _, Nat.le_refl _, Lib.hid (Low.refl _), Lib.hid (OwnR.nil _ _ _ _ _), Lib.hid rfl, Lib.hid fun p hp => by simp at hp, Lib.hid fun e he => by simp at he⟩
  case round =>
   obtain ⟨vr, i, rs, rfl, rfl, hi, hg, G, O, K, E, Z⟩ := hrel
   have hrl : rs.length = i := by have := congrArg List.length K.out; simpa [ensOf, hi] using this
   by_cases hlt : i < qs.length
   ·have zl : (i : Int) < (qs.length : Int) := by omega
    obtain ⟨b, o, rfl, hcs⟩ := HX.out i hlt
    have hq := HQ.out.2 qs[i] (List.getElem_mem hlt)
    have hsm := HS.out qs[i] (List.getElem_mem hlt)
    have hps : qs[i].e.ps.length ≤ 300 := HF.out.2 qs[i].e (by unfold ensOf; exact List.mem_map_of_mem (List.getElem_mem hlt))
    have hei : (ensOf qs)[i]? = some qs[i].e := by unfold ensOf; simp [hlt]
    obtain ⟨q, hqq⟩ : ∃ q, qs[i] = q := ⟨_, rfl⟩
    rw [hqq] at hcs hq hsm hps hei
    have LW := Lib.hid (HL1.out.trans G.out)
    obtain ⟨e0, e1, e2, e3, e4, e5, e6, e7, e8, e9, e10⟩ := ee11 ((HL1.out.trans G.out).cells hcs)
    have L3 : Low w (wr.alloc (.cells #[.string q.e.u.t, .string q.e.u.i, .slice q.ap q.e.ps.length q.cp, .int .i64 q.e.a.h.k, .bool q.e.a.h.b, .int .i64 q.e.a.h.n, .string q.e.a.h.s, .string q.e.a.h.t, .string q.e.a.h.i, .slice q.ai q.e.a.l.length q.ci, .slice q.an q.e.a.ns.length q.cn] 72)) := Low.alloc (HL1.out.trans G.out) _
    have hcon := canE_c (qs.map Ee.sh) _ HNM.out b1 qs.length q.e.u q.e.ps q.e.a q.ap q.cp q.ai q.ci q.an q.cn (wr.alloc (.cells #[.string q.e.u.t, .string q.e.u.i, .slice q.ap q.e.ps.length q.cp, .int .i64 q.e.a.h.k, .bool q.e.a.h.b, .int .i64 q.e.a.h.n, .string q.e.a.h.s, .string q.e.a.h.t, .string q.e.a.h.i, .slice q.ai q.e.a.l.length q.ci, .slice q.an q.e.a.ns.length q.cn] 72)) (hq.1.any.low L3) (hq.2.low L3) hsm (by omega) ((HM1.out.mono (by simp)).block (by rw [(Low.alloc G.out _).2.2.2 _ HM1.out.lt]))
    change Calls _ _ _ _ (CanEP _ q.e _) at hcon
    unfold CanEP at hcon
    have hrs := Lib.hid hrl
    clear hrl
    have HSZ := Lib.hid (show B ≤ wr.heap.size by rw [HB.out]; exact G.out.size)
    have HEI := Lib.hid hei
    obtain ⟨er, her⟩ : ∃ er, er = errE canD (namesE (ensOf qs)) q.e := ⟨_, rfl⟩
    rw [← her] at hcon
    have HC := Lib.hid hcon
    have HER := Lib.hid her
    have LA := Lib.hid (show Low wr (wr.alloc (.cells #[.string q.e.u.t, .string q.e.u.i, .slice q.ap q.e.ps.length q.cp, .int .i64 q.e.a.h.k, .bool q.e.a.h.b, .int .i64 q.e.a.h.n, .string q.e.a.h.s, .string q.e.a.h.t, .string q.e.a.h.i, .slice q.ai q.e.a.l.length q.ci, .slice q.an q.e.a.ns.length q.cn] 72)) from Low.alloc (Low.refl wr) _)
    have HS2 := Lib.hid (show wr.heap.size ≤ (wr.alloc (.cells #[.string q.e.u.t, .string q.e.u.i, .slice q.ap q.e.ps.length q.cp, .int .i64 q.e.a.h.k, .bool q.e.a.h.b, .int .i64 q.e.a.h.n, .string q.e.a.h.s, .string q.e.a.h.t, .string q.e.a.h.i, .slice q.ai q.e.a.l.length q.ci, .slice q.an q.e.a.ns.length q.cn] 72)).heap.size by simp)
    clear hcs hq hsm hps hqq her hei L3 hcon
    go_wp2_with fail
    refine HC.out.mono ?_
    rintro e w2 ⟨y, rfl, hlow, hok⟩
    have L1 := Lib.hid (LA.out.trans hlow)
    have hsz1 : wr.heap.size ≤ w2.heap.size := L1.out.size
    by_cases h0 : er = 0
    ·subst h0
     obtain ⟨hy, hyok⟩ := hok rfl
     have HY := Lib.hid hy
     have HYO := Lib.hid hyok
     have HO := Lib.hid (O.out.low L1.out)
     clear hok hlow hy hyok HC
     go_wp2_with (first
      | (at_builtin; refine appR rfl _ _ _ rfl Tryz.underlying33 e_info rfl (by decide) (by decide) encE_len encE_one B vr rs rfl ((HO.out.alloc _).alloc _) y ⟨w2.heap.size + 1, 0, none⟩ 1 rfl (fun j u hj => newcell_at _ _ _ _ _ rfl hj) (by have := hrs.out; omega) (by have := HSZ.out; show B ≤ ((w2.alloc _).alloc _).heap.size; simp; omega) ?_; intro v2 w3 h2 b2 k2 n2))
     have W1 := Lib.hid (Low.alloc (Low.alloc (Low.refl w2) (.cells #[.string y.e.u.t, .string y.e.u.i, .slice y.ap y.e.ps.length y.cp, .int .i64 y.e.a.h.k, .bool y.e.a.h.b, .int .i64 y.e.a.h.n, .string y.e.a.h.s, .string y.e.a.h.t, .string y.e.a.h.i, .slice y.ai y.e.a.l.length y.ci, .slice y.an y.e.a.ns.length y.cn] 72)) (.cells #[.string y.e.u.t, .string y.e.u.i, .slice y.ap y.e.ps.length y.cp, .int .i64 y.e.a.h.k, .bool y.e.a.h.b, .int .i64 y.e.a.h.n, .string y.e.a.h.s, .string y.e.a.h.t, .string y.e.a.h.i, .slice y.ai y.e.a.l.length y.ci, .slice y.an y.e.a.ns.length y.cn] 72))
     have hE := ee_step HSZ.out E.out L1.out W1.out (q := y) (EeOk.to (fun b hb _ => ⟨Nat.le_trans HS2.out hb, rfl⟩) HYO.out) O.out k2 n2
     have hL : Low w1 w3 := ((G.out.trans L1.out).trans W1.out).trans_below b2 (by rw [HB.out]; exact Nat.le_refl _)
     have HE := Lib.hid hE
     have HL2 := Lib.hid hL
     have H2 := Lib.hid h2
     have htk : (ensOf qs).take (i + 1) = (ensOf qs).take i ++ [q.e] := by rw [List.take_add_one, HEI.out]; rfl
     have HTK := Lib.hid htk
     clear hE hL h2 b2 k2 n2 htk
     go_wp2_with fail
     go_roundg (qs.length - (i + 1))
     case measure => omega
     case rel =>
      refine ⟨v2, i + 1, rs ++ [y], rfl, by go_num, by omega, by omega, HL2, H2, Lib.hid ?_, HE, Lib.hid ?_⟩
      ·rw [HTK.out, List.map_append, ← K.out]
       unfold ensOf
       rw [List.map_append]
       simp [HY.out]
      ·rw [HTK.out]
       intro e he
       rcases List.mem_append.1 he with h | h
       ·exact Z.out e h
       ·simp at h; rw [h]; exact HER.out.symm
    ·have HH := Lib.hid h0
     have hcz : (er != 0) = true := by simpa using h0
     have hres : res = (er, []) := by
      have hli : i < (ensOf qs).length := by simpa [ensOf] using hlt
      have hge : (ensOf qs)[i] = q.e := by have := HEI.out; rw [List.getElem?_eq_getElem hli] at this; simpa using this
      have hL := errL_at canD hli Z.out (by rw [hge, ← HER.out]; exact h0)
      rw [hge, ← HER.out] at hL
      rw [HD.out, if_pos HN.out, hL, if_neg h0]
     have HRES := Lib.hid hres
     have LL := Lib.hid (LW.out.trans L1.out)
     clear hok hlow h0 hres HC
     go_wp2_with fail
     go_ret2
     rw [HRES.out]
     exact canLP_bad (Low.alloc LL.out _)
   ·have zl : ¬ (i : Int) < (qs.length : Int) := by omega
    have hrs := Lib.hid (show rs.length ≤ 70000 by omega)
    clear hrl
    have ht : (ensOf qs).take i = ensOf qs := List.take_of_length_le (by unfold ensOf; rw [List.length_map]; omega)
    have hz := Z.out
    have hk := K.out
    rw [ht] at hz hk
    have hL := (errL_zero canD (names := namesE (ensOf qs))).2 hz
    have hres : res = (open Classical in if RoundE (ensOf qs) then (21, []) else (0, uniq cmpE ((ensOf qs).map (oneE canD)))) := by rw [HD.out, if_pos HN.out, if_pos hL]
    have HRES := Lib.hid hres
    have HK2 := Lib.hid hk
    have LW := Lib.hid (HL1.out.trans G.out)
    obtain ⟨ao2, cap2, rfl, hc1, hc2, -⟩ := O.out.shape
    have RC := Lib.hid (round_cv (qs.map Ee.sh) (PE (ensOf qs)) wr (.slice ao qs.length c) (by simp; omega) (HQ.out.1.low LW.out) ((rowsE HQ.out.2 HF.out).low LW.out))
    clear hz hk hL hres ht
    go_wp2_with fail
    refine RC.out.mono ?_
    rintro e w2 ⟨p, rfl, hp, hlow⟩
    rw [round_word] at hp
    have HPW := Lib.hid hp
    have L2 := Lib.hid hlow
    clear hp hlow RC
    cases p with
    | true =>
     go_wp2_with fail
     go_ret2
     rw [HRES.out, if_pos (HPW.out.1 (by trivial))]
     exact canLP_bad (LW.out.trans L2.out)
    | false =>
     have SC := Lib.hid (sortE_c B (.slice ao2 rs.length cap2) rs w2 (O.out.low L2.out) hrs.out)
     unfold ordEV at SC
     go_wp2_with fail
     refine SC.out.mono ?_
     rintro e w3 ⟨rfl, rs', hperm, hsrt, O3, K3⟩
     have HP3 := Lib.hid hperm
     have HS3 := Lib.hid hsrt
     have HO3 := Lib.hid O3
     have HK3 := Lib.hid K3
     clear hperm hsrt O3 K3 SC
     go_wp2_with fail
     go_ret2
     have hnr : ¬ RoundE (ensOf qs) := fun h => by simpa using HPW.out.2 h
     rw [HRES.out, if_neg hnr]
     have hgB : ∀ g, (Value.slice ao2 rs.length cap2).ownBlock = some g → B ≤ g := fun g hg => (World.ownsRow.lt O.out g hg).1
     refine ⟨_, rfl, (LW.out.trans L2.out).kept HK3.out fun g hg => by have h1 := hgB g hg; have h2 := HL1.out.size; have h3 := HB.out; omega, rs', ?_, HO3.out.esAt, fun p hp => ?_⟩
     ·show ensOf rs' = uniq cmpE ((ensOf qs).map (oneE canD))
      refine sorted_uniq (by rw [names_one]; exact HN.out) ?_ HS3.out
      rw [← HK2.out]
      exact HP3.out.map _
     ·refine EeOk.to (fun b hb hlt => ⟨trivial, ?_⟩) (E.out p (HP3.out.mem_iff.1 hp))
      have h2 := L2.out.size
      exact (HK3.out.2.2.2 b (by omega) hb.2).trans (L2.out.2.2.2 b hlt)
end Go.Proofs.YtnchohglplobeaaGreat
