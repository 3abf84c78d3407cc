/- A value as it must be, as the program tells it. Condition: all rows are short. -/
import Derived.Test.YtnchohglplobeaaGreatZg07
set_option linter.unusedVariables false
set_option linter.unusedSimpArgs false
set_option linter.unnecessarySimpa false
namespace Go.Proofs.YtnchohglplobeaaGreat
open Go.RowKit Go.Sort
set_option maxHeartbeats 4000000 in
theorem canon_n (n : Nat) : ∀ v : V, dep v ≤ n → CanC 96 v := by
 induction n with
 | zero => intro v h; rw [dep_v] at h; omega
 | succ n ih =>
  intro v hd w it nm hr hsm
  obtain ⟨ai, ci, an, cn, rfl, rfl⟩ := r_slices hr
  have ih' : ∀ x ∈ v.l, CanC 96 x := fun x hx => ih x (by have := dep_mem hx; rw [dep_v] at hd; omega)
  have ra : Ro w v.l (.slice ai v.l.length ci) := (rep_v.1 hr).2.2
  have na : Na w v.ns (.slice an v.ns.length cn) := (rep_v.1 hr).2.1
  obtain ⟨s1, s2, s3⟩ := (sm_v v).1 hsm
  have CSET := Lib.hid fun W (h : Low w W) => canSet_c v.l ih' ⟨s1, s3⟩ W _ (ra.low h)
  have CREC := Lib.hid fun W (h : Low w W) => canRec_c v.ns v.l ih' ⟨s1, s3⟩ s2 W _ _ (na.low h) (ra.low h)
  have hcv := can_v v
  clear ih' ra na s1 s2 s3 hsm
  unfold avv
  by_cases k1 : v.h.k = 1
  ·rw [if_pos k1] at hcv
   rw [hcv]
   rw [k1]
   have HB := Lib.hid (bh_of hr)
   clear hcv hr ih hd k1
   go_enter Tryz.func96, Tryz.ntmps96
   go_wp2_with fail
   refine bodyPost_ret (v := .tuple #[.agg #[.int .i64 1, .bool v.h.b, .int .i64 0, .string ⟨#[]⟩, .string ⟨#[]⟩, .string ⟨#[]⟩, .slice none 0 0, .slice none 0 0], .int .i64 0]) (by simp [results, Tryz.results96, go_sem]; try rfl) rfl ?_
   exact ⟨none, 0, none, 0, rfl, rep_v.2 ⟨⟨Nat.zero_le _, Nat.zero_le _, Nat.zero_le _⟩, names_nil _ _, none, 0, rfl, ⟨Nat.zero_le _, Nat.zero_le _⟩, .inl rfl⟩, Low.alloc (Low.alloc (Low.refl w) _) _⟩
  rw [if_neg k1] at hcv
  by_cases k2 : v.h.k = 2
  ·rw [if_pos k2] at hcv
   rw [hcv]
   rw [k2]
   have HB := Lib.hid (bh_of hr)
   clear hcv hr ih hd k2
   go_enter Tryz.func96, Tryz.ntmps96
   go_wp2_with fail
   refine bodyPost_ret (v := .tuple #[.agg #[.int .i64 2, .bool false, .int .i64 v.h.n, .string ⟨#[]⟩, .string ⟨#[]⟩, .string ⟨#[]⟩, .slice none 0 0, .slice none 0 0], .int .i64 0]) (by simp [results, Tryz.results96, go_sem]; try rfl) rfl ?_
   exact ⟨none, 0, none, 0, rfl, rep_v.2 ⟨⟨Nat.zero_le _, Nat.zero_le _, Nat.zero_le _⟩, names_nil _ _, none, 0, rfl, ⟨Nat.zero_le _, Nat.zero_le _⟩, .inl rfl⟩, Low.alloc (Low.alloc (Low.refl w) _) _⟩
  rw [if_neg k2] at hcv
  by_cases k3 : v.h.k = 3
  ·rw [if_pos k3] at hcv
   rw [hcv]
   rw [k3]
   have HB := Lib.hid (bh_of hr)
   clear hcv hr ih hd k3
   go_enter Tryz.func96, Tryz.ntmps96
   go_wp2_with fail
   refine bodyPost_ret (v := .tuple #[.agg #[.int .i64 3, .bool false, .int .i64 0, .string v.h.s, .string ⟨#[]⟩, .string ⟨#[]⟩, .slice none 0 0, .slice none 0 0], .int .i64 0]) (by simp [results, Tryz.results96, go_sem]; try rfl) rfl ?_
   exact ⟨none, 0, none, 0, rfl, rep_v.2 ⟨⟨HB.out.1, Nat.zero_le _, Nat.zero_le _⟩, names_nil _ _, none, 0, rfl, ⟨Nat.zero_le _, Nat.zero_le _⟩, .inl rfl⟩, Low.alloc (Low.alloc (Low.refl w) _) _⟩
  rw [if_neg k3] at hcv
  by_cases k4 : v.h.k = 4
  ·rw [if_pos k4] at hcv
   rw [hcv]
   rw [k4]
   have HB := Lib.hid (bh_of hr)
   clear hcv hr ih hd k4
   go_enter Tryz.func96, Tryz.ntmps96
   go_wp2_with fail
   refine bodyPost_ret (v := .tuple #[.agg #[.int .i64 4, .bool false, .int .i64 0, .string ⟨#[]⟩, .string v.h.t, .string v.h.i, .slice none 0 0, .slice none 0 0], .int .i64 0]) (by simp [results, Tryz.results96, go_sem]; try rfl) rfl ?_
   exact ⟨none, 0, none, 0, rfl, rep_v.2 ⟨⟨Nat.zero_le _, HB.out.2.1, HB.out.2.2⟩, names_nil _ _, none, 0, rfl, ⟨Nat.zero_le _, Nat.zero_le _⟩, .inl rfl⟩, Low.alloc (Low.alloc (Low.refl w) _) _⟩
  rw [if_neg k4] at hcv
  by_cases k5 : v.h.k = 5
  ·rw [if_pos k5] at hcv
   have hcs : can v = setC v.l := by rw [hcv]; rfl
   rw [hcs]
   rw [k5]
   have LA := (Low.alloc (Low.alloc (Low.refl w) _) _ : Low w ((w.alloc (.cells #[.int .i64 5, .bool v.h.b, .int .i64 v.h.n, .string v.h.s, .string v.h.t, .string v.h.i, .slice ai v.l.length ci, .slice an v.ns.length cn] 27)).alloc (.cells #[.int .i64 0, .bool false, .int .i64 0, .string ⟨#[]⟩, .string ⟨#[]⟩, .string ⟨#[]⟩, .slice none 0 0, .slice none 0 0] 27)))
   have R0 := Lib.hid (res_new (w.alloc (.cells #[.int .i64 5, .bool v.h.b, .int .i64 v.h.n, .string v.h.s, .string v.h.t, .string v.h.i, .slice ai v.l.length ci, .slice an v.ns.length cn] 27)) 27)
   rw [show (w.alloc (.cells #[.int .i64 5, .bool v.h.b, .int .i64 v.h.n, .string v.h.s, .string v.h.t, .string v.h.i, .slice ai v.l.length ci, .slice an v.ns.length cn] 27)).heap.size = w.heap.size + 1 by simp] at R0
   have HC := Lib.hid (CSET.out _ LA)
   have HL := Lib.hid LA
   generalize setC v.l = q at HC ⊢
   clear hcv hcs hr ih hd k5 LA
   go_enter Tryz.func96, Tryz.ntmps96
   go_wp2_with fail
   refine HC.out.mono ?_
   rintro e w1 ⟨bi, di, bn, dn, rfl, hrep, hlow⟩
   have HR := Lib.hid hrep
   have HW := Lib.hid hlow
   have RR := Lib.hid (R0.out.low hlow)
   obtain ⟨⟨c0, c1, c2, c3, c4, c5, c6, c7⟩, f0, f1, f2, f3, f4, f5, f6, f7⟩ := RR.out.facts
   clear hrep hlow
   go_wp2_with fail
   refine bodyPost_ret (v := .tuple #[.agg #[.int .i64 q.2.h.k, .bool q.2.h.b, .int .i64 q.2.h.n, .string q.2.h.s, .string q.2.h.t, .string q.2.h.i, .slice bi q.2.l.length di, .slice bn q.2.ns.length dn], .int .i64 q.1]) (by simp [results, Tryz.results96, go_sem, World.cell?_setCell_same', c0, c1, c2, c3, c4, c5, c6, c7]; try rfl) rfl ?_
   have K8 := kept8 w1 (w.heap.size + 1) (.int .i64 q.2.h.k) (.bool q.2.h.b) (.int .i64 q.2.h.n) (.string q.2.h.s) (.string q.2.h.t) (.string q.2.h.i) (.slice bi q.2.l.length di) (.slice bn q.2.ns.length dn)
   refine ⟨bi, di, bn, dn, rfl, Rep.to (fun b hb hlt => ⟨?_, K8.2.2.2 b hlt ?_⟩) _ HR.out, (HL.out.trans HW.out).kept K8 fun g hg => by simp at hg; omega⟩
   ·simp at hb; omega
   ·simp at hb ⊢; omega
  rw [if_neg k5] at hcv
  by_cases k6 : v.h.k = 6
  ·rw [if_pos k6] at hcv
   have hcs : can v = recS v.ns v.l := by rw [hcv]; rfl
   rw [hcs]
   rw [k6]
   have LA := (Low.alloc (Low.alloc (Low.refl w) _) _ : Low w ((w.alloc (.cells #[.int .i64 6, .bool v.h.b, .int .i64 v.h.n, .string v.h.s, .string v.h.t, .string v.h.i, .slice ai v.l.length ci, .slice an v.ns.length cn] 27)).alloc (.cells #[.int .i64 0, .bool false, .int .i64 0, .string ⟨#[]⟩, .string ⟨#[]⟩, .string ⟨#[]⟩, .slice none 0 0, .slice none 0 0] 27)))
   have R0 := Lib.hid (res_new (w.alloc (.cells #[.int .i64 6, .bool v.h.b, .int .i64 v.h.n, .string v.h.s, .string v.h.t, .string v.h.i, .slice ai v.l.length ci, .slice an v.ns.length cn] 27)) 27)
   rw [show (w.alloc (.cells #[.int .i64 6, .bool v.h.b, .int .i64 v.h.n, .string v.h.s, .string v.h.t, .string v.h.i, .slice ai v.l.length ci, .slice an v.ns.length cn] 27)).heap.size = w.heap.size + 1 by simp] at R0
   have HC := Lib.hid (CREC.out _ LA)
   have HL := Lib.hid LA
   generalize recS v.ns v.l = q at HC ⊢
   clear hcv hcs hr ih hd k6 LA
   go_enter Tryz.func96, Tryz.ntmps96
   go_wp2_with fail
   refine HC.out.mono ?_
   rintro e w1 ⟨bi, di, bn, dn, rfl, hrep, hlow⟩
   have HR := Lib.hid hrep
   have HW := Lib.hid hlow
   have RR := Lib.hid (R0.out.low hlow)
   obtain ⟨⟨c0, c1, c2, c3, c4, c5, c6, c7⟩, f0, f1, f2, f3, f4, f5, f6, f7⟩ := RR.out.facts
   clear hrep hlow
   go_wp2_with fail
   refine bodyPost_ret (v := .tuple #[.agg #[.int .i64 q.2.h.k, .bool q.2.h.b, .int .i64 q.2.h.n, .string q.2.h.s, .string q.2.h.t, .string q.2.h.i, .slice bi q.2.l.length di, .slice bn q.2.ns.length dn], .int .i64 q.1]) (by simp [results, Tryz.results96, go_sem, World.cell?_setCell_same', c0, c1, c2, c3, c4, c5, c6, c7]; try rfl) rfl ?_
   have K8 := kept8 w1 (w.heap.size + 1) (.int .i64 q.2.h.k) (.bool q.2.h.b) (.int .i64 q.2.h.n) (.string q.2.h.s) (.string q.2.h.t) (.string q.2.h.i) (.slice bi q.2.l.length di) (.slice bn q.2.ns.length dn)
   refine ⟨bi, di, bn, dn, rfl, Rep.to (fun b hb hlt => ⟨?_, K8.2.2.2 b hlt ?_⟩) _ HR.out, (HL.out.trans HW.out).kept K8 fun g hg => by simp at hg; omega⟩
   ·simp at hb; omega
   ·simp at hb ⊢; omega
  ·rw [if_neg k6] at hcv
   rw [hcv]
   clear hcv hr ih hd
   go_enter Tryz.func96, Tryz.ntmps96
   go_wp2_with fail
   refine bodyPost_ret (v := .tuple #[.agg #[.int .i64 0, .bool false, .int .i64 0, .string ⟨#[]⟩, .string ⟨#[]⟩, .string ⟨#[]⟩, .slice none 0 0, .slice none 0 0], .int .i64 1]) (by simp [results, Tryz.results96, go_sem]; try rfl) rfl ?_
   exact ⟨none, 0, none, 0, rfl, rep_V0 _ _, Low.alloc (Low.alloc (Low.refl w) _) _⟩
theorem canon_c (v : V) : CanC 96 v := canon_n (dep v) v (Nat.le_refl _)
def canD (v : V) : Int × V := if 50 < dptv v then (11, V0) else can v
set_option maxHeartbeats 2000000 in
theorem Canon_c (v : V) (w : World) (it nm : Value) (hr : R w v it nm) (hsm : Smv v) : Calls Tryz.prog 65 #[avv v.h it nm] w (CanPost (canD v).2 (canD v).1 w) := by
 obtain ⟨ai, ci, an, cn, rfl, rfl⟩ := r_slices hr
 have LA := (Low.alloc (Low.alloc (Low.refl w) _) _ : Low w ((w.alloc (.cells #[.int .i64 v.h.k, .bool v.h.b, .int .i64 v.h.n, .string v.h.s, .string v.h.t, .string v.h.i, .slice ai v.l.length ci, .slice an v.ns.length cn] 27)).alloc (.cells #[.int .i64 0, .bool false, .int .i64 0, .string ⟨#[]⟩, .string ⟨#[]⟩, .string ⟨#[]⟩, .slice none 0 0, .slice none 0 0] 27)))
 have R0 := Lib.hid (res_new (w.alloc (.cells #[.int .i64 v.h.k, .bool v.h.b, .int .i64 v.h.n, .string v.h.s, .string v.h.t, .string v.h.i, .slice ai v.l.length ci, .slice an v.ns.length cn] 27)) 27)
 rw [show (w.alloc (.cells #[.int .i64 v.h.k, .bool v.h.b, .int .i64 v.h.n, .string v.h.s, .string v.h.t, .string v.h.i, .slice ai v.l.length ci, .slice an v.ns.length cn] 27)).heap.size = w.heap.size + 1 by simp] at R0
 have CD := Lib.hid (deeper_c v _ _ _ (hr.low LA))
 have CC := Lib.hid fun W (h : Low w W) => canon_c v W _ _ (hr.low h) hsm
 have HL := Lib.hid LA
 clear hr LA hsm
 unfold avv at *
 by_cases hd : 50 < dptv v
 ·have hq : canD v = (11, V0) := by unfold canD; rw [if_pos hd]
  have hb : decide (50 < dptv v) = true := decide_eq_true hd
  rw [hq]
  rw [hb] at CD
  clear hq hb hd CC
  go_enter Tryz.func65, Tryz.ntmps65
  go_wp2_with fail
  refine CD.out.mono ?_
  rintro e w1 ⟨rfl, g⟩
  have RR := Lib.hid (R0.out.low g.low)
  obtain ⟨⟨c0, c1, c2, c3, c4, c5, c6, c7⟩, f0, f1, f2, f3, f4, f5, f6, f7⟩ := RR.out.facts
  go_wp2_with fail
  refine bodyPost_ret (v := .tuple #[.agg #[.int .i64 0, .bool false, .int .i64 0, .string ⟨#[]⟩, .string ⟨#[]⟩, .string ⟨#[]⟩, .slice none 0 0, .slice none 0 0], .int .i64 11]) (by simp [results, Tryz.results65, go_sem, World.cell?_setCell_same', c0, c1, c2, c3, c4, c5, c6, c7]; try rfl) rfl ?_
  have K8 := kept8 w1 (w.heap.size + 1) (.int .i64 0) (.bool false) (.int .i64 0) (.string ⟨#[]⟩) (.string ⟨#[]⟩) (.string ⟨#[]⟩) (.slice none 0 0) (.slice none 0 0)
  exact ⟨none, 0, none, 0, rfl, rep_V0 _ _, (HL.out.trans g.low).kept K8 fun g hg => by simp at hg; omega⟩
 ·have hq : canD v = can v := by unfold canD; rw [if_neg hd]
  have hb : decide (50 < dptv v) = false := decide_eq_false hd
  rw [hq]
  rw [hb] at CD
  generalize can v = q at CC ⊢
  clear hq hb hd
  go_enter Tryz.func65, Tryz.ntmps65
  go_wp2_with fail
  refine CD.out.mono ?_
  rintro e w1 ⟨rfl, g⟩
  obtain ⟨b0, b1, b2, b3, b4, b5, b6, b7⟩ := gr_box ((Gr.alloc (Gr.refl _) (.cells #[.int .i64 0, .bool false, .int .i64 0, .string ⟨#[]⟩, .string ⟨#[]⟩, .string ⟨#[]⟩, .slice none 0 0, .slice none 0 0] 27)).trans g)
  have R1 := Lib.hid (R0.out.low g.low)
  have L1 := Lib.hid (HL.out.trans g.low)
  have LZ := Lib.hid g.size
  clear g
  go_wp2_with fail
  refine (CC.out _ L1.out).mono ?_
  rintro e w2 ⟨bi, di, bn, dn, rfl, hrep, hlow⟩
  have HR := Lib.hid hrep
  have HW := Lib.hid hlow
  have RR := Lib.hid (R1.out.low hlow)
  obtain ⟨⟨c0, c1, c2, c3, c4, c5, c6, c7⟩, f0, f1, f2, f3, f4, f5, f6, f7⟩ := RR.out.facts
  clear hrep hlow
  go_wp2_with fail
  refine bodyPost_ret (v := .tuple #[.agg #[.int .i64 q.2.h.k, .bool q.2.h.b, .int .i64 q.2.h.n, .string q.2.h.s, .string q.2.h.t, .string q.2.h.i, .slice bi q.2.l.length di, .slice bn q.2.ns.length dn], .int .i64 q.1]) (by simp [results, Tryz.results65, go_sem, World.cell?_setCell_same', c0, c1, c2, c3, c4, c5, c6, c7]; try rfl) rfl ?_
  have K8 := kept8 w2 (w.heap.size + 1) (.int .i64 q.2.h.k) (.bool q.2.h.b) (.int .i64 q.2.h.n) (.string q.2.h.s) (.string q.2.h.t) (.string q.2.h.i) (.slice bi q.2.l.length di) (.slice bn q.2.ns.length dn)
  have hz := LZ.out
  simp at hz
  refine ⟨bi, di, bn, dn, rfl, Rep.to (fun b hb hlt => ⟨?_, K8.2.2.2 b hlt ?_⟩) _ HR.out, (L1.out.trans HW.out).kept K8 fun g hg => by simp at hg; omega⟩
  ·omega
  ·simp; omega
end Go.Proofs.YtnchohglplobeaaGreat
