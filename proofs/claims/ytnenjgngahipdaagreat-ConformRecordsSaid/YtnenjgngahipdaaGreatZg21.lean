/- A value as it must be, as the program tells it. Condition: all rows are short. What a value as it must be keeps: its depth; a value in sets of one member each. No condition. What the order and the form of values keep: how great an answer is; what is as it must be stays so; sets with the same members. No condition. What Canon tells is as it must be all the way down: in each record each name once. No condition. A text that isn't the name of actions' type. No condition. conform.Value and conform.Request: does a value, a request conform? Condition: rows of a value are short; the types may be. -/
import Derived.Test.YtnenjgngahipdaaGreatZCanR
import Derived.Test.YtnenjgngahipdaaGreatZg03
import Derived.Test.YtnenjgngahipdaaGreatZg11
import Derived.Test.YtnenjgngahipdaaGreatZg15
set_option linter.unusedVariables false
set_option linter.unusedSimpArgs false
set_option linter.unnecessarySimpa false
namespace Go.Proofs.YtnenjgngahipdaaGreat
open Go.RowKit Go.Sort
set_option maxHeartbeats 4000000 in
theorem canon_n (n : Nat) : ∀ v : V, dep v ≤ n → CanC 60 v := by
  induction n with
  | zero => intro v h; rw [dep_v] at h; omega
  | succ n ih =>
    intro v hd w it nm hr hsm
    obtain ⟨ai, ci, an, cn, rfl, rfl⟩ := r_slices hr
    have ih' : ∀ x ∈ v.l, CanC 60 x := fun x hx => ih x (by have := dep_mem hx; rw [dep_v] at hd; omega)
    have ra : Ro w v.l (.slice ai v.l.length ci) := (rep_v.1 hr).2.2
    have na : Na w v.ns (.slice an v.ns.length cn) := (rep_v.1 hr).2.1
    obtain ⟨s1, s2, s3⟩ := (sm_v v).1 hsm
    have CSET := Lib.hid fun W (h : Low w W) => canSet_c v.l ih' ⟨s1, s3⟩ W _ (ra.low h)
    have CREC := Lib.hid fun W (h : Low w W) => canRec_c v.ns v.l ih' ⟨s1, s3⟩ s2 W _ _ (na.low h) (ra.low h)
    have hcv := can_v v
    clear ih' ra na s1 s2 s3 hsm
    unfold avv
    by_cases k1 : v.h.k = 1
    · rw [if_pos k1] at hcv
      rw [hcv]
      rw [k1]
      have HB := Lib.hid (bh_of hr)
      clear hcv hr ih hd k1
      go_enter Tryz.func60, Tryz.ntmps60
      go_wp2_with fail
      refine bodyPost_ret (v := .tuple #[.agg #[.int .i64 1, .bool v.h.b, .int .i64 0, .string ⟨#[]⟩, .string ⟨#[]⟩, .string ⟨#[]⟩, .slice none 0 0, .slice none 0 0], .int .i64 0]) (by simp [results, Tryz.results60, go_sem]; try rfl) rfl ?_
      exact ⟨none, 0, none, 0, rfl, rep_v.2 ⟨⟨Nat.zero_le _, Nat.zero_le _, Nat.zero_le _⟩, names_nil _ _, none, 0, rfl, ⟨Nat.zero_le _, Nat.zero_le _⟩, .inl rfl⟩, Low.alloc (Low.alloc (Low.refl w) _) _⟩
    rw [if_neg k1] at hcv
    by_cases k2 : v.h.k = 2
    · rw [if_pos k2] at hcv
      rw [hcv]
      rw [k2]
      have HB := Lib.hid (bh_of hr)
      clear hcv hr ih hd k2
      go_enter Tryz.func60, Tryz.ntmps60
      go_wp2_with fail
      refine bodyPost_ret (v := .tuple #[.agg #[.int .i64 2, .bool false, .int .i64 v.h.n, .string ⟨#[]⟩, .string ⟨#[]⟩, .string ⟨#[]⟩, .slice none 0 0, .slice none 0 0], .int .i64 0]) (by simp [results, Tryz.results60, go_sem]; try rfl) rfl ?_
      exact ⟨none, 0, none, 0, rfl, rep_v.2 ⟨⟨Nat.zero_le _, Nat.zero_le _, Nat.zero_le _⟩, names_nil _ _, none, 0, rfl, ⟨Nat.zero_le _, Nat.zero_le _⟩, .inl rfl⟩, Low.alloc (Low.alloc (Low.refl w) _) _⟩
    rw [if_neg k2] at hcv
    by_cases k3 : v.h.k = 3
    · rw [if_pos k3] at hcv
      rw [hcv]
      rw [k3]
      have HB := Lib.hid (bh_of hr)
      clear hcv hr ih hd k3
      go_enter Tryz.func60, Tryz.ntmps60
      go_wp2_with fail
      refine bodyPost_ret (v := .tuple #[.agg #[.int .i64 3, .bool false, .int .i64 0, .string v.h.s, .string ⟨#[]⟩, .string ⟨#[]⟩, .slice none 0 0, .slice none 0 0], .int .i64 0]) (by simp [results, Tryz.results60, go_sem]; try rfl) rfl ?_
      exact ⟨none, 0, none, 0, rfl, rep_v.2 ⟨⟨HB.out.1, Nat.zero_le _, Nat.zero_le _⟩, names_nil _ _, none, 0, rfl, ⟨Nat.zero_le _, Nat.zero_le _⟩, .inl rfl⟩, Low.alloc (Low.alloc (Low.refl w) _) _⟩
    rw [if_neg k3] at hcv
    by_cases k4 : v.h.k = 4
    · rw [if_pos k4] at hcv
      rw [hcv]
      rw [k4]
      have HB := Lib.hid (bh_of hr)
      clear hcv hr ih hd k4
      go_enter Tryz.func60, Tryz.ntmps60
      go_wp2_with fail
      refine bodyPost_ret (v := .tuple #[.agg #[.int .i64 4, .bool false, .int .i64 0, .string ⟨#[]⟩, .string v.h.t, .string v.h.i, .slice none 0 0, .slice none 0 0], .int .i64 0]) (by simp [results, Tryz.results60, go_sem]; try rfl) rfl ?_
      exact ⟨none, 0, none, 0, rfl, rep_v.2 ⟨⟨Nat.zero_le _, HB.out.2.1, HB.out.2.2⟩, names_nil _ _, none, 0, rfl, ⟨Nat.zero_le _, Nat.zero_le _⟩, .inl rfl⟩, Low.alloc (Low.alloc (Low.refl w) _) _⟩
    rw [if_neg k4] at hcv
    by_cases k5 : v.h.k = 5
    · rw [if_pos k5] at hcv
      have hcs : can v = setC v.l := by rw [hcv]; rfl
      rw [hcs]
      rw [k5]
      have LA := (Low.alloc (Low.alloc (Low.refl w) _) _ : Low w ((w.alloc (.cells #[.int .i64 5, .bool v.h.b, .int .i64 v.h.n, .string v.h.s, .string v.h.t, .string v.h.i, .slice ai v.l.length ci, .slice an v.ns.length cn] 27)).alloc (.cells #[.int .i64 0, .bool false, .int .i64 0, .string ⟨#[]⟩, .string ⟨#[]⟩, .string ⟨#[]⟩, .slice none 0 0, .slice none 0 0] 27)))
      have R0 := Lib.hid (res_new (w.alloc (.cells #[.int .i64 5, .bool v.h.b, .int .i64 v.h.n, .string v.h.s, .string v.h.t, .string v.h.i, .slice ai v.l.length ci, .slice an v.ns.length cn] 27)) 27)
      rw [show (w.alloc (.cells #[.int .i64 5, .bool v.h.b, .int .i64 v.h.n, .string v.h.s, .string v.h.t, .string v.h.i, .slice ai v.l.length ci, .slice an v.ns.length cn] 27)).heap.size = w.heap.size + 1 by simp] at R0
      have HC := Lib.hid (CSET.out _ LA)
      have HL := Lib.hid LA
      generalize setC v.l = q at HC ⊢
      clear hcv hcs hr ih hd k5 LA
      go_enter Tryz.func60, Tryz.ntmps60
      go_wp2_with fail
      refine HC.out.mono ?_
      rintro e w1 ⟨bi, di, bn, dn, rfl, hrep, hlow⟩
      have HR := Lib.hid hrep
      have HW := Lib.hid hlow
      have RR := Lib.hid (R0.out.low hlow)
      obtain ⟨⟨c0, c1, c2, c3, c4, c5, c6, c7⟩, f0, f1, f2, f3, f4, f5, f6, f7⟩ := RR.out.facts
      clear hrep hlow
      go_wp2_with fail
      refine bodyPost_ret (v := .tuple #[.agg #[.int .i64 q.2.h.k, .bool q.2.h.b, .int .i64 q.2.h.n, .string q.2.h.s, .string q.2.h.t, .string q.2.h.i, .slice bi q.2.l.length di, .slice bn q.2.ns.length dn], .int .i64 q.1]) (by simp [results, Tryz.results60, go_sem, World.cell?_setCell_same', c0, c1, c2, c3, c4, c5, c6, c7]; try rfl) rfl ?_
      have K8 := kept8 w1 (w.heap.size + 1) (.int .i64 q.2.h.k) (.bool q.2.h.b) (.int .i64 q.2.h.n) (.string q.2.h.s) (.string q.2.h.t) (.string q.2.h.i) (.slice bi q.2.l.length di) (.slice bn q.2.ns.length dn)
      refine ⟨bi, di, bn, dn, rfl, Rep.to (fun b hb hlt => ⟨?_, K8.2.2.2 b hlt ?_⟩) _ HR.out, (HL.out.trans HW.out).kept K8 fun g hg => by simp at hg; omega⟩
      · simp at hb; omega
      · simp at hb ⊢; omega
    rw [if_neg k5] at hcv
    by_cases k6 : v.h.k = 6
    · rw [if_pos k6] at hcv
      have hcs : can v = recS v.ns v.l := by rw [hcv]; rfl
      rw [hcs]
      rw [k6]
      have LA := (Low.alloc (Low.alloc (Low.refl w) _) _ : Low w ((w.alloc (.cells #[.int .i64 6, .bool v.h.b, .int .i64 v.h.n, .string v.h.s, .string v.h.t, .string v.h.i, .slice ai v.l.length ci, .slice an v.ns.length cn] 27)).alloc (.cells #[.int .i64 0, .bool false, .int .i64 0, .string ⟨#[]⟩, .string ⟨#[]⟩, .string ⟨#[]⟩, .slice none 0 0, .slice none 0 0] 27)))
      have R0 := Lib.hid (res_new (w.alloc (.cells #[.int .i64 6, .bool v.h.b, .int .i64 v.h.n, .string v.h.s, .string v.h.t, .string v.h.i, .slice ai v.l.length ci, .slice an v.ns.length cn] 27)) 27)
      rw [show (w.alloc (.cells #[.int .i64 6, .bool v.h.b, .int .i64 v.h.n, .string v.h.s, .string v.h.t, .string v.h.i, .slice ai v.l.length ci, .slice an v.ns.length cn] 27)).heap.size = w.heap.size + 1 by simp] at R0
      have HC := Lib.hid (CREC.out _ LA)
      have HL := Lib.hid LA
      generalize recS v.ns v.l = q at HC ⊢
      clear hcv hcs hr ih hd k6 LA
      go_enter Tryz.func60, Tryz.ntmps60
      go_wp2_with fail
      refine HC.out.mono ?_
      rintro e w1 ⟨bi, di, bn, dn, rfl, hrep, hlow⟩
      have HR := Lib.hid hrep
      have HW := Lib.hid hlow
      have RR := Lib.hid (R0.out.low hlow)
      obtain ⟨⟨c0, c1, c2, c3, c4, c5, c6, c7⟩, f0, f1, f2, f3, f4, f5, f6, f7⟩ := RR.out.facts
      clear hrep hlow
      go_wp2_with fail
      refine bodyPost_ret (v := .tuple #[.agg #[.int .i64 q.2.h.k, .bool q.2.h.b, .int .i64 q.2.h.n, .string q.2.h.s, .string q.2.h.t, .string q.2.h.i, .slice bi q.2.l.length di, .slice bn q.2.ns.length dn], .int .i64 q.1]) (by simp [results, Tryz.results60, go_sem, World.cell?_setCell_same', c0, c1, c2, c3, c4, c5, c6, c7]; try rfl) rfl ?_
      have K8 := kept8 w1 (w.heap.size + 1) (.int .i64 q.2.h.k) (.bool q.2.h.b) (.int .i64 q.2.h.n) (.string q.2.h.s) (.string q.2.h.t) (.string q.2.h.i) (.slice bi q.2.l.length di) (.slice bn q.2.ns.length dn)
      refine ⟨bi, di, bn, dn, rfl, Rep.to (fun b hb hlt => ⟨?_, K8.2.2.2 b hlt ?_⟩) _ HR.out, (HL.out.trans HW.out).kept K8 fun g hg => by simp at hg; omega⟩
      · simp at hb; omega
      · simp at hb ⊢; omega
    · rw [if_neg k6] at hcv
      rw [hcv]
      clear hcv hr ih hd
      go_enter Tryz.func60, Tryz.ntmps60
      go_wp2_with fail
      refine bodyPost_ret (v := .tuple #[.agg #[.int .i64 0, .bool false, .int .i64 0, .string ⟨#[]⟩, .string ⟨#[]⟩, .string ⟨#[]⟩, .slice none 0 0, .slice none 0 0], .int .i64 1]) (by simp [results, Tryz.results60, go_sem]; try rfl) rfl ?_
      exact ⟨none, 0, none, 0, rfl, rep_V0 _ _, Low.alloc (Low.alloc (Low.refl w) _) _⟩
theorem canon_c (v : V) : CanC 60 v := canon_n (dep v) v (Nat.le_refl _)
/-- A value as it must be, its depth asked first. -/
def canD (v : V) : Int × V := if 50 < dptv v then (11, V0) else can v
set_option maxHeartbeats 2000000 in
theorem Canon_c (v : V) (w : World) (it nm : Value) (hr : R w v it nm) (hsm : Smv v) : Calls Tryz.prog 31 #[avv v.h it nm] w (CanPost (canD v).2 (canD v).1 w) := by
  obtain ⟨ai, ci, an, cn, rfl, rfl⟩ := r_slices hr
  have LA := (Low.alloc (Low.alloc (Low.refl w) _) _ : Low w ((w.alloc (.cells #[.int .i64 v.h.k, .bool v.h.b, .int .i64 v.h.n, .string v.h.s, .string v.h.t, .string v.h.i, .slice ai v.l.length ci, .slice an v.ns.length cn] 27)).alloc (.cells #[.int .i64 0, .bool false, .int .i64 0, .string ⟨#[]⟩, .string ⟨#[]⟩, .string ⟨#[]⟩, .slice none 0 0, .slice none 0 0] 27)))
  have R0 := Lib.hid (res_new (w.alloc (.cells #[.int .i64 v.h.k, .bool v.h.b, .int .i64 v.h.n, .string v.h.s, .string v.h.t, .string v.h.i, .slice ai v.l.length ci, .slice an v.ns.length cn] 27)) 27)
  rw [show (w.alloc (.cells #[.int .i64 v.h.k, .bool v.h.b, .int .i64 v.h.n, .string v.h.s, .string v.h.t, .string v.h.i, .slice ai v.l.length ci, .slice an v.ns.length cn] 27)).heap.size = w.heap.size + 1 by simp] at R0
  have CD := Lib.hid (deeper_c v _ _ _ (hr.low LA))
  have CC := Lib.hid fun W (h : Low w W) => canon_c v W _ _ (hr.low h) hsm
  have HL := Lib.hid LA
  clear hr LA hsm
  unfold avv at *
  by_cases hd : 50 < dptv v
  · have hq : canD v = (11, V0) := by unfold canD; rw [if_pos hd]
    have hb : decide (50 < dptv v) = true := decide_eq_true hd
    rw [hq]
    rw [hb] at CD
    clear hq hb hd CC
    go_enter Tryz.func31, Tryz.ntmps31
    go_wp2_with fail
    refine CD.out.mono ?_
    rintro e w1 ⟨rfl, g⟩
    have RR := Lib.hid (R0.out.low g.low)
    obtain ⟨⟨c0, c1, c2, c3, c4, c5, c6, c7⟩, f0, f1, f2, f3, f4, f5, f6, f7⟩ := RR.out.facts
    go_wp2_with fail
    refine bodyPost_ret (v := .tuple #[.agg #[.int .i64 0, .bool false, .int .i64 0, .string ⟨#[]⟩, .string ⟨#[]⟩, .string ⟨#[]⟩, .slice none 0 0, .slice none 0 0], .int .i64 11]) (by simp [results, Tryz.results31, go_sem, World.cell?_setCell_same', c0, c1, c2, c3, c4, c5, c6, c7]; try rfl) rfl ?_
    have K8 := kept8 w1 (w.heap.size + 1) (.int .i64 0) (.bool false) (.int .i64 0) (.string ⟨#[]⟩) (.string ⟨#[]⟩) (.string ⟨#[]⟩) (.slice none 0 0) (.slice none 0 0)
    exact ⟨none, 0, none, 0, rfl, rep_V0 _ _, (HL.out.trans g.low).kept K8 fun g hg => by simp at hg; omega⟩
  · have hq : canD v = can v := by unfold canD; rw [if_neg hd]
    have hb : decide (50 < dptv v) = false := decide_eq_false hd
    rw [hq]
    rw [hb] at CD
    generalize can v = q at CC ⊢
    clear hq hb hd
    go_enter Tryz.func31, Tryz.ntmps31
    go_wp2_with fail
    refine CD.out.mono ?_
    rintro e w1 ⟨rfl, g⟩
    obtain ⟨b0, b1, b2, b3, b4, b5, b6, b7⟩ := gr_box ((Gr.alloc (Gr.refl _) (.cells #[.int .i64 0, .bool false, .int .i64 0, .string ⟨#[]⟩, .string ⟨#[]⟩, .string ⟨#[]⟩, .slice none 0 0, .slice none 0 0] 27)).trans g)
    have R1 := Lib.hid (R0.out.low g.low)
    have L1 := Lib.hid (HL.out.trans g.low)
    have LZ := Lib.hid g.size
    clear g
    go_wp2_with fail
    refine (CC.out _ L1.out).mono ?_
    rintro e w2 ⟨bi, di, bn, dn, rfl, hrep, hlow⟩
    have HR := Lib.hid hrep
    have HW := Lib.hid hlow
    have RR := Lib.hid (R1.out.low hlow)
    obtain ⟨⟨c0, c1, c2, c3, c4, c5, c6, c7⟩, f0, f1, f2, f3, f4, f5, f6, f7⟩ := RR.out.facts
    clear hrep hlow
    go_wp2_with fail
    refine bodyPost_ret (v := .tuple #[.agg #[.int .i64 q.2.h.k, .bool q.2.h.b, .int .i64 q.2.h.n, .string q.2.h.s, .string q.2.h.t, .string q.2.h.i, .slice bi q.2.l.length di, .slice bn q.2.ns.length dn], .int .i64 q.1]) (by simp [results, Tryz.results31, go_sem, World.cell?_setCell_same', c0, c1, c2, c3, c4, c5, c6, c7]; try rfl) rfl ?_
    have K8 := kept8 w2 (w.heap.size + 1) (.int .i64 q.2.h.k) (.bool q.2.h.b) (.int .i64 q.2.h.n) (.string q.2.h.s) (.string q.2.h.t) (.string q.2.h.i) (.slice bi q.2.l.length di) (.slice bn q.2.ns.length dn)
    have hz := LZ.out
    simp at hz
    refine ⟨bi, di, bn, dn, rfl, Rep.to (fun b hb hlt => ⟨?_, K8.2.2.2 b hlt ?_⟩) _ HR.out, (L1.out.trans HW.out).kept K8 fun g hg => by simp at hg; omega⟩
    · omega
    · simp; omega
end Go.Proofs.YtnenjgngahipdaaGreat
namespace Go.Proofs.YtnenjgngahipdaaGreat
theorem dptL_same {l m : List V} (h : ∀ z, z ∈ l ↔ z ∈ m) : dptL l = dptL m :=
  Nat.le_antisymm (dptL_le.2 fun x hx => (dptL_le.1 (Nat.le_refl _)) x ((h x).1 hx)) (dptL_le.2 fun x hx => (dptL_le.1 (Nat.le_refl _)) x ((h x).2 hx))
theorem dptL_map {f : V → V} : ∀ {l : List V}, (∀ x ∈ l, dptv (f x) = dptv x) → dptL (l.map f) = dptL l
  | [], _ => rfl
  | x :: l, h => by rw [List.map_cons, dptL, dptL, h x (by simp), dptL_map fun y hy => h y (by simp [hy])]
theorem dpt_one {k : Int} {h : Hd} (hk : h.k = k) (h5 : k ≠ 5) (h6 : k ≠ 6) (l : List V) (ns : List ByteArray) : dptv (.mk h l ns) = 1 := by
  rw [dptv, if_neg (by omega)]
theorem dpt_up {h : Hd} (hk : h.k = 5 ∨ h.k = 6) (l : List V) (ns : List ByteArray) : dptv (.mk h l ns) = dptL l + 1 := by
  rw [dptv, if_pos hk]
theorem zip_only {ns : List ByteArray} {m : List V} (hn : ns.Nodup) {y x : ByteArray × V} (hy : y ∈ ns.zip m) (hx : x ∈ ns.zip m) (h : cmpP y x = 0) : y = x := by
  have h1 : y.1 = x.1 := cmpT_zero h
  obtain ⟨i, hi, rfl⟩ := List.getElem_of_mem hy
  obtain ⟨j, hj, rfl⟩ := List.getElem_of_mem hx
  simp only [List.getElem_zip] at h1 ⊢
  have hi' : i < ns.length := by simp at hi; omega
  have hj' : j < ns.length := by simp at hj; omega
  have hij : i = j := (List.getElem_inj (h₀ := hi') (h₁ := hj') hn).1 h1
  subst hij
  rfl
theorem recC_mem {ns : List ByteArray} {m : List V} (hn : ns.Nodup) (z : ByteArray × V) : z ∈ uniq cmpP (ns.zip m) ↔ z ∈ ns.zip m :=
  mem_uniq (S := fun p => p ∈ ns.zip m) (good_pair.mono fun _ _ => trivial) (fun _ _ hy hx h => zip_only hn hy hx h) fun _ h => h
theorem recC_items {ns : List ByteArray} {m : List V} (hn : ns.Nodup) (hl : ns.length = m.length) (z : V) : z ∈ (uniq cmpP (ns.zip m)).map (·.2) ↔ z ∈ m := by
  rw [List.mem_map]
  constructor
  · rintro ⟨p, hp, rfl⟩
    exact mem_zip_snd ((recC_mem hn p).1 hp)
  · intro hz
    obtain ⟨i, hi, rfl⟩ := List.getElem_of_mem hz
    refine ⟨(ns[i]'(by omega), m[i]), (recC_mem hn _).2 ?_, rfl⟩
    rw [List.mem_iff_getElem]
    exact ⟨i, by simp; omega, by simp⟩
theorem dpt_can_n (n : Nat) : ∀ v : V, dep v ≤ n → (can v).1 = 0 → dptv (can v).2 = dptv v := by
  induction n with
  | zero => intro v h; rw [dep_v] at h; omega
  | succ n ih =>
    intro v hd h
    have hI : (canL v.l).1 = 0 → dptL (canL v.l).2 = dptL v.l ∧ ∀ x ∈ (canL v.l).2, Cn x := fun h0 => by
      obtain ⟨h1, h2⟩ := canL_ok h0
      rw [h2]
      refine ⟨dptL_map fun x hx => ih x (by have := dep_mem hx; rw [dep_v] at hd; omega) (h1 x hx), fun x hx => ?_⟩
      obtain ⟨y, hy, rfl⟩ := List.mem_map.1 hx
      exact can_cn (h1 y hy)
    have up : v.h.k = 5 ∨ v.h.k = 6 → dptv v = dptL v.l + 1 := fun h => by rw [dpt_v]; unfold V.nest; rw [if_pos h]
    have one : ∀ k : Int, v.h.k = k → k ≠ 5 → k ≠ 6 → dptv v = 1 := fun k hk h5 h6 => by rw [v.eta]; exact dpt_one hk h5 h6 _ _
    rw [can_v] at h ⊢
    by_cases k1 : v.h.k = 1
    · rw [if_pos k1, one 1 k1 (by decide) (by decide), dpt_one (k := 1) rfl (by decide) (by decide)]
    rw [if_neg k1] at h ⊢
    by_cases k2 : v.h.k = 2
    · rw [if_pos k2, one 2 k2 (by decide) (by decide), dpt_one (k := 2) rfl (by decide) (by decide)]
    rw [if_neg k2] at h ⊢
    by_cases k3 : v.h.k = 3
    · rw [if_pos k3, one 3 k3 (by decide) (by decide), dpt_one (k := 3) rfl (by decide) (by decide)]
    rw [if_neg k3] at h ⊢
    by_cases k4 : v.h.k = 4
    · rw [if_pos k4, one 4 k4 (by decide) (by decide), dpt_one (k := 4) rfl (by decide) (by decide)]
    rw [if_neg k4] at h ⊢
    by_cases k5 : v.h.k = 5
    · rw [if_pos k5] at h ⊢
      by_cases h0 : (canL v.l).1 = 0
      · obtain ⟨e1, e2⟩ := hI h0
        rw [if_pos h0, up (.inl k5)]
        rw [dpt_up (.inl rfl)]
        rw [dptL_same fun z => mem_uniq good_cn (fun y x hy hx h => ord_zero hy hx h) e2]
        rw [e1]
      · rw [if_neg h0] at h; exact absurd h h0
    rw [if_neg k5] at h ⊢
    by_cases k6 : v.h.k = 6
    · rw [if_pos k6] at h ⊢
      by_cases hl : v.ns.length = v.l.length
      · rw [if_pos hl] at h ⊢
        by_cases h0 : (canL v.l).1 = 0
        · obtain ⟨e1, e2⟩ := hI h0
          rw [if_pos h0] at h ⊢
          unfold recC at h ⊢
          by_cases hn : v.ns.Nodup
          · rw [if_pos hn, up (.inr k6)]
            rw [dpt_up (.inr rfl)]
            rw [dptL_same fun z => recC_items hn (by have := canL_len h0; omega) z]
            rw [e1]
          · rw [if_neg hn] at h; simp at h
        · rw [if_neg h0] at h; exact absurd h h0
      · rw [if_neg hl] at h; simp at h
    · rw [if_neg k6] at h; simp at h
theorem dpt_can {v : V} (h : (can v).1 = 0) : dptv (can v).2 = dptv v := dpt_can_n (dep v) v (Nat.le_refl _) h
end Go.Proofs.YtnenjgngahipdaaGreat
namespace Go.Proofs.YtnenjgngahipdaaGreat
def B1 (x : Int) : Prop := x = -1 ∨ x = 0 ∨ x = 1
theorem ins_len {α : Type} {c : α → α → Int} {x : α} : ∀ l : List α, (ins c x l).length ≤ l.length + 1
  | [] => by simp [ins]
  | y :: l => by
    have := ins_len (c := c) (x := x) l
    rw [ins]
    split
    · simp only [List.length_cons]; omega
    · split
      · simp only [List.length_cons]; omega
      · simp
theorem uniq_len {α : Type} {c : α → α → Int} (l : List α) : (uniq c l).length ≤ l.length := by
  have gen : ∀ (l acc : List α), (l.foldl (fun acc x => ins c x acc) acc).length ≤ l.length + acc.length := by
    intro l
    induction l with
    | nil => intro acc; simp
    | cons x l ih =>
      intro acc
      have h1 := ih (ins c x acc)
      have h2 := ins_len (c := c) (x := x) acc
      simp only [List.foldl_cons, List.length_cons]
      omega
  have h := gen l []
  rw [List.length_nil, Nat.add_zero] at h
  exact h
theorem uniq_self {α : Type} {c : α → α → Int} {S : α → Prop} (g : Good c S) (hE : ∀ y x, S y → S x → c y x = 0 → y = x) {l : List α} (h : ∀ x ∈ l, S x) (hr : Rises c l) : uniq c l = l :=
  rises_unique g (fun x hx => h x ((mem_uniq g hE h).1 hx)) h (uniq_rises g hE h) hr fun _ => mem_uniq g hE h
theorem cn_only : ∀ y x : V, Cn y → Cn x → ord y x = 0 → y = x := fun _ _ hy hx h => ord_zero hy hx h
theorem can_set {h : Hd} (hk : h.k = 5) {l : List V} {ns : List ByteArray} (hn : l.length ≤ 4096) (hl : ∀ x ∈ l, (can x).1 = 0) : can (.mk h l ns) = (0, .mk { hd0 with k := 5 } (uniq ord (l.map fun x => (can x).2)) []) := by
  have e : (V.mk h l ns).h.k = 5 := hk
  have el : (V.mk h l ns).l = l := rfl
  rw [can_v, e, el, if_neg (by decide), if_neg (by decide), if_neg (by decide), if_neg (by decide), if_pos rfl, canL_of hn hl, if_pos rfl]
theorem can_twice_n (n : Nat) : ∀ v : V, dep v ≤ n → (can v).1 = 0 → can (can v).2 = (0, (can v).2) ∧ (Smv v → Smv (can v).2) := by
  induction n with
  | zero => intro v h; rw [dep_v] at h; omega
  | succ n ih =>
    intro v hd h
    have hI : (canL v.l).1 = 0 → (∀ x ∈ (canL v.l).2, Cn x ∧ can x = (0, x)) ∧ ((∀ x ∈ v.l, Smv x) → ∀ x ∈ (canL v.l).2, Smv x) := fun h0 => by
      obtain ⟨h1, h2⟩ := canL_ok h0
      rw [h2]
      have key : ∀ y ∈ v.l, can (can y).2 = (0, (can y).2) ∧ (Smv y → Smv (can y).2) := fun y hy => ih y (by have := dep_mem hy; rw [dep_v] at hd; omega) (h1 y hy)
      refine ⟨fun x hx => ?_, fun hs x hx => ?_⟩
      · obtain ⟨y, hy, rfl⟩ := List.mem_map.1 hx
        exact ⟨can_cn (h1 y hy), (key y hy).1⟩
      · obtain ⟨y, hy, rfl⟩ := List.mem_map.1 hx
        exact (key y hy).2 (hs y hy)
    have smp : ∀ h : Hd, Smv (.mk h [] []) := fun h => by rw [sm_v]; simp [V.l, V.ns]
    rw [can_v v] at h ⊢
    by_cases k1 : v.h.k = 1
    · rw [if_pos k1]; exact ⟨rfl, fun _ => smp _⟩
    rw [if_neg k1] at h ⊢
    by_cases k2 : v.h.k = 2
    · rw [if_pos k2]; exact ⟨rfl, fun _ => smp _⟩
    rw [if_neg k2] at h ⊢
    by_cases k3 : v.h.k = 3
    · rw [if_pos k3]; exact ⟨rfl, fun _ => smp _⟩
    rw [if_neg k3] at h ⊢
    by_cases k4 : v.h.k = 4
    · rw [if_pos k4]; exact ⟨rfl, fun _ => smp _⟩
    rw [if_neg k4] at h ⊢
    by_cases k5 : v.h.k = 5
    · rw [if_pos k5] at h ⊢
      by_cases h0 : (canL v.l).1 = 0
      · obtain ⟨e1, e2⟩ := hI h0
        have e3 : ∀ x ∈ (canL v.l).2, Cn x := fun x hx => (e1 x hx).1
        have hm : ∀ x ∈ uniq ord (canL v.l).2, Cn x ∧ can x = (0, x) := fun x hx => e1 x (uniq_sub hx)
        rw [if_pos h0]
        refine ⟨?_, fun hs => ?_⟩
        · show can (.mk _ _ _) = (0, .mk _ _ _)
          rw [can_set rfl (by have := uniq_len (c := ord) (canL v.l).2; have := canL_len h0; have := canL_le h0; omega) fun x hx => by rw [(hm x hx).2]]
          have : (uniq ord (canL v.l).2).map (fun x => (can x).2) = uniq ord (canL v.l).2 := by
            conv => rhs; rw [← List.map_id (uniq ord (canL v.l).2)]
            exact List.map_congr_left fun x hx => by rw [(hm x hx).2]; rfl
          rw [this, uniq_self good_cn cn_only (fun x hx => (hm x hx).1) (uniq_rises good_cn cn_only e3)]
        · rw [sm_v] at hs ⊢
          have := uniq_len (c := ord) (canL v.l).2
          have := canL_len h0
          exact ⟨by show (uniq ord (canL v.l).2).length ≤ 70000; omega, Nat.zero_le _, fun x hx => e2 hs.2.2 x (uniq_sub hx)⟩
      · rw [if_neg h0] at h; exact absurd h h0
    rw [if_neg k5] at h ⊢
    by_cases k6 : v.h.k = 6
    · rw [if_pos k6] at h ⊢
      by_cases hl : v.ns.length = v.l.length
      · rw [if_pos hl] at h ⊢
        by_cases h0 : (canL v.l).1 = 0
        · obtain ⟨e1, e2⟩ := hI h0
          rw [if_pos h0] at h ⊢
          have hn : v.ns.Nodup := by
            unfold recC at h
            by_cases hn : v.ns.Nodup
            · exact hn
            · rw [if_neg hn] at h; simp at h
          unfold recC
          rw [if_pos hn]
          obtain ⟨u, hu⟩ : ∃ u, u = uniq cmpP (v.ns.zip (canL v.l).2) := ⟨_, rfl⟩
          have hz : ∀ p, p ∈ u ↔ p ∈ v.ns.zip (canL v.l).2 := fun p => by rw [hu]; exact recC_mem hn p
          have gz : Good cmpP fun p => p ∈ v.ns.zip (canL v.l).2 := good_pair.mono fun _ _ => trivial
          have hr : Rises cmpP u := by rw [hu]; exact uniq_rises gz (fun _ _ hy hx h => zip_only hn hy hx h) fun _ h => h
          have hnu : (u.map (·.1)).Nodup := rises_nodup (by unfold Rises at hr ⊢; rw [List.pairwise_map]; exact hr)
          have hlen : u.length ≤ v.l.length := by
            rw [hu]
            have h1 := uniq_len (c := cmpP) (v.ns.zip (canL v.l).2)
            have h2 := canL_len h0
            rw [List.length_zip] at h1
            omega
          have hm : ∀ x ∈ u.map (·.2), Cn x ∧ can x = (0, x) := fun x hx => by
            obtain ⟨p, hp, rfl⟩ := List.mem_map.1 hx
            exact e1 _ (mem_zip_snd ((hz p).1 hp))
          rw [← hu]
          refine ⟨?_, fun hs => ?_⟩
          · show can (.mk _ _ _) = (0, .mk _ _ _)
            have f1 : ∀ (A : List V) (B : List ByteArray), (V.mk { hd0 with k := 6 } A B).h.k = 6 := fun _ _ => rfl
            have f2 : ∀ (A : List V) (B : List ByteArray), (V.mk { hd0 with k := 6 } A B).l = A := fun _ _ => rfl
            have f3 : ∀ (A : List V) (B : List ByteArray), (V.mk { hd0 with k := 6 } A B).ns = B := fun _ _ => rfl
            rw [can_v, f1, f2, f3, if_neg (by decide), if_neg (by decide), if_neg (by decide), if_neg (by decide), if_neg (by decide), if_pos rfl, if_pos (by simp), canL_of (by rw [List.length_map]; have := canL_le h0; omega) fun x hx => by rw [(hm x hx).2]]
            rw [if_pos rfl]
            have e4 : (u.map (·.2)).map (fun x => (can x).2) = u.map (·.2) := by
              conv => rhs; rw [← List.map_id (u.map (·.2))]
              exact List.map_congr_left fun x hx => by rw [(hm x hx).2]; rfl
            have e5 : (u.map (·.1)).zip (u.map (·.2)) = u := by
              rw [List.zip_map']
              exact List.map_id u
            unfold recC
            rw [if_pos hnu]
            simp only [e4, e5]
            rw [uniq_self (S := fun p => p ∈ u) (good_pair.mono fun _ _ => trivial) (fun y x hy hx h => zip_only hn ((hz y).1 hy) ((hz x).1 hx) h) (fun _ h => h) hr]
          · rw [sm_v] at hs ⊢
            exact ⟨by show (u.map (·.2)).length ≤ 70000; simp; omega, by show (u.map (·.1)).length ≤ 70000; simp; omega, fun x hx => by
              obtain ⟨p, hp, rfl⟩ := List.mem_map.1 hx
              exact e2 hs.2.2 _ (mem_zip_snd ((hz p).1 hp))⟩
        · rw [if_neg h0] at h; exact absurd h h0
      · rw [if_neg hl] at h; simp at h
    · rw [if_neg k6] at h; simp at h
theorem can_twice {v : V} (h : (can v).1 = 0) : can (can v).2 = (0, (can v).2) := (can_twice_n (dep v) v (Nat.le_refl _) h).1
theorem sm_can {v : V} (h : (can v).1 = 0) (hs : Smv v) : Smv (can v).2 := (can_twice_n (dep v) v (Nat.le_refl _) h).2 hs
theorem canD_ok {v : V} (h : (canD v).1 = 0) : canD v = can v ∧ ¬ 50 < dptv v := by
  unfold canD at h ⊢
  by_cases h1 : 50 < dptv v
  · rw [if_pos h1] at h; simp at h
  · rw [if_neg h1]; exact ⟨rfl, h1⟩
theorem canD_twice {v : V} (h : (canD v).1 = 0) : canD (canD v).2 = (0, (canD v).2) := by
  obtain ⟨h1, h2⟩ := canD_ok h
  rw [h1] at h ⊢
  rw [canD, if_neg (by rw [dpt_can h]; exact h2), can_twice h]
theorem canD_cn {v : V} (h : (canD v).1 = 0) : Cn (canD v).2 := by
  have e := (canD_ok h).1
  rw [e] at h ⊢
  exact can_cn h
theorem canD_sm {v : V} (h : (canD v).1 = 0) (hs : Smv v) : Smv (canD v).2 := by
  have e := (canD_ok h).1
  rw [e] at h ⊢
  exact sm_can h hs
theorem ord_same {a : V} : (ord a a == 0) = true := by rw [good_ord.refl trivial]; rfl
end Go.Proofs.YtnenjgngahipdaaGreat
namespace Go.Proofs.YtnenjgngahipdaaGreat
open Go.RowKit
set_option linter.unusedVariables false
theorem okv_n (n : Nat) : ∀ v : V, dep v ≤ n → (can v).1 = 0 → Okv (can v).2 := by
  induction n with
  | zero => intro v h; rw [dep_v] at h; omega
  | succ n ih =>
    intro v hd h
    have hI : (canL v.l).1 = 0 → ∀ x ∈ (canL v.l).2, Okv x := fun h0 x hx => by
      obtain ⟨h1, h2⟩ := canL_ok h0
      rw [h2] at hx
      obtain ⟨y, hy, rfl⟩ := List.mem_map.1 hx
      exact ih y (by have := dep_mem hy; rw [dep_v] at hd; omega) (h1 y hy)
    rw [can_v] at h ⊢
    by_cases k1 : v.h.k = 1
    · rw [if_pos k1]; exact okv_none (show (1 : Int) ≠ 6 by decide)
    rw [if_neg k1] at h ⊢
    by_cases k2 : v.h.k = 2
    · rw [if_pos k2]; exact okv_none (show (2 : Int) ≠ 6 by decide)
    rw [if_neg k2] at h ⊢
    by_cases k3 : v.h.k = 3
    · rw [if_pos k3]; exact okv_none (show (3 : Int) ≠ 6 by decide)
    rw [if_neg k3] at h ⊢
    by_cases k4 : v.h.k = 4
    · rw [if_pos k4]; exact okv_none (show (4 : Int) ≠ 6 by decide)
    rw [if_neg k4] at h ⊢
    by_cases k5 : v.h.k = 5
    · rw [if_pos k5] at h ⊢
      by_cases h0 : (canL v.l).1 = 0
      · rw [if_pos h0]
        exact .mk (fun h6 => absurd (show (5 : Int) = 6 from h6) (by decide)) fun x hx => hI h0 x (uniq_sub hx)
      · rw [if_neg h0] at h; exact absurd h h0
    rw [if_neg k5] at h ⊢
    by_cases k6 : v.h.k = 6
    · rw [if_pos k6] at h ⊢
      by_cases hn : v.ns.length = v.l.length
      · rw [if_pos hn] at h ⊢
        by_cases h0 : (canL v.l).1 = 0
        · rw [if_pos h0] at h ⊢
          unfold recC at h ⊢
          by_cases hd : v.ns.Nodup
          · rw [if_pos hd]
            refine .mk (fun _ => ⟨by simp [V.ns, V.l], ?_⟩) fun x hx => ?_
            · have gz : Good cmpP fun p => p ∈ v.ns.zip (canL v.l).2 := good_pair.mono fun _ _ => trivial
              have hr : Rises cmpP (uniq cmpP (v.ns.zip (canL v.l).2)) := uniq_rises gz (fun _ _ hy hx h => zip_only hd hy hx h) fun _ h => h
              exact rises_nodup (by unfold Rises at hr ⊢; simp only [V.ns]; rw [List.pairwise_map]; exact hr)
            · obtain ⟨p, hp, rfl⟩ := List.mem_map.1 hx
              exact hI h0 _ (mem_zip_snd (uniq_sub hp))
          · rw [if_neg hd] at h; simp at h
        · rw [if_neg h0] at h; exact absurd h h0
      · rw [if_neg hn] at h; simp at h
    · rw [if_neg k6] at h; simp at h
theorem can_okv {v : V} (h : (can v).1 = 0) : Okv (can v).2 := okv_n (dep v) v (Nat.le_refl _) h
theorem canD_okv {v : V} (h : (canD v).1 = 0) : Okv (canD v).2 := by
  have h1 := (canD_ok h).1
  rw [h1] at h ⊢
  exact can_okv h
end Go.Proofs.YtnenjgngahipdaaGreat
namespace Go.Proofs.YtnenjgngahipdaaGreat
open Go.RowKit
theorem act_list : actNm.toList = [65, 99, 116, 105, 111, 110] := by rw [ByteArray.toList_eq]; rfl
theorem not_act {s : ByteArray} (h : ¬ s = actNm) : (s.toList == [65, 99, 116, 105, 111, 110]) = false := by
  have h2 : ¬ s.toList = actNm.toList := fun e => h (tl_inj.1 e)
  rw [act_list] at h2
  simpa using h2
end Go.Proofs.YtnenjgngahipdaaGreat
namespace Go.Proofs.YtnenjgngahipdaaGreat
open Go.RowKit
set_option linter.unusedVariables false
def valS (n : Nat) (v : V) (t : T) : Bool := decide ((canD v).1 = 0) && isV n (canD v).2 t
theorem rep_any {A : Nat → Prop} {w : World} {v : V} {it nm : Value} (h : Rep A w v it nm) : R w v it nm := Rep.to (fun b _ _ => ⟨trivial, rfl⟩) v h
set_option maxHeartbeats 3200000 in
set_option maxRecDepth 100000 in
theorem value13_c (n : Nat) (v : V) (t : T) (w : World) (it nm e u : Value) (hs : Smv v) (hm : mayB n t = true) (hv : R w v it nm) (ht : RT (fun _ => True) w n t e u) :
    Calls Tryz.prog 13 #[avv v.h it nm, tv t e u] w fun r w' => r = .returned (.bool (valS n v t)) ∧ Low w w' := by
  obtain ⟨ai, ci, an', cn, rfl, rfl⟩ := r_slices hv
  obtain ⟨pe, ce, pv, cv, rfl, rfl, z1, z2, z3, z4⟩ := ht.sl
  obtain ⟨U0, hU0⟩ : ∃ U, U = w.alloc (.cells #[.int .i64 v.h.k, .bool v.h.b, .int .i64 v.h.n, .string v.h.s, .string v.h.t, .string v.h.i, .slice ai v.l.length ci, .slice an' v.ns.length cn] 27) := ⟨_, rfl⟩
  obtain ⟨U, hU⟩ : ∃ U, U = U0.alloc (.cells #[.int .i64 t.k, .string t.n, .slice pe t.l.length ce, .slice pv t.ats.length cv] 31) := ⟨_, rfl⟩
  have s0 : U0.heap.size = w.heap.size + 1 := by rw [hU0]; simp
  have L0 : Low U0 U := by rw [hU]; exact low_new (Low.refl _) _
  have LU := Lib.hid (show Low w U from (by rw [hU0]; exact low_new (Low.refl w) _ : Low w U0).trans L0)
  have BV := Lib.hid ((BoxAt.made (cs := [.int .i64 v.h.k, .bool v.h.b, .int .i64 v.h.n, .string v.h.s, .string v.h.t, .string v.h.i, .slice ai v.l.length ci, .slice an' v.ns.length cn]) hU0 rfl rfl).low L0)
  have BT := Lib.hid (BoxAt.made (cs := [.int .i64 t.k, .string t.n, .slice pe t.l.length ce, .slice pv t.ats.length cv]) hU s0 rfl)
  have CC := Lib.hid (Canon_c v U _ _ (Rep.low hv LU.out) hs)
  have HOK := Lib.hid fun h : (canD v).1 = 0 => canD_okv h
  obtain ⟨r, hr⟩ : ∃ r, r = valS n v t := ⟨_, rfl⟩
  rw [← hr]
  unfold valS at hr
  obtain ⟨c1, x, hcx⟩ : ∃ c x, canD v = (c, x) := ⟨_, _, rfl⟩
  rw [hcx] at CC HOK hr
  have HR := Lib.hid hr
  rw [hU0] at hU
  have HU := Lib.hid hU
  have HM := Lib.hid hm
  have HT := Lib.hid ht
  clear hv hs hm ht hU hU0 L0 s0 hr hcx
  unfold avv tv
  unfold avv at CC
  go_enter Tryz.func13, Tryz.ntmps13
  go_upto_region 1 with fail
  rw [← HU.out]
  clear HU
  obtain ⟨f0, f1, f2, f3, f4, f5, f6, f7⟩ := BV.out.at8
  go_wp2_with fail
  refine CC.out.mono ?_
  rintro e w2 ⟨bi, di, bn, dn, rfl, hrx, l2⟩
  have L2 := Lib.hid l2
  have HRX := Lib.hid (rep_any hrx)
  clear l2 hrx CC f0 f1 f2 f3 f4 f5 f6 f7
  go_upto_region 2 with fail
  refine gen_w (P := fun W => Code.wp _ _ _ _ W) (fun V2 hV2 => ?_)
  have LQ2 := Lib.hid (show Low w2 V2 by rw [hV2]; exact low_new (Low.refl _) _)
  have LV2 := Lib.hid (LU.out.trans (L2.out.trans LQ2.out))
  have BX := Lib.hid (BoxAt.made (cs := [.int .i64 x.h.k, .bool x.h.b, .int .i64 x.h.n, .string x.h.s, .string x.h.t, .string x.h.i, .slice bi x.l.length di, .slice bn x.ns.length dn]) hV2 rfl rfl)
  clear hV2
  obtain ⟨f0, f1, f2, f3, f4, f5, f6, f7⟩ := BX.out.at8
  obtain ⟨g0, g1, g2, g3⟩ := (BT.out.low (L2.out.trans LQ2.out)).at4
  by_cases hc1 : c1 = 0
  · have HF := Lib.hid (show isV n x t = r by rw [HR.out]; simp [hc1])
    have CO := Lib.hid (of_c n x t V2 _ _ _ _ (HOK.out hc1) HM.out (Rep.low HRX.out LQ2.out) (RT.low HT.out LV2.out))
    rw [HF.out] at CO
    unfold avv tv at CO
    subst hc1
    go_wp2_with fail
    refine CO.out.mono ?_
    rintro e w3 ⟨rfl, l3⟩
    have L3 := Lib.hid (LV2.out.trans l3)
    clear l3
    go_wp2_with fail
    go_ret
    exact ⟨rfl, L3.out⟩
  · have HF := Lib.hid (show false = r by rw [HR.out]; simp [hc1])
    have hb := beq_fv hc1
    clear hc1
    go_wp2_with fail
    go_ret
    exact ⟨retB HF.out, LV2.out⟩
/-- What Request answers. -/
def reqS (n : Nat) (acs : List Ac) (at' ai pt rt : ByteArray) (v : V) : Int := match acs.find? (fun a => eqN ai a.nm) with
  | none => 41
  | some a => if at' = actNm ∧ hasN a.ps pt = true ∧ hasN a.rs rt = true then (if (canD v).1 = 0 then (if isV (n + 1) (canD v).2 (recT a.ats) = true then 0 else 41) else (canD v).1) else 41
theorem find_firstA {l : List Ac} {f : Ac → Bool} {i : Nat} (hi : i < l.length) (h : firstI l f = (i : Int)) : l.find? f = some l[i] := by
  rcases firstI_cases l f with ⟨k, hk, h1, h2, h3⟩ | ⟨h1, -⟩
  · obtain rfl : k = i := by omega
    rw [List.find?_eq_some_iff_getElem]
    exact ⟨h2, k, hk, rfl, fun j hj => by simp [h3 j (by omega) hj]⟩
  · omega
theorem find_noneA {l : List Ac} {f : Ac → Bool} (h : firstI l f = -1) : l.find? f = none := by
  rcases firstI_cases l f with ⟨k, hk, h1, h2, h3⟩ | ⟨-, h1⟩
  · omega
  · rw [List.find?_eq_none]
    intro x hx
    obtain ⟨j, hj, rfl⟩ := List.getElem_of_mem hx
    simp [h1 j hj]
/-- A request's cells. -/
def rqcs (pt pi at' ai rt ri : ByteArray) (h : Hd) (it nm : Value) : List Value := [.string pt, .string pi, .string at', .string ai, .string rt, .string ri, .int .i64 h.k, .bool h.b, .int .i64 h.n, .string h.s, .string h.t, .string h.i, it, nm]
theorem rq14 {w : World} {n : Nat} {pt pi at' ai rt ri : ByteArray} {h : Hd} {it nm : Value} (b : BoxAt w n (rqcs pt pi at' ai rt ri h it nm)) :
    w.cell? ⟨n, 0, none⟩ = some (.string pt) ∧ w.cell? ⟨n, 2, none⟩ = some (.string at') ∧ w.cell? ⟨n, 3, none⟩ = some (.string ai) ∧ w.cell? ⟨n, 4, none⟩ = some (.string rt) ∧
    w.cell? ⟨n, 6, none⟩ = some (.int .i64 h.k) ∧ w.cell? ⟨n, 7, none⟩ = some (.bool h.b) ∧ w.cell? ⟨n, 8, none⟩ = some (.int .i64 h.n) ∧ w.cell? ⟨n, 9, none⟩ = some (.string h.s) ∧ w.cell? ⟨n, 10, none⟩ = some (.string h.t) ∧ w.cell? ⟨n, 11, none⟩ = some (.string h.i) ∧ w.cell? ⟨n, 12, none⟩ = some it ∧ w.cell? ⟨n, 13, none⟩ = some nm :=
  ⟨b.at 0 _ rfl, b.at 2 _ rfl, b.at 3 _ rfl, b.at 4 _ rfl, b.at 6 _ rfl, b.at 7 _ rfl, b.at 8 _ rfl, b.at 9 _ rfl, b.at 10 _ rfl, b.at 11 _ rfl, b.at 12 _ rfl, b.at 13 _ rfl⟩
theorem BoxAt.at5 {w : World} {n : Nat} {c0 c1 c2 c3 c4 : Value} (h : BoxAt w n [c0, c1, c2, c3, c4]) : w.cell? ⟨n, 2, none⟩ = some c2 ∧ w.cell? ⟨n, 3, none⟩ = some c3 ∧ w.cell? ⟨n, 4, none⟩ = some c4 := ⟨h.at 2 _ rfl, h.at 3 _ rfl, h.at 4 _ rfl⟩
set_option maxHeartbeats 12800000 in
set_option maxRecDepth 100000 in
theorem request_c (n : Nat) (acs : List Ac) (pt pi at' ai rt ri : ByteArray) (v : V) (w : World) (vt va it nm : Value) (hvt : ∃ p m c, vt = .slice p m c) (h : AcsAt n w acs va) (hs : Smv v) (hm : ∀ a ∈ acs, mayB (n + 1) (recT a.ats) = true) (hv : R w v it nm) :
    Calls Tryz.prog 24 #[.agg #[vt, va], .agg (rqcs pt pi at' ai rt ri v.h it nm).toArray] w fun r w' => r = .returned (.int .i64 (reqS n acs at' ai pt rt v)) ∧ Low w w' := by
  obtain ⟨pb, mb, cb, rfl⟩ := hvt
  obtain ⟨p, c, rfl, z1, z2⟩ := RowB.sl h
  obtain ⟨qi, ci, qn, cn, rfl, rfl⟩ := r_slices hv
  obtain ⟨U0, hU0⟩ : ∃ U, U = w.alloc (.cells #[.slice pb mb cb, .slice p acs.length c] 46) := ⟨_, rfl⟩
  obtain ⟨U, hU⟩ : ∃ U, U = U0.alloc (.cells (rqcs pt pi at' ai rt ri v.h (.slice qi v.l.length ci) (.slice qn v.ns.length cn)).toArray 56) := ⟨_, rfl⟩
  have s0 : U0.heap.size = w.heap.size + 1 := by rw [hU0]; simp
  have L0 : Low U0 U := by rw [hU]; exact low_new (Low.refl _) _
  have LU := Lib.hid (show Low w U from (by rw [hU0]; exact low_new (Low.refl w) _ : Low w U0).trans L0)
  have BS := Lib.hid ((BoxAt.made (cs := [.slice pb mb cb, .slice p acs.length c]) hU0 rfl rfl).low L0)
  have BQ := Lib.hid (BoxAt.made (cs := rqcs pt pi at' ai rt ri v.h (.slice qi v.l.length ci) (.slice qn v.ns.length cn)) hU s0 rfl)
  have CA := Lib.hid (act9_c n acs ai U (.slice pb mb cb) _ (h.low LU.out))
  have HOK := Lib.hid fun h : (canD v).1 = 0 => canD_okv h
  have HN := Lib.hid (show firstI acs (fun a => eqN ai a.nm) = -1 → 41 = reqS n acs at' ai pt rt v from fun h => by unfold reqS; rw [find_noneA h])
  have HY := Lib.hid (show ∀ i (hi : i < acs.length), firstI acs (fun a => eqN ai a.nm) = (i : Int) → reqS n acs at' ai pt rt v = if at' = actNm ∧ hasN acs[i].ps pt = true ∧ hasN acs[i].rs rt = true then (if (canD v).1 = 0 then (if isV (n + 1) (canD v).2 (recT acs[i].ats) = true then 0 else 41) else (canD v).1) else 41 from fun i hi h => by unfold reqS; rw [find_firstA hi h])
  obtain ⟨r, hr⟩ : ∃ r, r = reqS n acs at' ai pt rt v := ⟨_, rfl⟩
  rw [← hr] at HN HY ⊢
  have CC := Lib.hid fun W (l : Low U W) => Canon_c v W _ _ (Rep.low hv (LU.out.trans l)) hs
  obtain ⟨c1, x, hcx⟩ : ∃ c x, canD v = (c, x) := ⟨_, _, rfl⟩
  rw [hcx] at CC HOK HY
  rw [hU0] at hU
  unfold rqcs at hU
  have HU := Lib.hid hU
  have HM := Lib.hid hm
  clear hv hs hm h hU hU0 L0 s0 hr hcx
  unfold avv at CC
  unfold rqcs
  go_enter Tryz.func24, Tryz.ntmps24
  go_upto_region 1 with fail
  rw [← HU.out]
  clear HU
  obtain ⟨d0, d2, d3, d4, d6, d7, d8, d9, d10, d11, d12, d13⟩ := rq14 BQ.out
  have g0 := BS.out.at 0 _ rfl
  have g1 := BS.out.at 1 _ rfl
  go_wp2_with fail
  refine CA.out.mono ?_
  rintro e w1 ⟨nm, pi2, li, ci2, pp, lp, cp, pr, lr, cr, pa, la, ca, q, rfl, l1, hq⟩
  have L1 := Lib.hid l1
  have HQ := Lib.hid hq
  clear l1 hq CA d0 d2 d3 d4 d6 d7 d8 d9 d10 d11 d12 d13 g0 g1
  go_upto_region 2 with fail
  refine gen_w (P := fun W => Code.wp _ _ _ _ W) (fun V1 hV1 => ?_)
  have LQ1 := Lib.hid (show Low w1 V1 by rw [hV1]; exact low_new (Low.refl _) _)
  have LV1 := Lib.hid (L1.out.trans LQ1.out)
  have BA := Lib.hid (BoxAt.made (cs := [.string nm, .slice pi2 li ci2, .slice pp lp cp, .slice pr lr cr, .slice pa la ca]) hV1 rfl rfl)
  clear hV1
  obtain ⟨d0, d2, d3, d4, d6, d7, d8, d9, d10, d11, d12, d13⟩ := rq14 (BQ.out.low LV1.out)
  obtain ⟨a2, a3, a4⟩ := BA.out.at5
  have LWV := Lib.hid (LU.out.trans LV1.out)
  rcases HQ.out with ⟨rfl, hf, -⟩ | ⟨rfl, i, hi, hf, rfl, rfl, rfl, rfl, rfl, hps, hrs, has⟩
  · have HF := Lib.hid (HN.out hf)
    clear hf
    go_wp2_with fail
    go_ret
    exact ⟨retI HF.out, LWV.out⟩
  · have HYI := Lib.hid (HY.out i hi hf)
    have hmt := HM.out acs[i] (List.getElem_mem hi)
    clear hf HN HY
    obtain ⟨A, hA⟩ : ∃ A, A = acs[i] := ⟨_, rfl⟩
    rw [← hA] at HYI hmt hps hrs has a2 a3 a4 BA
    simp only [← hA]
    clear hA
    have CP := Lib.hid (contains_c A.ps pt V1 _ (hps.low LQ1.out))
    have CR := Lib.hid (contains_c A.rs rt V1 _ (hrs.low LQ1.out))
    have HAT := Lib.hid has
    have HMT := Lib.hid hmt
    obtain ⟨q1, hq1⟩ : ∃ q, q = hasN A.ps pt := ⟨_, rfl⟩
    obtain ⟨q2, hq2⟩ : ∃ q, q = hasN A.rs rt := ⟨_, rfl⟩
    rw [← hq1] at CP HYI
    rw [← hq2] at CR HYI
    clear hps hrs has hmt hq1 hq2
    by_cases hact : at' = actNm
    case neg =>
      have HF := Lib.hid (show 41 = r by rw [HYI.out, if_neg fun h => hact h.1])
      have he4 := not_act hact
      clear hact
      go_wp2_with fail
      go_ret
      exact ⟨retI HF.out, LWV.out⟩
    case pos =>
      have HAC := Lib.hid hact
      rw [hact] at d2
      unfold actNm at d2
      clear hact
      cases q1 with
      | false =>
        have HF := Lib.hid (show 41 = r by rw [HYI.out, if_neg fun h => by simp at h])
        go_wp2_with fail
        refine CP.out.mono ?_
        rintro e w' ⟨rfl, rfl⟩
        go_wp2_with fail
        go_ret
        exact ⟨retI HF.out, LWV.out⟩
      | true =>
        cases q2 with
        | false =>
          have HF := Lib.hid (show 41 = r by rw [HYI.out, if_neg fun h => by simp at h])
          go_wp2_with fail
          refine CP.out.mono ?_
          rintro e w' ⟨rfl, rfl⟩
          go_wp2_with fail
          refine CR.out.mono ?_
          rintro e w' ⟨rfl, rfl⟩
          go_wp2_with fail
          go_ret
          exact ⟨retI HF.out, LWV.out⟩
        | true =>
          have HF1 := Lib.hid (show r = if c1 = 0 then (if isV (n + 1) x (recT A.ats) = true then 0 else 41) else c1 by rw [HYI.out, if_pos ⟨HAC.out, rfl, rfl⟩])
          have CC1 := Lib.hid (CC.out V1 LV1.out)
          clear CC HYI
          go_wp2_with fail
          refine CP.out.mono ?_
          rintro e w' ⟨rfl, rfl⟩
          go_wp2_with fail
          refine CR.out.mono ?_
          rintro e w' ⟨rfl, rfl⟩
          go_wp2_with fail
          refine CC1.out.mono ?_
          rintro e w2 ⟨bi, di, bn, dn, rfl, hrx, l2⟩
          have L2 := Lib.hid l2
          have HRX := Lib.hid (rep_any hrx)
          clear l2 hrx CC1 d0 d2 d3 d4 d6 d7 d8 d9 d10 d11 d12 d13 a2 a3 a4
          go_upto_region 5 with fail
          refine gen_w (P := fun W => Code.wp _ _ _ _ W) (fun V2 hV2 => ?_)
          have LQ2 := Lib.hid (show Low w2 V2 by rw [hV2]; exact low_new (Low.refl _) _)
          have LV2 := Lib.hid (L2.out.trans LQ2.out)
          have BX := Lib.hid (BoxAt.made (cs := [.int .i64 x.h.k, .bool x.h.b, .int .i64 x.h.n, .string x.h.s, .string x.h.t, .string x.h.i, .slice bi x.l.length di, .slice bn x.ns.length dn]) hV2 rfl rfl)
          clear hV2
          by_cases hc1 : c1 = 0
          case neg =>
            have HF := Lib.hid (show c1 = r by rw [HF1.out, if_neg hc1])
            have hb := beq_fv hc1
            clear hc1
            go_wp2_with fail
            go_ret
            exact ⟨retI HF.out, LWV.out.trans LV2.out⟩
          case pos =>
            have HF2 := Lib.hid (show r = if isV (n + 1) x (recT A.ats) = true then 0 else 41 by rw [HF1.out, if_pos hc1])
            have HOX := Lib.hid (HOK.out hc1)
            subst hc1
            have CR2 := Lib.hid fun q : InL V2 => Calls.low q (recordType_c (.slice pa A.ats.length ca) pa A.ats.length ca rfl q.w)
            have CO := Lib.hid fun q : InL V2 => Calls.low q (of_c (n + 1) x (recT A.ats) q.w _ _ _ _ HOX.out HMT.out (Rep.low HRX.out (LQ2.out.trans q.ok)) (rec_rt (RAs.low HAT.out (LQ1.out.trans (LV2.out.trans q.ok)))))
            obtain ⟨z, hz⟩ : ∃ z, z = isV (n + 1) x (recT A.ats) := ⟨_, rfl⟩
            rw [← hz] at CO HF2
            unfold avv tv recT at CO
            simp only [T.k, T.n] at CO
            clear hz
            haveI := InL.some V2
            have f0 := fun q : InL V2 => q.cell (BX.out.at8).1
            have f1 := fun q : InL V2 => q.cell (BX.out.at8).2.1
            have f2 := fun q : InL V2 => q.cell (BX.out.at8).2.2.1
            have f3 := fun q : InL V2 => q.cell (BX.out.at8).2.2.2.1
            have f4 := fun q : InL V2 => q.cell (BX.out.at8).2.2.2.2.1
            have f5 := fun q : InL V2 => q.cell (BX.out.at8).2.2.2.2.2.1
            have f6 := fun q : InL V2 => q.cell (BX.out.at8).2.2.2.2.2.2.1
            have f7 := fun q : InL V2 => q.cell (BX.out.at8).2.2.2.2.2.2.2
            have a4 := fun q : InL V2 => q.cell ((BA.out.low LV2.out).at5).2.2
            go_upto_region 7 with fail
            refine wp_region_low mixedT (by kernel_rfl) ?_
            repeat (go_big_quiet_step (first | with_reducible exact CR2.out _ | with_reducible exact CO.out _))
            refine wpQuiet_nil ?_
            rintro W8 ⟨p8, hW8⟩
            have L8 := Lib.hid (show Low V2 W8 by rw [hW8]; exact p8.ok)
            clear hW8 p8 f0 f1 f2 f3 f4 f5 f6 f7 a4 CO CR2 this
            cases z with
            | false =>
              have HF := Lib.hid (show 41 = r by rw [HF2.out]; rfl)
              go_wp2_with fail
              go_ret
              exact ⟨retI HF.out, LWV.out.trans (LV2.out.trans L8.out)⟩
            | true =>
              have HF := Lib.hid (show 0 = r by rw [HF2.out]; rfl)
              go_wp2_with fail
              go_ret
              exact ⟨retI HF.out, LWV.out.trans (LV2.out.trans L8.out)⟩
end Go.Proofs.YtnenjgngahipdaaGreat
