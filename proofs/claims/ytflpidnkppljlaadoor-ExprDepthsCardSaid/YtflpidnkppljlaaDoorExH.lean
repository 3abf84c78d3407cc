/- rel: case 5. Condition: as in the texts that are imported. rel: case 6. Condition: as in the texts that are imported. -/
import Derived.Test.YtflpidnkppljlaaDoorExE
set_option linter.unusedVariables false
set_option linter.unnecessarySimpa false
set_option linter.unusedSimpArgs false
namespace Go.Proofs.YtflpidnkppljlaaDoor
open Go.RowKit
section
variable {b : Nat} {ao : Option Addr} {cap : Nat} {l : List Wd}
set_option maxHeartbeats 16000000 in
set_option maxRecDepth 100000 in
theorem rel_5 (hl : l.length ≤ 70000) (ht : ∀ x ∈ l, x.k = 1 → x.t.length ≤ 70000) {d f : Nat} {s : Rd Unit} (w : World) (h : St b ao cap l (d : Int) s w) (hm : Ms l (f + 1) 3 s) (i4 : ∀ f', f' ≤ f → RuleC b ao cap l 74 4 f' d)
     (q0 : tkB l (s.then fun _ a => rdE l f 4 d a).unit 5 [61, 61] = false) (q1 : tkB l (s.then fun _ a => rdE l f 4 d a).unit 5 [33, 61] = false) (q2 : tkB l (s.then fun _ a => rdE l f 4 d a).unit 5 [60] = false) (q3 : tkB l (s.then fun _ a => rdE l f 4 d a).unit 5 [60, 61] = false) (q4 : tkB l (s.then fun _ a => rdE l f 4 d a).unit 5 [62] = false) (qy : tkB l (s.then fun _ a => rdE l f 4 d a).unit 5 [62, 61] = true) :
    Calls Tryd.prog 70 #[.pointer (some ⟨b, 0, none⟩)] w (RuleP b ao cap l (d : Int) (s.then fun _ a => rdE l (f + 1) 3 d a) w) := by
  have H := Lib.hid h
  have HBW := Lib.hid (st_lt h)
  have HTL := Lib.hid ht
  have I4 := Lib.hid i4
  have HM := Lib.hid hm
  have HMS := Lib.hid (show Ms l f 4 s by
    cases s with
    | bad e p => have : 12 - 3 ≤ f + 1 := hm; show 12 - 4 ≤ f; omega
    | ok u a => have : 12 * leftW l a + 12 - 3 ≤ f + 1 := hm; show 12 * leftW l a + 12 - 4 ≤ f; omega)
  obtain ⟨R1, hR1⟩ : ∃ R1, R1 = s.then fun _ a => rdE l f 4 d a := ⟨_, rfl⟩
  rw [← hR1] at q0 q1 q2 q3 q4 qy
  obtain ⟨m, hm1, hm2, hm3⟩ := tkS_yes (by decide) qy
  obtain ⟨x1, hx1⟩ : ∃ x1, R1 = .ok x1 (m : Int) := by
    cases hr : R1 with
    | bad e p => rw [hr] at hm1; cases hm1
    | ok y n => rw [hr] at hm1; injection hm1 with _ hm1; subst hm1; exact ⟨y, rfl⟩
  have q : ∀ j, j < 9 → tkB l R1.unit (marksR.getD j (0, [])).1 (marksR.getD j (0, [])).2 = isW l (m : Int) (marksR.getD j (0, [])).1 (marksR.getD j (0, [])).2 := fun j _ => by rw [hm1]; rfl
  have hlt : Ms l f 4 (.ok () ((m : Int) + 1)) := rel_ms hm hR1 hx1 hm2
  have hno : ∀ j, j < 5 → isW l (m : Int) (marksR.getD j (0, [])).1 (marksR.getD j (0, [])).2 = false := fun j hj => by rw [← q j (by omega)]; match j, hj with
    | 0, _ => exact q0
    | 1, _ => exact q1
    | 2, _ => exact q2
    | 3, _ => exact q3
    | 4, _ => exact q4
  have hrel : relAt l (m : Int) = some 5 := relAt_op 5 (by decide) hno (by rw [← q 5 (by decide)]; exact qy)
  clear hno
  have HR := Lib.hid (show (s.then fun _ a => rdE l (f + 1) 3 d a) = (rdE l f 4 d ((m : Int) + 1)).then fun y n => .ok (relE 5 x1 y) n by rw [rel_all, ← hR1, hx1]; simp only [Rd.then]; unfold relR; rw [hrel]; rfl)
  have HLT := Lib.hid hlt
  have HX1 := Lib.hid hx1
  have HS3 := Lib.hid hm3
  clear q hlt hrel hm1 hm2 hm3 hx1
  have HE1 := Lib.hid hR1.symm
  clear h ht i4 hm hR1
  go_enter Tryd.func70, Tryd.ntmps70
  go_wp2_with fail
  refine (I4.out f (Nat.le_refl _) s _ (H.out.new _) HMS.out).mono ?_
  rintro e w1 ⟨x0, p0, rfl, x1', s1, l1, ok1⟩
  rw [HE1.out] at s1 ok1
  have X1 := Lib.hid (x1'.ltE)
  have L1 := Lib.hid l1
  have HSZ := Lib.hid (show w.heap.size + 1 ≤ w1.heap.size by have := l1.size; simpa using this)
  have S1 := Lib.hid s1
  have OK1 := Lib.hid ok1
  clear x1' s1 l1 ok1
  have XB := Lib.hid (show XAt (Ap1 w.heap.size w1.heap.size) (w1.alloc (.cells #[.int .i64 x0.op, .int .i64 x0.v.k, .bool x0.v.b, .int .i64 x0.v.n, .string ⟨x0.v.s.toArray⟩, .string ⟨x0.v.t.toArray⟩, .string ⟨x0.v.i.toArray⟩, .slice none 0 0, .slice none 0 0, .string ⟨x0.nm.toArray⟩, .slice p0.ka x0.ks.length p0.kc, .slice p0.na x0.ns.length p0.nc] 30)) x0 p0 from (X1.out.low (low_new (Low.refl w1) (.cells #[.int .i64 x0.op, .int .i64 x0.v.k, .bool x0.v.b, .int .i64 x0.v.n, .string ⟨x0.v.s.toArray⟩, .string ⟨x0.v.t.toArray⟩, .string ⟨x0.v.i.toArray⟩, .slice none 0 0, .slice none 0 0, .string ⟨x0.nm.toArray⟩, .slice p0.ka x0.ks.length p0.kc, .slice p0.na x0.ns.length p0.nc] 30))).base fun g hg => ⟨by have hg1 : (w.alloc _).heap.size ≤ g := hg.1; have e : ∀ o, (w.alloc o).heap.size = w.heap.size + 1 := (fun o => by simp); rw [e] at hg1; omega, by have := hg.2; omega⟩)
  have SB := Lib.hid (S1.out.new (.cells #[.int .i64 x0.op, .int .i64 x0.v.k, .bool x0.v.b, .int .i64 x0.v.n, .string ⟨x0.v.s.toArray⟩, .string ⟨x0.v.t.toArray⟩, .string ⟨x0.v.i.toArray⟩, .slice none 0 0, .slice none 0 0, .string ⟨x0.nm.toArray⟩, .slice p0.ka x0.ks.length p0.kc, .slice p0.na x0.ns.length p0.nc] 30))
  have LB := Lib.hid (L1.out.alloc (.cells #[.int .i64 x0.op, .int .i64 x0.v.k, .bool x0.v.b, .int .i64 x0.v.n, .string ⟨x0.v.s.toArray⟩, .string ⟨x0.v.t.toArray⟩, .string ⟨x0.v.i.toArray⟩, .slice none 0 0, .slice none 0 0, .string ⟨x0.nm.toArray⟩, .slice p0.ka x0.ks.length p0.kc, .slice p0.na x0.ns.length p0.nc] 30))
  have BB := Lib.hid (show BoxE w1.heap.size x0 p0 (w1.alloc (.cells #[.int .i64 x0.op, .int .i64 x0.v.k, .bool x0.v.b, .int .i64 x0.v.n, .string ⟨x0.v.s.toArray⟩, .string ⟨x0.v.t.toArray⟩, .string ⟨x0.v.i.toArray⟩, .slice none 0 0, .slice none 0 0, .string ⟨x0.nm.toArray⟩, .slice p0.ka x0.ks.length p0.kc, .slice p0.na x0.ns.length p0.nc] 30)) from BoxE.new w1 x0 p0 _)
  have HKB := Lib.hid (show w1.heap.size ≠ b by have := HSZ.out; have := HBW.out; omega)
  unfold exv
  go_wp2_with fail
  have HT0 := Lib.hid (takes_c hl 5 (by decide) [61, 61] _ SB.out)
  rw [q0, tkS_no q0] at HT0
  refine HT0.out.mono ?_
  rintro e w20 ⟨rfl, s2, l2⟩
  have S20 := Lib.hid s2
  have L20 := Lib.hid (LB.out.trans l2)
  have B20 := Lib.hid (BB.out.lx l2 HKB.out)
  have X20 := Lib.hid (XB.out.lx l2 (fun g hg => by have := hg.1; have := HBW.out; omega))
  clear s2 l2 HT0
  have HT1 := Lib.hid (takes_c hl 5 (by decide) [33, 61] _ S20.out)
  rw [q1, tkS_no q1] at HT1
  go_wp2_with fail
  refine HT1.out.mono ?_
  rintro e w21 ⟨rfl, s2, l2⟩
  have S21 := Lib.hid s2
  have L21 := Lib.hid (L20.out.trans l2)
  have B21 := Lib.hid (B20.out.lx l2 HKB.out)
  have X21 := Lib.hid (X20.out.lx l2 (fun g hg => by have := hg.1; have := HBW.out; omega))
  clear s2 l2 HT1
  have HT2 := Lib.hid (takes_c hl 5 (by decide) [60] _ S21.out)
  rw [q2, tkS_no q2] at HT2
  go_wp2_with fail
  refine HT2.out.mono ?_
  rintro e w22 ⟨rfl, s2, l2⟩
  have S22 := Lib.hid s2
  have L22 := Lib.hid (L21.out.trans l2)
  have B22 := Lib.hid (B21.out.lx l2 HKB.out)
  have X22 := Lib.hid (X21.out.lx l2 (fun g hg => by have := hg.1; have := HBW.out; omega))
  clear s2 l2 HT2
  have HT3 := Lib.hid (takes_c hl 5 (by decide) [60, 61] _ S22.out)
  rw [q3, tkS_no q3] at HT3
  go_wp2_with fail
  refine HT3.out.mono ?_
  rintro e w23 ⟨rfl, s2, l2⟩
  have S23 := Lib.hid s2
  have L23 := Lib.hid (L22.out.trans l2)
  have B23 := Lib.hid (B22.out.lx l2 HKB.out)
  have X23 := Lib.hid (X22.out.lx l2 (fun g hg => by have := hg.1; have := HBW.out; omega))
  clear s2 l2 HT3
  have HT4 := Lib.hid (takes_c hl 5 (by decide) [62] _ S23.out)
  rw [q4, tkS_no q4] at HT4
  go_wp2_with fail
  refine HT4.out.mono ?_
  rintro e w24 ⟨rfl, s2, l2⟩
  have S24 := Lib.hid s2
  have L24 := Lib.hid (L23.out.trans l2)
  have B24 := Lib.hid (B23.out.lx l2 HKB.out)
  have X24 := Lib.hid (X23.out.lx l2 (fun g hg => by have := hg.1; have := HBW.out; omega))
  clear s2 l2 HT4
  have HT5 := Lib.hid (takes_c hl 5 (by decide) [62, 61] _ S24.out)
  rw [qy, HS3.out] at HT5
  go_wp2_with fail
  refine HT5.out.mono ?_
  rintro e w25 ⟨rfl, s2, l2⟩
  have S25 := Lib.hid s2
  have L25 := Lib.hid (L24.out.trans l2)
  have B25 := Lib.hid (B24.out.lx l2 HKB.out)
  have X25 := Lib.hid (X24.out.lx l2 (fun g hg => by have := hg.1; have := HBW.out; omega))
  clear s2 l2 HT5
  have HWL := Lib.hid (show w1.heap.size < w25.heap.size from B25.out.lt)
  obtain ⟨⟨b0, b1, b2, b3, b4, b5, b6, b7, b8, b9, b10, b11⟩, -⟩ := B25.out
  have HC := Lib.hid (I4.out f (Nat.le_refl _) (.ok () ((m : Int) + 1)) w25.drew (S25.out.low (Low.of_drew ⟨1, rfl⟩)) HLT.out)
  go_wp2_with fail
  go_region_law (first
    | (go_simp; (fail_if_success (have := Y3)); go_at_call 74; (with_reducible refine HC.out.mono ?_); rintro e w3 ⟨y, q, rfl, y3, s3, l3, ok3⟩; have S3 := Lib.hid s3; have L3 := Lib.hid (L25.out.trans ((lx_draw b w25).trans l3)); have X3 := Lib.hid (((X25.out.low (Low.of_drew ⟨1, rfl⟩)).lx l3 (fun g hg => by have := hg.1; have := HBW.out; omega)).base fun g hg => hg.1); have Y3 := Lib.hid (y3.base (A' := fun g => w.heap.size < g) fun g hg => by have hg : w25.heap.size ≤ g := hg; have := HSZ.out; have := HWL.out; omega); have HW3 := Lib.hid (show w25.heap.size ≤ w3.heap.size from l3.size); have OK3 := Lib.hid ok3; have B3 := Lib.hid ((B25.out.low (Low.of_drew ⟨1, rfl⟩)).lx l3 HKB.out); obtain ⟨⟨d0, d1, d2, d3, d4, d5, d6, d7, d8, d9, d10, d11⟩, -⟩ := B3.out; clear y3 s3 l3 ok3; unfold exv)
    | (go_simp; go_at_call 48; (with_reducible refine (node_c _ _ _ _ _).mono ?_); rintro e w4 ⟨rfl, l4⟩; have L4 := Lib.hid (L3.out.low' (low_of1 l4)); have S4 := Lib.hid (S3.out.low (low_of1 l4)); have X4 := Lib.hid ((nod_at (A := fun g => w.heap.size < g) 10 [(y, q), (x0, p0)] (by simp) (by have := HSZ.out; have := HWL.out; have := HW3.out; omega) (fun z hz => by
            simp only [List.mem_cons, List.not_mem_nil, or_false] at hz
            rcases hz with rfl | rfl
            · exact Y3.out
            · exact X3.out) _ _ rfl [] _ rfl _ rfl).low l4); clear l4; unfold ndv; obtain ⟨⟨c0, c1, c2, c3, c4, c5, c6, c7, c8, c9, c10, c11⟩, fz⟩ := box12 L4.out HBW.out))
  all_goals
    go_wp2_with fail
    obtain ⟨E0, E1, E2, E3, E4, E5, E6, E7, E8, E9, E10, E11⟩ := put12 c0 c1 c2 c3 c4 c5 c6 c7 c8 c9 c10 c11
    refine bodyPost_ret (v := .agg #[.int .i64 10, .int .i64 0, .bool false, .int .i64 0, .string ⟨#[]⟩, .string ⟨#[]⟩, .string ⟨#[]⟩, .slice none 0 0, .slice none 0 0, .string ⟨#[]⟩, .slice (some ⟨w3.heap.size, 0, none⟩) 2 2, .slice none 0 0]) (by simp [results, Tryd.results70, go_sem, E0, E1, E2, E3, E4, E5, E6, E7, E8, E9, E10, E11]) rfl ?_
    exact ⟨nodE 10 [y, x0], ⟨some ⟨w3.heap.size, 0, none⟩, 2, none, 0⟩, rfl, (tow_xa X4.out (fun g hg => by have hg : w.heap.size < g := hg; omega)).base (fun g hg => Nat.le_of_lt hg), by rw [HR.out, rel_then]; exact tow_st S4.out HBW.out, tow_lx (((Lx.refl b w).alloc _).trans L4.out), fun v k h => by rw [HR.out] at h; obtain ⟨y1, j, h1, h2⟩ := then_ok.1 h; injection h2 with h2; rw [← h2, ← OK3.out y1 j h1, OK1.out x1 _ HX1.out]; rfl⟩
end
end Go.Proofs.YtflpidnkppljlaaDoor
namespace Go.Proofs.YtflpidnkppljlaaDoor
open Go.RowKit
section
variable {b : Nat} {ao : Option Addr} {cap : Nat} {l : List Wd}
set_option maxHeartbeats 16000000 in
set_option maxRecDepth 100000 in
theorem rel_6 (hl : l.length ≤ 70000) (ht : ∀ x ∈ l, x.k = 1 → x.t.length ≤ 70000) {d f : Nat} {s : Rd Unit} (w : World) (h : St b ao cap l (d : Int) s w) (hm : Ms l (f + 1) 3 s) (i4 : ∀ f', f' ≤ f → RuleC b ao cap l 74 4 f' d)
     (q0 : tkB l (s.then fun _ a => rdE l f 4 d a).unit 5 [61, 61] = false) (q1 : tkB l (s.then fun _ a => rdE l f 4 d a).unit 5 [33, 61] = false) (q2 : tkB l (s.then fun _ a => rdE l f 4 d a).unit 5 [60] = false) (q3 : tkB l (s.then fun _ a => rdE l f 4 d a).unit 5 [60, 61] = false) (q4 : tkB l (s.then fun _ a => rdE l f 4 d a).unit 5 [62] = false) (q5 : tkB l (s.then fun _ a => rdE l f 4 d a).unit 5 [62, 61] = false) (qy : tkB l (s.then fun _ a => rdE l f 4 d a).unit 1 [105, 110] = true) :
    Calls Tryd.prog 70 #[.pointer (some ⟨b, 0, none⟩)] w (RuleP b ao cap l (d : Int) (s.then fun _ a => rdE l (f + 1) 3 d a) w) := by
  have H := Lib.hid h
  have HBW := Lib.hid (st_lt h)
  have HTL := Lib.hid ht
  have I4 := Lib.hid i4
  have HM := Lib.hid hm
  have HMS := Lib.hid (show Ms l f 4 s by
    cases s with
    | bad e p => have : 12 - 3 ≤ f + 1 := hm; show 12 - 4 ≤ f; omega
    | ok u a => have : 12 * leftW l a + 12 - 3 ≤ f + 1 := hm; show 12 * leftW l a + 12 - 4 ≤ f; omega)
  obtain ⟨R1, hR1⟩ : ∃ R1, R1 = s.then fun _ a => rdE l f 4 d a := ⟨_, rfl⟩
  rw [← hR1] at q0 q1 q2 q3 q4 q5 qy
  obtain ⟨m, hm1, hm2, hm3⟩ := tkS_yes (by decide) qy
  obtain ⟨x1, hx1⟩ : ∃ x1, R1 = .ok x1 (m : Int) := by
    cases hr : R1 with
    | bad e p => rw [hr] at hm1; cases hm1
    | ok y n => rw [hr] at hm1; injection hm1 with _ hm1; subst hm1; exact ⟨y, rfl⟩
  have q : ∀ j, j < 9 → tkB l R1.unit (marksR.getD j (0, [])).1 (marksR.getD j (0, [])).2 = isW l (m : Int) (marksR.getD j (0, [])).1 (marksR.getD j (0, [])).2 := fun j _ => by rw [hm1]; rfl
  have hlt : Ms l f 4 (.ok () ((m : Int) + 1)) := rel_ms hm hR1 hx1 hm2
  have hno : ∀ j, j < 6 → isW l (m : Int) (marksR.getD j (0, [])).1 (marksR.getD j (0, [])).2 = false := fun j hj => by rw [← q j (by omega)]; match j, hj with
    | 0, _ => exact q0
    | 1, _ => exact q1
    | 2, _ => exact q2
    | 3, _ => exact q3
    | 4, _ => exact q4
    | 5, _ => exact q5
  have hrel : relAt l (m : Int) = some 6 := relAt_op 6 (by decide) hno (by rw [← q 6 (by decide)]; exact qy)
  clear hno
  have HR := Lib.hid (show (s.then fun _ a => rdE l (f + 1) 3 d a) = (rdE l f 4 d ((m : Int) + 1)).then fun y n => .ok (relE 6 x1 y) n by rw [rel_all, ← hR1, hx1]; simp only [Rd.then]; unfold relR; rw [hrel]; rfl)
  have HLT := Lib.hid hlt
  have HX1 := Lib.hid hx1
  have HS3 := Lib.hid hm3
  clear q hlt hrel hm1 hm2 hm3 hx1
  have HE1 := Lib.hid hR1.symm
  clear h ht i4 hm hR1
  go_enter Tryd.func70, Tryd.ntmps70
  go_wp2_with fail
  refine (I4.out f (Nat.le_refl _) s _ (H.out.new _) HMS.out).mono ?_
  rintro e w1 ⟨x0, p0, rfl, x1', s1, l1, ok1⟩
  rw [HE1.out] at s1 ok1
  have X1 := Lib.hid (x1'.ltE)
  have L1 := Lib.hid l1
  have HSZ := Lib.hid (show w.heap.size + 1 ≤ w1.heap.size by have := l1.size; simpa using this)
  have S1 := Lib.hid s1
  have OK1 := Lib.hid ok1
  clear x1' s1 l1 ok1
  have XB := Lib.hid (show XAt (Ap1 w.heap.size w1.heap.size) (w1.alloc (.cells #[.int .i64 x0.op, .int .i64 x0.v.k, .bool x0.v.b, .int .i64 x0.v.n, .string ⟨x0.v.s.toArray⟩, .string ⟨x0.v.t.toArray⟩, .string ⟨x0.v.i.toArray⟩, .slice none 0 0, .slice none 0 0, .string ⟨x0.nm.toArray⟩, .slice p0.ka x0.ks.length p0.kc, .slice p0.na x0.ns.length p0.nc] 30)) x0 p0 from (X1.out.low (low_new (Low.refl w1) (.cells #[.int .i64 x0.op, .int .i64 x0.v.k, .bool x0.v.b, .int .i64 x0.v.n, .string ⟨x0.v.s.toArray⟩, .string ⟨x0.v.t.toArray⟩, .string ⟨x0.v.i.toArray⟩, .slice none 0 0, .slice none 0 0, .string ⟨x0.nm.toArray⟩, .slice p0.ka x0.ks.length p0.kc, .slice p0.na x0.ns.length p0.nc] 30))).base fun g hg => ⟨by have hg1 : (w.alloc _).heap.size ≤ g := hg.1; have e : ∀ o, (w.alloc o).heap.size = w.heap.size + 1 := (fun o => by simp); rw [e] at hg1; omega, by have := hg.2; omega⟩)
  have SB := Lib.hid (S1.out.new (.cells #[.int .i64 x0.op, .int .i64 x0.v.k, .bool x0.v.b, .int .i64 x0.v.n, .string ⟨x0.v.s.toArray⟩, .string ⟨x0.v.t.toArray⟩, .string ⟨x0.v.i.toArray⟩, .slice none 0 0, .slice none 0 0, .string ⟨x0.nm.toArray⟩, .slice p0.ka x0.ks.length p0.kc, .slice p0.na x0.ns.length p0.nc] 30))
  have LB := Lib.hid (L1.out.alloc (.cells #[.int .i64 x0.op, .int .i64 x0.v.k, .bool x0.v.b, .int .i64 x0.v.n, .string ⟨x0.v.s.toArray⟩, .string ⟨x0.v.t.toArray⟩, .string ⟨x0.v.i.toArray⟩, .slice none 0 0, .slice none 0 0, .string ⟨x0.nm.toArray⟩, .slice p0.ka x0.ks.length p0.kc, .slice p0.na x0.ns.length p0.nc] 30))
  have BB := Lib.hid (show BoxE w1.heap.size x0 p0 (w1.alloc (.cells #[.int .i64 x0.op, .int .i64 x0.v.k, .bool x0.v.b, .int .i64 x0.v.n, .string ⟨x0.v.s.toArray⟩, .string ⟨x0.v.t.toArray⟩, .string ⟨x0.v.i.toArray⟩, .slice none 0 0, .slice none 0 0, .string ⟨x0.nm.toArray⟩, .slice p0.ka x0.ks.length p0.kc, .slice p0.na x0.ns.length p0.nc] 30)) from BoxE.new w1 x0 p0 _)
  have HKB := Lib.hid (show w1.heap.size ≠ b by have := HSZ.out; have := HBW.out; omega)
  unfold exv
  go_wp2_with fail
  have HT0 := Lib.hid (takes_c hl 5 (by decide) [61, 61] _ SB.out)
  rw [q0, tkS_no q0] at HT0
  refine HT0.out.mono ?_
  rintro e w20 ⟨rfl, s2, l2⟩
  have S20 := Lib.hid s2
  have L20 := Lib.hid (LB.out.trans l2)
  have B20 := Lib.hid (BB.out.lx l2 HKB.out)
  have X20 := Lib.hid (XB.out.lx l2 (fun g hg => by have := hg.1; have := HBW.out; omega))
  clear s2 l2 HT0
  have HT1 := Lib.hid (takes_c hl 5 (by decide) [33, 61] _ S20.out)
  rw [q1, tkS_no q1] at HT1
  go_wp2_with fail
  refine HT1.out.mono ?_
  rintro e w21 ⟨rfl, s2, l2⟩
  have S21 := Lib.hid s2
  have L21 := Lib.hid (L20.out.trans l2)
  have B21 := Lib.hid (B20.out.lx l2 HKB.out)
  have X21 := Lib.hid (X20.out.lx l2 (fun g hg => by have := hg.1; have := HBW.out; omega))
  clear s2 l2 HT1
  have HT2 := Lib.hid (takes_c hl 5 (by decide) [60] _ S21.out)
  rw [q2, tkS_no q2] at HT2
  go_wp2_with fail
  refine HT2.out.mono ?_
  rintro e w22 ⟨rfl, s2, l2⟩
  have S22 := Lib.hid s2
  have L22 := Lib.hid (L21.out.trans l2)
  have B22 := Lib.hid (B21.out.lx l2 HKB.out)
  have X22 := Lib.hid (X21.out.lx l2 (fun g hg => by have := hg.1; have := HBW.out; omega))
  clear s2 l2 HT2
  have HT3 := Lib.hid (takes_c hl 5 (by decide) [60, 61] _ S22.out)
  rw [q3, tkS_no q3] at HT3
  go_wp2_with fail
  refine HT3.out.mono ?_
  rintro e w23 ⟨rfl, s2, l2⟩
  have S23 := Lib.hid s2
  have L23 := Lib.hid (L22.out.trans l2)
  have B23 := Lib.hid (B22.out.lx l2 HKB.out)
  have X23 := Lib.hid (X22.out.lx l2 (fun g hg => by have := hg.1; have := HBW.out; omega))
  clear s2 l2 HT3
  have HT4 := Lib.hid (takes_c hl 5 (by decide) [62] _ S23.out)
  rw [q4, tkS_no q4] at HT4
  go_wp2_with fail
  refine HT4.out.mono ?_
  rintro e w24 ⟨rfl, s2, l2⟩
  have S24 := Lib.hid s2
  have L24 := Lib.hid (L23.out.trans l2)
  have B24 := Lib.hid (B23.out.lx l2 HKB.out)
  have X24 := Lib.hid (X23.out.lx l2 (fun g hg => by have := hg.1; have := HBW.out; omega))
  clear s2 l2 HT4
  have HT5 := Lib.hid (takes_c hl 5 (by decide) [62, 61] _ S24.out)
  rw [q5, tkS_no q5] at HT5
  go_wp2_with fail
  refine HT5.out.mono ?_
  rintro e w25 ⟨rfl, s2, l2⟩
  have S25 := Lib.hid s2
  have L25 := Lib.hid (L24.out.trans l2)
  have B25 := Lib.hid (B24.out.lx l2 HKB.out)
  have X25 := Lib.hid (X24.out.lx l2 (fun g hg => by have := hg.1; have := HBW.out; omega))
  clear s2 l2 HT5
  have HT6 := Lib.hid (takes_c hl 1 (by decide) [105, 110] _ S25.out)
  rw [qy, HS3.out] at HT6
  go_wp2_with fail
  refine HT6.out.mono ?_
  rintro e w26 ⟨rfl, s2, l2⟩
  have S26 := Lib.hid s2
  have L26 := Lib.hid (L25.out.trans l2)
  have B26 := Lib.hid (B25.out.lx l2 HKB.out)
  have X26 := Lib.hid (X25.out.lx l2 (fun g hg => by have := hg.1; have := HBW.out; omega))
  clear s2 l2 HT6
  have HWL := Lib.hid (show w1.heap.size < w26.heap.size from B26.out.lt)
  obtain ⟨⟨b0, b1, b2, b3, b4, b5, b6, b7, b8, b9, b10, b11⟩, -⟩ := B26.out
  have HC := Lib.hid (I4.out f (Nat.le_refl _) (.ok () ((m : Int) + 1)) w26.drew (S26.out.low (Low.of_drew ⟨1, rfl⟩)) HLT.out)
  go_wp2_with fail
  go_region_law (first
    | (go_simp; (fail_if_success (have := Y3)); go_at_call 74; (with_reducible refine HC.out.mono ?_); rintro e w3 ⟨y, q, rfl, y3, s3, l3, ok3⟩; have S3 := Lib.hid s3; have L3 := Lib.hid (L26.out.trans ((lx_draw b w26).trans l3)); have X3 := Lib.hid (((X26.out.low (Low.of_drew ⟨1, rfl⟩)).lx l3 (fun g hg => by have := hg.1; have := HBW.out; omega)).base fun g hg => hg.1); have Y3 := Lib.hid (y3.base (A' := fun g => w.heap.size < g) fun g hg => by have hg : w26.heap.size ≤ g := hg; have := HSZ.out; have := HWL.out; omega); have HW3 := Lib.hid (show w26.heap.size ≤ w3.heap.size from l3.size); have OK3 := Lib.hid ok3; have B3 := Lib.hid ((B26.out.low (Low.of_drew ⟨1, rfl⟩)).lx l3 HKB.out); obtain ⟨⟨d0, d1, d2, d3, d4, d5, d6, d7, d8, d9, d10, d11⟩, -⟩ := B3.out; clear y3 s3 l3 ok3; unfold exv)
    | (go_simp; go_at_call 48; (with_reducible refine (node_c _ _ _ _ _).mono ?_); rintro e w4 ⟨rfl, l4⟩; have L4 := Lib.hid (L3.out.low' (low_of1 l4)); have S4 := Lib.hid (S3.out.low (low_of1 l4)); have X4 := Lib.hid ((nod_at (A := fun g => w.heap.size < g) 15 [(x0, p0), (y, q)] (by simp) (by have := HSZ.out; have := HWL.out; have := HW3.out; omega) (fun z hz => by
            simp only [List.mem_cons, List.not_mem_nil, or_false] at hz
            rcases hz with rfl | rfl
            · exact X3.out
            · exact Y3.out) _ _ rfl [] _ rfl _ rfl).low l4); clear l4; unfold ndv; obtain ⟨⟨c0, c1, c2, c3, c4, c5, c6, c7, c8, c9, c10, c11⟩, fz⟩ := box12 L4.out HBW.out))
  all_goals
    go_wp2_with fail
    obtain ⟨E0, E1, E2, E3, E4, E5, E6, E7, E8, E9, E10, E11⟩ := put12 c0 c1 c2 c3 c4 c5 c6 c7 c8 c9 c10 c11
    refine bodyPost_ret (v := .agg #[.int .i64 15, .int .i64 0, .bool false, .int .i64 0, .string ⟨#[]⟩, .string ⟨#[]⟩, .string ⟨#[]⟩, .slice none 0 0, .slice none 0 0, .string ⟨#[]⟩, .slice (some ⟨w3.heap.size, 0, none⟩) 2 2, .slice none 0 0]) (by simp [results, Tryd.results70, go_sem, E0, E1, E2, E3, E4, E5, E6, E7, E8, E9, E10, E11]) rfl ?_
    exact ⟨nodE 15 [x0, y], ⟨some ⟨w3.heap.size, 0, none⟩, 2, none, 0⟩, rfl, (tow_xa X4.out (fun g hg => by have hg : w.heap.size < g := hg; omega)).base (fun g hg => Nat.le_of_lt hg), by rw [HR.out, rel_then]; exact tow_st S4.out HBW.out, tow_lx (((Lx.refl b w).alloc _).trans L4.out), fun v k h => by rw [HR.out] at h; obtain ⟨y1, j, h1, h2⟩ := then_ok.1 h; injection h2 with h2; rw [← h2, ← OK3.out y1 j h1, OK1.out x1 _ HX1.out]; rfl⟩
end
end Go.Proofs.YtflpidnkppljlaaDoor
