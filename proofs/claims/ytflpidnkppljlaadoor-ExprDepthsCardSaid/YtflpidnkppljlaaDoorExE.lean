/- One operator between two sums. Condition: as in the texts that are imported. rel: case 0. Condition: as in the texts that are imported. -/
import Derived.Test.YtflpidnkppljlaaDoorExK
import Derived.Test.YtflpidnkppljlaaDoorExD
import Derived.Deep.RegionLaw
set_option linter.unusedVariables false
set_option linter.unnecessarySimpa false
set_option linter.unusedSimpArgs false
namespace Go.Proofs.YtflpidnkppljlaaDoor
open Go.RowKit
section
variable {b : Nat} {ao : Option Addr} {cap : Nat} {l : List Wd}
/-- What is behind a sum. -/
def relR (l : List Wd) (f d : Nat) (x : Ex) (n : Int) : Rd Ex :=
  match relAt l n with
  | some op => (rdE l f 4 d (n + 1)).then fun y n => .ok (relE op x y) n
  | none =>
    if isW l n 1 kHas = true then (textW l 1 (n + 1)).then fun s n => .ok (namE 17 s x) n
    else if isW l n 1 kIs = true then (pathR l f (n + 1)).then fun s n => .ok (namE 16 s x) n
    else .ok x n
theorem rel_eq (f d : Nat) (a : Int) : rdE l (f + 1) 3 d a = (rdE l f 4 d a).then fun x n => relR l f d x n := by simp only [rdE]; rfl
def marksR : List (Int × List UInt8) := [(5, [61, 61]), (5, [33, 61]), (5, [60]), (5, [60, 61]), (5, [62]), (5, [62, 61]), (1, [105, 110]), (1, [104, 97, 115]), (1, [105, 115])]
theorem relAt_op {n : Int} (i : Nat) (hi : i < 7) (hno : ∀ j, j < i → isW l n (marksR.getD j (0, [])).1 (marksR.getD j (0, [])).2 = false) (hy : isW l n (marksR.getD i (0, [])).1 (marksR.getD i (0, [])).2 = true) : relAt l n = some i := by
  have key : ∀ j, j < 7 → isW l n (marksR.getD j (0, [])).1 (marksR.getD j (0, [])).2 = (if j < i then false else if j = i then true else isW l n (marksR.getD j (0, [])).1 (marksR.getD j (0, [])).2) := fun j _ => by
    by_cases h1 : j < i
    · rw [if_pos h1]; exact hno j h1
    · rw [if_neg h1]
      by_cases h2 : j = i
      · rw [if_pos h2, h2]; exact hy
      · rw [if_neg h2]
  have a0 := key 0 (by decide)
  have a1 := key 1 (by decide)
  have a2 := key 2 (by decide)
  have a3 := key 3 (by decide)
  have a4 := key 4 (by decide)
  have a5 := key 5 (by decide)
  have a6 := key 6 (by decide)
  simp only [marksR, List.getD_cons_zero, List.getD_cons_succ] at a0 a1 a2 a3 a4 a5 a6
  unfold relAt
  have hc : i = 0 ∨ i = 1 ∨ i = 2 ∨ i = 3 ∨ i = 4 ∨ i = 5 ∨ i = 6 := by omega
  rcases hc with rfl | rfl | rfl | rfl | rfl | rfl | rfl <;> simp at a0 a1 a2 a3 a4 a5 a6 <;> simp [*]
theorem relAt_no {n : Int} (hno : ∀ j, j < 7 → isW l n (marksR.getD j (0, [])).1 (marksR.getD j (0, [])).2 = false) : relAt l n = none := by
  have a0 := hno 0 (by decide)
  have a1 := hno 1 (by decide)
  have a2 := hno 2 (by decide)
  have a3 := hno 3 (by decide)
  have a4 := hno 4 (by decide)
  have a5 := hno 5 (by decide)
  have a6 := hno 6 (by decide)
  simp only [marksR, List.getD_cons_zero, List.getD_cons_succ] at a0 a1 a2 a3 a4 a5 a6
  unfold relAt
  simp [*]
theorem rel_then {R : Rd Ex} {op : Nat} {x : Ex} : (R.then fun y n => .ok (relE op x y) n).unit = R.unit := by cases R <;> rfl
/-- Which mark is the first that is next. -/
inductive RelC (l : List Wd) (s : Rd Unit) : Prop where
  | op (i : Nat) (hi : i < 9) (hno : ∀ j, j < i → tkB l s (marksR.getD j (0, [])).1 (marksR.getD j (0, [])).2 = false) (hy : tkB l s (marksR.getD i (0, [])).1 (marksR.getD i (0, [])).2 = true) : RelC l s
  | no (hno : ∀ j, j < 9 → tkB l s (marksR.getD j (0, [])).1 (marksR.getD j (0, [])).2 = false) : RelC l s
theorem relC (l : List Wd) (s : Rd Unit) : RelC l s := by
  have key : ∀ k, k ≤ 9 → (∃ i, i < k ∧ (∀ j, j < i → tkB l s (marksR.getD j (0, [])).1 (marksR.getD j (0, [])).2 = false) ∧ tkB l s (marksR.getD i (0, [])).1 (marksR.getD i (0, [])).2 = true) ∨ ∀ j, j < k → tkB l s (marksR.getD j (0, [])).1 (marksR.getD j (0, [])).2 = false := by
    intro k
    induction k with
    | zero => intro _; exact .inr fun j h => absurd h (Nat.not_lt_zero _)
    | succ k ih =>
      intro hk
      rcases ih (by omega) with ⟨i, hi, h1, h2⟩ | h
      · exact .inl ⟨i, by omega, h1, h2⟩
      · cases hq : tkB l s (marksR.getD k (0, [])).1 (marksR.getD k (0, [])).2 with
        | true => exact .inl ⟨k, by omega, h, hq⟩
        | false =>
          refine .inr fun j hj => ?_
          by_cases e : j = k
          · subst e; exact hq
          · exact h j (by omega)
  rcases key 9 (Nat.le_refl _) with ⟨i, hi, h1, h2⟩ | h
  · exact .op i hi h1 h2
  · exact .no h
theorem rel_all {s : Rd Unit} {f d : Nat} : (s.then fun _ a => rdE l (f + 1) 3 d a) = (s.then fun _ a => rdE l f 4 d a).then fun x n => relR l f d x n := by
  cases s with
  | bad e p => rfl
  | ok u a => simp only [Rd.then]; rw [rel_eq]; rfl
theorem rel_ms {s : Rd Unit} {f d : Nat} {R1 : Rd Ex} {x1 : Ex} {m : Nat} (hm : Ms l (f + 1) 3 s) (hR : R1 = s.then fun _ a => rdE l f 4 d a) (hx : R1 = .ok x1 (m : Int)) (hlt : m < l.length) : Ms l f 4 (.ok () ((m : Int) + 1)) := by
  subst hR
  cases s with
  | bad e p => cases hx
  | ok u a =>
    have h1 := (advE (l := l) f).rd _ _ _ _ _ hx
    have h2 : 12 * leftW l a + 12 - 3 ≤ f + 1 := hm
    have h3 := left_less h1.1 h1.2.1 h1.2.2
    have h4 := left_less (l := l) (a := (m : Int)) (n := (m : Int) + 1) (by omega) (by omega) (by omega)
    show 12 * leftW l ((m : Int) + 1) + 12 - 4 ≤ f
    omega
theorem rel_lf {f : Nat} {a : Int} (h : Ms l f 4 (.ok () a)) : leftW l a ≤ f := by
  have : 12 * leftW l a + 12 - 4 ≤ f := h
  omega
/-- A box stays, and its expression lies apart from the result's. -/
abbrev Ap1 (k1 k2 : Nat) : Nat → Prop := fun g => k1 < g ∧ g ≠ k2
end
end Go.Proofs.YtflpidnkppljlaaDoor
namespace Go.Proofs.YtflpidnkppljlaaDoor
open Go.RowKit
section
variable {b : Nat} {ao : Option Addr} {cap : Nat} {l : List Wd}
set_option maxHeartbeats 16000000 in
set_option maxRecDepth 100000 in
theorem rel_0 (hl : l.length ≤ 70000) (ht : ∀ x ∈ l, x.k = 1 → x.t.length ≤ 70000) {d f : Nat} {s : Rd Unit} (w : World) (h : St b ao cap l (d : Int) s w) (hm : Ms l (f + 1) 3 s) (i4 : ∀ f', f' ≤ f → RuleC b ao cap l 74 4 f' d)
     (qy : tkB l (s.then fun _ a => rdE l f 4 d a).unit 5 [61, 61] = true) :
    Calls Tryd.prog 70 #[.pointer (some ⟨b, 0, none⟩)] w (RuleP b ao cap l (d : Int) (s.then fun _ a => rdE l (f + 1) 3 d a) w) := by
  have H := Lib.hid h
  have HBW := Lib.hid (st_lt h)
  have HTL := Lib.hid ht
  have I4 := Lib.hid i4
  have HM := Lib.hid hm
  have HMS := Lib.hid (show Ms l f 4 s by
    cases s with
    | bad e p => have : 12 - 3 ≤ f + 1 := hm; show 12 - 4 ≤ f; omega
    | ok u a => have : 12 * leftW l a + 12 - 3 ≤ f + 1 := hm; show 12 * leftW l a + 12 - 4 ≤ f; omega)
  obtain ⟨R1, hR1⟩ : ∃ R1, R1 = s.then fun _ a => rdE l f 4 d a := ⟨_, rfl⟩
  rw [← hR1] at qy
  obtain ⟨m, hm1, hm2, hm3⟩ := tkS_yes (by decide) qy
  obtain ⟨x1, hx1⟩ : ∃ x1, R1 = .ok x1 (m : Int) := by
    cases hr : R1 with
    | bad e p => rw [hr] at hm1; cases hm1
    | ok y n => rw [hr] at hm1; injection hm1 with _ hm1; subst hm1; exact ⟨y, rfl⟩
  have q : ∀ j, j < 9 → tkB l R1.unit (marksR.getD j (0, [])).1 (marksR.getD j (0, [])).2 = isW l (m : Int) (marksR.getD j (0, [])).1 (marksR.getD j (0, [])).2 := fun j _ => by rw [hm1]; rfl
  have hlt : Ms l f 4 (.ok () ((m : Int) + 1)) := rel_ms hm hR1 hx1 hm2
  have hno : ∀ j, j < 0 → isW l (m : Int) (marksR.getD j (0, [])).1 (marksR.getD j (0, [])).2 = false := fun j hj => absurd hj (Nat.not_lt_zero _)
  have hrel : relAt l (m : Int) = some 0 := relAt_op 0 (by decide) hno (by rw [← q 0 (by decide)]; exact qy)
  clear hno
  have HR := Lib.hid (show (s.then fun _ a => rdE l (f + 1) 3 d a) = (rdE l f 4 d ((m : Int) + 1)).then fun y n => .ok (relE 0 x1 y) n by rw [rel_all, ← hR1, hx1]; simp only [Rd.then]; unfold relR; rw [hrel]; rfl)
  have HLT := Lib.hid hlt
  have HX1 := Lib.hid hx1
  have HS3 := Lib.hid hm3
  clear q hlt hrel hm1 hm2 hm3 hx1
  have HE1 := Lib.hid hR1.symm
  clear h ht i4 hm hR1
  go_enter Tryd.func70, Tryd.ntmps70
  go_wp2_with fail
  refine (I4.out f (Nat.le_refl _) s _ (H.out.new _) HMS.out).mono ?_
  rintro e w1 ⟨x0, p0, rfl, x1', s1, l1, ok1⟩
  rw [HE1.out] at s1 ok1
  have X1 := Lib.hid (x1'.ltE)
  have L1 := Lib.hid l1
  have HSZ := Lib.hid (show w.heap.size + 1 ≤ w1.heap.size by have := l1.size; simpa using this)
  have S1 := Lib.hid s1
  have OK1 := Lib.hid ok1
  clear x1' s1 l1 ok1
  have XB := Lib.hid (show XAt (Ap1 w.heap.size w1.heap.size) (w1.alloc (.cells #[.int .i64 x0.op, .int .i64 x0.v.k, .bool x0.v.b, .int .i64 x0.v.n, .string ⟨x0.v.s.toArray⟩, .string ⟨x0.v.t.toArray⟩, .string ⟨x0.v.i.toArray⟩, .slice none 0 0, .slice none 0 0, .string ⟨x0.nm.toArray⟩, .slice p0.ka x0.ks.length p0.kc, .slice p0.na x0.ns.length p0.nc] 30)) x0 p0 from (X1.out.low (low_new (Low.refl w1) (.cells #[.int .i64 x0.op, .int .i64 x0.v.k, .bool x0.v.b, .int .i64 x0.v.n, .string ⟨x0.v.s.toArray⟩, .string ⟨x0.v.t.toArray⟩, .string ⟨x0.v.i.toArray⟩, .slice none 0 0, .slice none 0 0, .string ⟨x0.nm.toArray⟩, .slice p0.ka x0.ks.length p0.kc, .slice p0.na x0.ns.length p0.nc] 30))).base fun g hg => ⟨by have hg1 : (w.alloc _).heap.size ≤ g := hg.1; have e : ∀ o, (w.alloc o).heap.size = w.heap.size + 1 := (fun o => by simp); rw [e] at hg1; omega, by have := hg.2; omega⟩)
  have SB := Lib.hid (S1.out.new (.cells #[.int .i64 x0.op, .int .i64 x0.v.k, .bool x0.v.b, .int .i64 x0.v.n, .string ⟨x0.v.s.toArray⟩, .string ⟨x0.v.t.toArray⟩, .string ⟨x0.v.i.toArray⟩, .slice none 0 0, .slice none 0 0, .string ⟨x0.nm.toArray⟩, .slice p0.ka x0.ks.length p0.kc, .slice p0.na x0.ns.length p0.nc] 30))
  have LB := Lib.hid (L1.out.alloc (.cells #[.int .i64 x0.op, .int .i64 x0.v.k, .bool x0.v.b, .int .i64 x0.v.n, .string ⟨x0.v.s.toArray⟩, .string ⟨x0.v.t.toArray⟩, .string ⟨x0.v.i.toArray⟩, .slice none 0 0, .slice none 0 0, .string ⟨x0.nm.toArray⟩, .slice p0.ka x0.ks.length p0.kc, .slice p0.na x0.ns.length p0.nc] 30))
  have BB := Lib.hid (show BoxE w1.heap.size x0 p0 (w1.alloc (.cells #[.int .i64 x0.op, .int .i64 x0.v.k, .bool x0.v.b, .int .i64 x0.v.n, .string ⟨x0.v.s.toArray⟩, .string ⟨x0.v.t.toArray⟩, .string ⟨x0.v.i.toArray⟩, .slice none 0 0, .slice none 0 0, .string ⟨x0.nm.toArray⟩, .slice p0.ka x0.ks.length p0.kc, .slice p0.na x0.ns.length p0.nc] 30)) from BoxE.new w1 x0 p0 _)
  have HKB := Lib.hid (show w1.heap.size ≠ b by have := HSZ.out; have := HBW.out; omega)
  unfold exv
  go_wp2_with fail
  have HT0 := Lib.hid (takes_c hl 5 (by decide) [61, 61] _ SB.out)
  rw [qy, HS3.out] at HT0
  refine HT0.out.mono ?_
  rintro e w20 ⟨rfl, s2, l2⟩
  have S20 := Lib.hid s2
  have L20 := Lib.hid (LB.out.trans l2)
  have B20 := Lib.hid (BB.out.lx l2 HKB.out)
  have X20 := Lib.hid (XB.out.lx l2 (fun g hg => by have := hg.1; have := HBW.out; omega))
  clear s2 l2 HT0
  have HWL := Lib.hid (show w1.heap.size < w20.heap.size from B20.out.lt)
  obtain ⟨⟨b0, b1, b2, b3, b4, b5, b6, b7, b8, b9, b10, b11⟩, -⟩ := B20.out
  have HC := Lib.hid (I4.out f (Nat.le_refl _) (.ok () ((m : Int) + 1)) w20.drew (S20.out.low (Low.of_drew ⟨1, rfl⟩)) HLT.out)
  go_wp2_with fail
  go_region_law (first
    | (go_simp; (fail_if_success (have := Y3)); go_at_call 74; (with_reducible refine HC.out.mono ?_); rintro e w3 ⟨y, q, rfl, y3, s3, l3, ok3⟩; have S3 := Lib.hid s3; have L3 := Lib.hid (L20.out.trans ((lx_draw b w20).trans l3)); have X3 := Lib.hid (((X20.out.low (Low.of_drew ⟨1, rfl⟩)).lx l3 (fun g hg => by have := hg.1; have := HBW.out; omega)).base fun g hg => hg.1); have Y3 := Lib.hid (y3.base (A' := fun g => w.heap.size < g) fun g hg => by have hg : w20.heap.size ≤ g := hg; have := HSZ.out; have := HWL.out; omega); have HW3 := Lib.hid (show w20.heap.size ≤ w3.heap.size from l3.size); have OK3 := Lib.hid ok3; have B3 := Lib.hid ((B20.out.low (Low.of_drew ⟨1, rfl⟩)).lx l3 HKB.out); obtain ⟨⟨d0, d1, d2, d3, d4, d5, d6, d7, d8, d9, d10, d11⟩, -⟩ := B3.out; clear y3 s3 l3 ok3; unfold exv)
    | (go_simp; go_at_call 48; (with_reducible refine (node_c _ _ _ _ _).mono ?_); rintro e w4 ⟨rfl, l4⟩; have L4 := Lib.hid (L3.out.low' (low_of1 l4)); have S4 := Lib.hid (S3.out.low (low_of1 l4)); have X4 := Lib.hid ((nod_at (A := fun g => w.heap.size < g) 8 [(x0, p0), (y, q)] (by simp) (by have := HSZ.out; have := HWL.out; have := HW3.out; omega) (fun z hz => by
            simp only [List.mem_cons, List.not_mem_nil, or_false] at hz
            rcases hz with rfl | rfl
            · exact X3.out
            · exact Y3.out) _ _ rfl [] _ rfl _ rfl).low l4); clear l4; unfold ndv; obtain ⟨⟨c0, c1, c2, c3, c4, c5, c6, c7, c8, c9, c10, c11⟩, fz⟩ := box12 L4.out HBW.out))
  all_goals
    go_wp2_with fail
    obtain ⟨E0, E1, E2, E3, E4, E5, E6, E7, E8, E9, E10, E11⟩ := put12 c0 c1 c2 c3 c4 c5 c6 c7 c8 c9 c10 c11
    refine bodyPost_ret (v := .agg #[.int .i64 8, .int .i64 0, .bool false, .int .i64 0, .string ⟨#[]⟩, .string ⟨#[]⟩, .string ⟨#[]⟩, .slice none 0 0, .slice none 0 0, .string ⟨#[]⟩, .slice (some ⟨w3.heap.size, 0, none⟩) 2 2, .slice none 0 0]) (by simp [results, Tryd.results70, go_sem, E0, E1, E2, E3, E4, E5, E6, E7, E8, E9, E10, E11]) rfl ?_
    exact ⟨nodE 8 [x0, y], ⟨some ⟨w3.heap.size, 0, none⟩, 2, none, 0⟩, rfl, (tow_xa X4.out (fun g hg => by have hg : w.heap.size < g := hg; omega)).base (fun g hg => Nat.le_of_lt hg), by rw [HR.out, rel_then]; exact tow_st S4.out HBW.out, tow_lx (((Lx.refl b w).alloc _).trans L4.out), fun v k h => by rw [HR.out] at h; obtain ⟨y1, j, h1, h2⟩ := then_ok.1 h; injection h2 with h2; rw [← h2, ← OK3.out y1 j h1, OK1.out x1 _ HX1.out]; rfl⟩
end
end Go.Proofs.YtflpidnkppljlaaDoor
