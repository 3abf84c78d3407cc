/- What stands behind a dot. Condition: as in the texts that are imported. A box that holds a node of two. No condition. -/
import Derived.Test.YtflpidnkppljlaaDoorExK
import Derived.Test.YtflpidnkppljlaaDoorExG
set_option linter.unusedVariables false
set_option linter.unnecessarySimpa false
set_option linter.unusedSimpArgs false
namespace Go.Proofs.YtflpidnkppljlaaDoor
open Go.RowKit
section
variable {b : Nat} {ao : Option Addr} {cap : Nat} {l : List Wd}
def dotR (l : List Wd) (f d : Nat) (x : Ex) (a : Int) : Rd Ex :=
  (textW l 1 a).then fun s n =>
    if isW l n 5 [40] = true then (if metN s = 0 then badF l n else (rdE l f 0 d (n + 1)).then fun y n => (mustW l 5 [41] n).then fun _ n => .ok (nodE (metN s) [x, y]) n)
    else .ok (namE 18 s x) n
/-- A call's answer: an expression whose kids lie where they may. -/
def RuleA (A : Nat → Prop) (b : Nat) (ao : Option Addr) (cap : Nat) (l : List Wd) (d : Int) (r : Rd Ex) (w : World) (e : Ending) (w' : World) : Prop :=
  ∃ x p, e = .returned (exv x p) ∧ XAt A w' x p ∧ St b ao cap l d r.unit w' ∧ Lx b w w' ∧ ∀ y n, r = .ok y n → x = y
/-- Apart from two boxes of the call's own. -/
abbrev Ap2 (A : Nat → Prop) (k : Nat) : Nat → Prop := fun g => A g ∧ g ≠ k ∧ g ≠ k + 1
theorem XAt.apart {A : Nat → Prop} {w : World} {x : Ex} {p : Pl} (h : XAt A w x p) : XAt (Ap2 A w.heap.size) w x p := XAt.to (fun g hg hlt => ⟨⟨hg, by omega, by omega⟩, rfl⟩) x h
theorem dot_box {w W0 W : World} {o : Obj} (e : W0 = (w.alloc o).alloc (.cells #[.int .i64 0, .int .i64 0, .bool false, .int .i64 0, .string ⟨#[]⟩, .string ⟨#[]⟩, .string ⟨#[]⟩, .slice none 0 0, .slice none 0 0, .string ⟨#[]⟩, .slice none 0 0, .slice none 0 0] 30)) (h : Lx b W0 W) (hb : b < w.heap.size) : (W.cell? ⟨w.heap.size + 1, 0, none⟩ = some (.int .i64 0) ∧ W.cell? ⟨w.heap.size + 1, 1, none⟩ = some (.int .i64 0) ∧ W.cell? ⟨w.heap.size + 1, 2, none⟩ = some (.bool false) ∧ W.cell? ⟨w.heap.size + 1, 3, none⟩ = some (.int .i64 0) ∧ W.cell? ⟨w.heap.size + 1, 4, none⟩ = some (.string ⟨#[]⟩) ∧ W.cell? ⟨w.heap.size + 1, 5, none⟩ = some (.string ⟨#[]⟩) ∧ W.cell? ⟨w.heap.size + 1, 6, none⟩ = some (.string ⟨#[]⟩) ∧ W.cell? ⟨w.heap.size + 1, 7, none⟩ = some (.slice none 0 0) ∧ W.cell? ⟨w.heap.size + 1, 8, none⟩ = some (.slice none 0 0) ∧ W.cell? ⟨w.heap.size + 1, 9, none⟩ = some (.string ⟨#[]⟩) ∧ W.cell? ⟨w.heap.size + 1, 10, none⟩ = some (.slice none 0 0) ∧ W.cell? ⟨w.heap.size + 1, 11, none⟩ = some (.slice none 0 0)) ∧ ∀ j, W.frozen? ⟨w.heap.size + 1, j, none⟩ = false := by
  subst e
  have e3 : (w.alloc o).heap.size = w.heap.size + 1 := by simp
  have e2 : W.heap[w.heap.size + 1]? = ((w.alloc o).alloc (.cells #[.int .i64 0, .int .i64 0, .bool false, .int .i64 0, .string ⟨#[]⟩, .string ⟨#[]⟩, .string ⟨#[]⟩, .slice none 0 0, .slice none 0 0, .string ⟨#[]⟩, .slice none 0 0, .slice none 0 0] 30)).heap[w.heap.size + 1]? := h.block _ (by simp) (by omega)
  have c2 : ∀ j, ((w.alloc o).alloc (.cells #[.int .i64 0, .int .i64 0, .bool false, .int .i64 0, .string ⟨#[]⟩, .string ⟨#[]⟩, .string ⟨#[]⟩, .slice none 0 0, .slice none 0 0, .string ⟨#[]⟩, .slice none 0 0, .slice none 0 0] 30)).cell? ⟨w.heap.size + 1, j, none⟩ = #[.int .i64 0, .int .i64 0, .bool false, .int .i64 0, .string ⟨#[]⟩, .string ⟨#[]⟩, .string ⟨#[]⟩, .slice none 0 0, .slice none 0 0, .string ⟨#[]⟩, .slice none 0 0, .slice none 0 0][j]? := fun j => by rw [← e3, World.cell?_alloc_mark]
  have f2 : ∀ j, ((w.alloc o).alloc (.cells #[.int .i64 0, .int .i64 0, .bool false, .int .i64 0, .string ⟨#[]⟩, .string ⟨#[]⟩, .string ⟨#[]⟩, .slice none 0 0, .slice none 0 0, .string ⟨#[]⟩, .slice none 0 0, .slice none 0 0] 30)).frozen? ⟨w.heap.size + 1, j, none⟩ = false := fun j => by rw [← e3]; simp
  have g : ∀ j, W.cell? ⟨w.heap.size + 1, j, none⟩ = #[.int .i64 0, .int .i64 0, .bool false, .int .i64 0, .string ⟨#[]⟩, .string ⟨#[]⟩, .string ⟨#[]⟩, .slice none 0 0, .slice none 0 0, .string ⟨#[]⟩, .slice none 0 0, .slice none 0 0][j]? := fun j => (World.cell?_of_block (a := ⟨w.heap.size + 1, j, none⟩) e2).trans (c2 j)
  exact ⟨⟨g 0, g 1, g 2, g 3, g 4, g 5, g 6, g 7, g 8, g 9, g 10, g 11⟩, fun j => (World.frozen?_of_block (a := ⟨w.heap.size + 1, j, none⟩) e2).trans (f2 j)⟩
theorem nam_unit {R : Rd (List UInt8)} {op : Int} {x : Ex} : (R.then fun s n => .ok (namE op s x) n).unit = R.unit := by cases R <;> rfl
set_option maxHeartbeats 16000000 in
set_option maxRecDepth 100000 in
theorem dot_name (hl : l.length ≤ 70000) {d f : Nat} {n : Nat} {A : Nat → Prop} (x0 : Ex) (p0 : Pl) (w : World) (hA : ∀ g, w.heap.size ≤ g → A g) (hAb : ∀ g, A g → g ≠ b) (hx : XAt A w x0 p0) (h : St b ao cap l (d : Int) (.ok () (n : Int)) w) (hq : tkB l (textW l 1 (n : Int)).unit 5 [40] = false) :
    Calls Tryd.prog 82 #[.pointer (some ⟨b, 0, none⟩), exv x0 p0] w (RuleA A b ao cap l (d : Int) (dotR l f d x0 (n : Int)) w) := by
  have HBW := Lib.hid (st_lt h)
  have HAN := Lib.hid hA
  have HAB := Lib.hid hAb
  obtain ⟨R1, hR1⟩ : ∃ R1, R1 = textW l 1 (n : Int) := ⟨_, rfl⟩
  have HT1 := Lib.hid (show ((Rd.ok () (n : Int)).then fun _ a => textW l 1 a) = R1 from hR1.symm)
  obtain ⟨W0, hW0⟩ : ∃ W0, W0 = (w.alloc (.cells #[.int .i64 x0.op, .int .i64 x0.v.k, .bool x0.v.b, .int .i64 x0.v.n, .string ⟨x0.v.s.toArray⟩, .string ⟨x0.v.t.toArray⟩, .string ⟨x0.v.i.toArray⟩, .slice none 0 0, .slice none 0 0, .string ⟨x0.nm.toArray⟩, .slice p0.ka x0.ks.length p0.kc, .slice p0.na x0.ns.length p0.nc] 30)).alloc (.cells #[.int .i64 0, .int .i64 0, .bool false, .int .i64 0, .string ⟨#[]⟩, .string ⟨#[]⟩, .string ⟨#[]⟩, .slice none 0 0, .slice none 0 0, .string ⟨#[]⟩, .slice none 0 0, .slice none 0 0] 30) := ⟨_, rfl⟩
  have LW := Lib.hid (show Low w W0 by rw [hW0]; exact low_new (low_new (Low.refl _) _) _)
  have HSZ := Lib.hid (show W0.heap.size = w.heap.size + 1 + 1 by rw [hW0]; simp)
  have ST0 := Lib.hid (h.low LW.out)
  have XA0 := Lib.hid (hx.apart.low LW.out)
  have BX0 := Lib.hid (show BoxE w.heap.size x0 p0 W0 by rw [hW0]; exact (BoxE.new w x0 p0 _).low (low_new (Low.refl _) _))
  have BZ0 := Lib.hid fun W (k : Lx b W0 W) => dot_box hW0 k HBW.out
  rw [← hR1] at hq
  have HQ := Lib.hid hq
  have HR := Lib.hid (show dotR l f d x0 (n : Int) = R1.then fun s n => .ok (namE 18 s x0) n by
    unfold dotR
    rw [← hR1]
    cases R1 with
    | bad e p => rfl
    | ok s m => simp only [Rd.then]; rw [if_neg (by rw [show isW l m 5 [40] = false from hq]; decide)])
  clear h hx hA hAb hR1 hq
  unfold exv
  go_enter Tryd.func82, Tryd.ntmps82
  go_wp2_with fail
  rw [← hW0]
  clear hW0
  refine (text_c hl 1 (by decide) _ ST0.out).mono ?_
  rintro e w1 ⟨rfl, s1, l1⟩
  rw [HT1.out] at s1 ⊢
  have S1 := Lib.hid s1
  have L1 := Lib.hid l1
  have X1 := Lib.hid (XA0.out.lx l1 (fun g hg => HAB.out g hg.1))
  have B1 := Lib.hid (BX0.out.lx l1 (by have := HBW.out; omega))
  clear s1 l1
  go_wp2_with fail
  refine (word_c hl _ S1.out).mono ?_
  rintro e w2 ⟨rfl, l2⟩
  have S2 := Lib.hid (S1.out.low l2)
  have L2 := Lib.hid (L1.out.low' l2)
  have X2 := Lib.hid (X1.out.low l2)
  have B2 := Lib.hid (B1.out.low l2)
  clear l2
  obtain ⟨y, hy⟩ : ∃ y, wdK l R1.unit 0 = y := ⟨_, rfl⟩
  rw [hy]
  have hq3 : (y.k == 5 && y.t == [40]) = false := by rw [← hy, ← tkB_wd (by decide)]; exact HQ.out
  have HQ3 := Lib.hid hq3
  have HY := Lib.hid hy
  clear hq3 hy
  unfold wv
  go_wp2_with fail
  refine (isMark_c y [40] _).mono ?_
  rintro e w3 ⟨rfl, l3⟩
  rw [HQ3.out]
  have S3 := Lib.hid (S2.out.low ((low_new (Low.refl _) _).trans l3))
  have L3 := Lib.hid (L2.out.low' ((low_new (Low.refl _) _).trans l3))
  have X3 := Lib.hid (X2.out.low ((low_new (Low.refl _) _).trans l3))
  have B3 := Lib.hid (B2.out.low ((low_new (Low.refl _) _).trans l3))
  clear l3
  obtain ⟨⟨b0, b1, b2, b3, b4, b5, b6, b7, b8, b9, b10, b11⟩, -⟩ := B3.out
  have HW3 := Lib.hid (show w.heap.size + 1 + 1 ≤ w3.heap.size by have := L3.out.size; have := HSZ.out; omega)
  have NC := Lib.hid (named_c (A := Ap2 A w.heap.size) 18 R1.getL x0 p0 w3 (fun g hg => ⟨HAN.out g (by have := HW3.out; omega), by have := HW3.out; omega, by have := HW3.out; omega⟩) X3.out)
  unfold exv at NC
  go_wp2_with fail
  refine (NC.out).mono ?_
  rintro e w4 ⟨p, rfl, x4, l4⟩
  have X4 := Lib.hid x4
  have S4 := Lib.hid (S3.out.low l4)
  have L4 := Lib.hid (L3.out.low' l4)
  clear x4 l4 NC b0 b1 b2 b3 b4 b5 b6 b7 b8 b9 b10 b11
  obtain ⟨x, hx⟩ : ∃ x, x = namE 18 R1.getL x0 := ⟨_, rfl⟩
  rw [← hx] at X4 ⊢
  have HXX := Lib.hid hx
  clear hx
  obtain ⟨⟨c0, c1, c2, c3, c4, c5, c6, c7, c8, c9, c10, c11⟩, fz⟩ := BZ0.out w4 L4.out
  go_wp2_with fail
  obtain ⟨E0, E1, E2, E3, E4, E5, E6, E7, E8, E9, E10, E11⟩ := put12 c0 c1 c2 c3 c4 c5 c6 c7 c8 c9 c10 c11
  refine bodyPost_ret (v := .agg #[.int .i64 (x).op, .int .i64 (x).v.k, .bool (x).v.b, .int .i64 (x).v.n, .string ⟨(x).v.s.toArray⟩, .string ⟨(x).v.t.toArray⟩, .string ⟨(x).v.i.toArray⟩, .slice none 0 0, .slice none 0 0, .string ⟨(x).nm.toArray⟩, .slice (p).ka (x).ks.length (p).kc, .slice (p).na (x).ns.length (p).nc]) (by simp [results, Tryd.results82, go_sem, E0, E1, E2, E3, E4, E5, E6, E7, E8, E9, E10, E11]) rfl ?_
  exact ⟨x, p, rfl, (tow_xa X4.out (fun g hg => hg.2.2)).base (fun g hg => hg.1), by rw [HR.out, nam_unit]; exact tow_stk (w0 := w) S4.out HBW.out (Nat.le_succ _), tow_lxk ((Lx.of_low LW.out).trans L4.out) (Nat.le_succ _), fun v m h => by rw [HR.out] at h; obtain ⟨s1, n1, h1, h2⟩ := then_ok.1 h; injection h2 with h2; rw [HXX.out, ← h2, h1]; rfl⟩
theorem BoxE.allX {k : Nat} {x : Ex} {p : Pl} {w : World} (h : BoxE k x p w) : (∀ X, (w.alloc X).cell? ⟨k, 0, none⟩ = some (.int .i64 x.op)) ∧ (∀ X, (w.alloc X).cell? ⟨k, 1, none⟩ = some (.int .i64 x.v.k)) ∧ (∀ X, (w.alloc X).cell? ⟨k, 2, none⟩ = some (.bool x.v.b)) ∧ (∀ X, (w.alloc X).cell? ⟨k, 3, none⟩ = some (.int .i64 x.v.n)) ∧ (∀ X, (w.alloc X).cell? ⟨k, 4, none⟩ = some (.string ⟨x.v.s.toArray⟩)) ∧ (∀ X, (w.alloc X).cell? ⟨k, 5, none⟩ = some (.string ⟨x.v.t.toArray⟩)) ∧ (∀ X, (w.alloc X).cell? ⟨k, 6, none⟩ = some (.string ⟨x.v.i.toArray⟩)) ∧ (∀ X, (w.alloc X).cell? ⟨k, 7, none⟩ = some (.slice none 0 0)) ∧ (∀ X, (w.alloc X).cell? ⟨k, 8, none⟩ = some (.slice none 0 0)) ∧ (∀ X, (w.alloc X).cell? ⟨k, 9, none⟩ = some (.string ⟨x.nm.toArray⟩)) ∧ (∀ X, (w.alloc X).cell? ⟨k, 10, none⟩ = some (.slice p.ka x.ks.length p.kc)) ∧ (∀ X, (w.alloc X).cell? ⟨k, 11, none⟩ = some (.slice p.na x.ns.length p.nc)) :=
  ⟨fun X => (h.low (low_new (Low.refl w) X)).1.1, fun X => (h.low (low_new (Low.refl w) X)).1.2.1, fun X => (h.low (low_new (Low.refl w) X)).1.2.2.1, fun X => (h.low (low_new (Low.refl w) X)).1.2.2.2.1, fun X => (h.low (low_new (Low.refl w) X)).1.2.2.2.2.1, fun X => (h.low (low_new (Low.refl w) X)).1.2.2.2.2.2.1, fun X => (h.low (low_new (Low.refl w) X)).1.2.2.2.2.2.2.1, fun X => (h.low (low_new (Low.refl w) X)).1.2.2.2.2.2.2.2.1, fun X => (h.low (low_new (Low.refl w) X)).1.2.2.2.2.2.2.2.2.1, fun X => (h.low (low_new (Low.refl w) X)).1.2.2.2.2.2.2.2.2.2.1, fun X => (h.low (low_new (Low.refl w) X)).1.2.2.2.2.2.2.2.2.2.2.1, fun X => (h.low (low_new (Low.refl w) X)).1.2.2.2.2.2.2.2.2.2.2.2⟩
theorem low_of1 {w6 w7 : World} {A : Obj} (h : Low (w6.alloc A) w7) : Low w6 w7 := (low_new (Low.refl w6) A).trans h
theorem low_of2 {w6 w7 : World} {A B : Obj} (h : Low ((w6.alloc A).alloc B) w7) : Low w6 w7 := (low_new (low_new (Low.refl w6) A) B).trans h
theorem low_ofm {w6 w7 : World} {A B : Obj} (h : Low ((w6.alloc A).alloc B) w7) : Low (w6.alloc A) w7 := (low_new (Low.refl (w6.alloc A)) B).trans h
theorem XAt.ltE {A : Nat → Prop} {w : World} {x : Ex} {p : Pl} (h : XAt A w x p) : XAt (fun g => A g ∧ g < w.heap.size) w x p := XAt.to (fun g hg hlt => ⟨⟨hg, hlt⟩, rfl⟩) x h
theorem XAt.ltN {A : Nat → Prop} {B k0 n5 : Nat} {P : Nat → Prop} {w : World} {x : Ex} {p : Pl} (h : XAt (Nw B) w x p) (hA : ∀ g, n5 ≤ g → A g) (hP : ∀ g, B ≤ g → n5 ≤ g ∧ P g) (h5 : k0 + 1 + 1 ≤ n5) : XAt (fun g => Ap2 A k0 g ∧ n5 ≤ g ∧ g < w.heap.size ∧ P g) w x p :=
  XAt.to (fun g hg hlt => ⟨⟨⟨hA g (hP g hg).1, by have := (hP g hg).1; omega, by have := (hP g hg).1; omega⟩, (hP g hg).1, hlt, (hP g hg).2⟩, rfl⟩) x h
theorem dot_node {A : Nat → Prop} {k0 n5 n6 : Nat} {P : Nat → Prop} {x y : Ex} {p q : Pl} (W : World) (K : Nat) (hx : XAt (fun g => Ap2 A k0 g ∧ g < n5) W x p) (hy : XAt (fun g => Ap2 A k0 g ∧ n5 ≤ g ∧ g < n6 ∧ P g) W y q) (hW : n5 ≤ W.heap.size) (hK : ∀ g, g < n5 → g ≠ K) (hK2 : ∀ g, n5 ≤ g → g < n6 → P g → g ≠ K)
    (hS : W.heap.size ≠ K) (hA : ∀ g, n5 ≤ g → A g) (h5 : k0 + 1 + 1 ≤ n5) (o : Int) (n : Nat) (hn : n = W.heap.size) {t : TypeId} : XAt (fun g => Ap2 A k0 g ∧ g ≠ K) (W.alloc (.cells #[.int .i64 x.op, .int .i64 x.v.k, .bool x.v.b, .int .i64 x.v.n, .string ⟨x.v.s.toArray⟩, .string ⟨x.v.t.toArray⟩, .string ⟨x.v.i.toArray⟩, .slice none 0 0, .slice none 0 0, .string ⟨x.nm.toArray⟩, .slice p.ka x.ks.length p.kc, .slice p.na x.ns.length p.nc, .int .i64 y.op, .int .i64 y.v.k, .bool y.v.b, .int .i64 y.v.n, .string ⟨y.v.s.toArray⟩, .string ⟨y.v.t.toArray⟩, .string ⟨y.v.i.toArray⟩, .slice none 0 0, .slice none 0 0, .string ⟨y.nm.toArray⟩, .slice q.ka y.ks.length q.kc, .slice q.na y.ns.length q.nc] t)) (nodE o [x, y]) ⟨some ⟨n, 0, none⟩, 2, none, 0⟩ :=
  nod_at o [(x, p), (y, q)] (by simp) ⟨⟨hA _ hW, by omega, by omega⟩, hS⟩ (fun z hz => by
    simp only [List.mem_cons, List.not_mem_nil, or_false] at hz
    rcases hz with rfl | rfl
    · exact hx.base fun g hg => ⟨hg.1, hK g hg.2⟩
    · exact hy.base fun g hg => ⟨hg.1, hK2 g hg.2.1 hg.2.2.1 hg.2.2.2⟩) _ _ rfl [] n hn 2 rfl
theorem dot_sz {w5 W w6 : World} (k : Lx b W w6) (hW : Low w5 W := by first | exact Low.of_drew ⟨1, rfl⟩ | exact (low_new (Low.refl _) _).trans (Low.of_drew ⟨1, rfl⟩)) : w5.heap.size ≤ w6.heap.size := Nat.le_trans hW.size k.size
theorem dot_z3 {w6 w7 : World} {S : Obj} (h : Low ((w6.alloc S).alloc (.cells #[.int .i64 0, .int .i64 0, .bool false, .int .i64 0, .string ⟨#[]⟩, .string ⟨#[]⟩, .string ⟨#[]⟩, .slice none 0 0, .slice none 0 0, .string ⟨#[]⟩, .slice none 0 0, .slice none 0 0] 30)) w7) : BoxE (w6.heap.size + 1) (.mk 0 li0 [] [] []) pl0 w7 := by
  have e := (BoxE.new (w6.alloc S) (.mk 0 li0 [] [] []) pl0 30).low h
  rwa [show (w6.alloc S).heap.size = w6.heap.size + 1 by simp] at e
theorem dot_z2 {w6 w7 : World} {S : Obj} (h : Low ((w6.alloc (.cells #[.int .i64 0, .int .i64 0, .bool false, .int .i64 0, .string ⟨#[]⟩, .string ⟨#[]⟩, .string ⟨#[]⟩, .slice none 0 0, .slice none 0 0, .string ⟨#[]⟩, .slice none 0 0, .slice none 0 0] 30)).alloc S) w7) : BoxE w6.heap.size (.mk 0 li0 [] [] []) pl0 w7 :=
  (BoxE.new w6 (.mk 0 li0 [] [] []) pl0 30).low ((low_new (Low.refl _) S).trans h)
theorem dot_z1 {w5 w6 : World} (h : Lx b (w5.alloc (.cells #[.int .i64 0, .int .i64 0, .bool false, .int .i64 0, .string ⟨#[]⟩, .string ⟨#[]⟩, .string ⟨#[]⟩, .slice none 0 0, .slice none 0 0, .string ⟨#[]⟩, .slice none 0 0, .slice none 0 0] 30)).drew w6) (hb : b < w5.heap.size) : BoxE w5.heap.size (.mk 0 li0 [] [] []) pl0 w6 :=
  ((BoxE.new w5 (.mk 0 li0 [] [] []) pl0 30).low (Low.of_drew ⟨1, rfl⟩)).lx h (by omega)
theorem dot_lx {W0 w5 W w6 : World} (h : Lx b W0 w5) (k : Lx b W w6) (hW : Low w5 W := by first | exact Low.of_drew ⟨1, rfl⟩ | exact (low_new (Low.refl _) _).trans (Low.of_drew ⟨1, rfl⟩)) : Lx b W0 w6 := (h.low' hW).trans k
theorem dot_x {A : Nat → Prop} {x : Ex} {p : Pl} {w5 W w6 : World} (h : XAt A w5 x p) (hA : ∀ g, A g → g ≠ b) (k : Lx b W w6) (hW : Low w5 W := by first | exact Low.of_drew ⟨1, rfl⟩ | exact (low_new (Low.refl _) _).trans (Low.of_drew ⟨1, rfl⟩)) : XAt A w6 x p := (h.low hW).lx k hA
theorem dot_b {n : Nat} {x : Ex} {p : Pl} {w5 W w6 : World} (h : BoxE n x p w5) (hn : n ≠ b) (k : Lx b W w6) (hW : Low w5 W := by first | exact Low.of_drew ⟨1, rfl⟩ | exact (low_new (Low.refl _) _).trans (Low.of_drew ⟨1, rfl⟩)) : BoxE n x p w6 := (h.low hW).lx k hn
end
end Go.Proofs.YtflpidnkppljlaaDoor
namespace Go.Proofs.YtflpidnkppljlaaDoor
open Go.RowKit
theorem BoxE.putNode {k : Nat} {x : Ex} {p : Pl} {w : World} (h : BoxE k x p w) (o : Int) (x0 y : Ex) (a : Option Addr) : BoxE k (nodE o [x0, y]) ⟨a, 2, none, 0⟩ ((((((((((((w.setCell ⟨k, 0, none⟩ (.int .i64 o)).setCell ⟨k, 1, none⟩ (.int .i64 0)).setCell ⟨k, 2, none⟩ (.bool false)).setCell ⟨k, 3, none⟩ (.int .i64 0)).setCell ⟨k, 4, none⟩ (.string ⟨#[]⟩)).setCell ⟨k, 5, none⟩ (.string ⟨#[]⟩)).setCell ⟨k, 6, none⟩ (.string ⟨#[]⟩)).setCell ⟨k, 7, none⟩ (.slice none 0 0)).setCell ⟨k, 8, none⟩ (.slice none 0 0)).setCell ⟨k, 9, none⟩ (.string ⟨#[]⟩)).setCell ⟨k, 10, none⟩ (.slice a 2 2)).setCell ⟨k, 11, none⟩ (.slice none 0 0)) := by
  have h := h.put (nodE o [x0, y]) ⟨a, 2, none, 0⟩
  have e1 : (nodE o [x0, y]).op = o := rfl
  have e2 : (nodE o [x0, y]).v = li0 := rfl
  have e3 : (nodE o [x0, y]).nm = [] := rfl
  have e4 : (nodE o [x0, y]).ks.length = 2 := rfl
  have e5 : (nodE o [x0, y]).ns.length = 0 := rfl
  rw [e1, e2, e3, e4, e5] at h
  exact h
theorem BoxE.newNode (w : World) (o : Int) (x0 y : Ex) (a : Option Addr) (t : TypeId) : BoxE w.heap.size (nodE o [x0, y]) ⟨a, 2, none, 0⟩ (w.alloc (.cells #[.int .i64 o, .int .i64 0, .bool false, .int .i64 0, .string ⟨#[]⟩, .string ⟨#[]⟩, .string ⟨#[]⟩, .slice none 0 0, .slice none 0 0, .string ⟨#[]⟩, .slice a 2 2, .slice none 0 0] t)) := by
  have h := BoxE.new w (nodE o [x0, y]) ⟨a, 2, none, 0⟩ t
  have e1 : (nodE o [x0, y]).op = o := rfl
  have e2 : (nodE o [x0, y]).v = li0 := rfl
  have e3 : (nodE o [x0, y]).nm = [] := rfl
  have e4 : (nodE o [x0, y]).ks.length = 2 := rfl
  have e5 : (nodE o [x0, y]).ns.length = 0 := rfl
  rw [e1, e2, e3, e4, e5] at h
  exact h
section
variable {b : Nat} {ao : Option Addr} {cap : Nat} {l : List Wd}
theorem dot_put {A : Nat → Prop} {m k : Nat} {o : Int} {x0 y x' : Ex} {p' : Pl} {a : Option Addr} {d : Int} {R2 : Rd Ex} {w W0 w7 : World} (BQ : BoxE k x' p' w7) (XQ : XAt (fun g => Ap2 A m g ∧ g ≠ k) w7 (nodE o [x0, y]) ⟨a, 2, none, 0⟩) (SQ : St b ao cap l d R2.unit w7) (LQ : Lx b W0 w7) (hb : b < w.heap.size) (hw : w.heap.size ≤ k) (hk : W0.heap.size ≤ k) (ok : Hid (∀ y2 n, R2 = .ok y2 n → y = y2)) :
    ∃ (kb : Nat) (px : Pl) (y1 : Ex), Value.pointer (some ⟨k, 0, none⟩) = .pointer (some ⟨kb, 0, none⟩) ∧ Hid (BoxE kb (nodE o [x0, y1]) px ((((((((((((w7.setCell ⟨k, 0, none⟩ (.int .i64 o)).setCell ⟨k, 1, none⟩ (.int .i64 0)).setCell ⟨k, 2, none⟩ (.bool false)).setCell ⟨k, 3, none⟩ (.int .i64 0)).setCell ⟨k, 4, none⟩ (.string ⟨#[]⟩)).setCell ⟨k, 5, none⟩ (.string ⟨#[]⟩)).setCell ⟨k, 6, none⟩ (.string ⟨#[]⟩)).setCell ⟨k, 7, none⟩ (.slice none 0 0)).setCell ⟨k, 8, none⟩ (.slice none 0 0)).setCell ⟨k, 9, none⟩ (.string ⟨#[]⟩)).setCell ⟨k, 10, none⟩ (.slice a 2 2)).setCell ⟨k, 11, none⟩ (.slice none 0 0))) ∧ Hid (XAt (Ap2 A m) ((((((((((((w7.setCell ⟨k, 0, none⟩ (.int .i64 o)).setCell ⟨k, 1, none⟩ (.int .i64 0)).setCell ⟨k, 2, none⟩ (.bool false)).setCell ⟨k, 3, none⟩ (.int .i64 0)).setCell ⟨k, 4, none⟩ (.string ⟨#[]⟩)).setCell ⟨k, 5, none⟩ (.string ⟨#[]⟩)).setCell ⟨k, 6, none⟩ (.string ⟨#[]⟩)).setCell ⟨k, 7, none⟩ (.slice none 0 0)).setCell ⟨k, 8, none⟩ (.slice none 0 0)).setCell ⟨k, 9, none⟩ (.string ⟨#[]⟩)).setCell ⟨k, 10, none⟩ (.slice a 2 2)).setCell ⟨k, 11, none⟩ (.slice none 0 0)) (nodE o [x0, y1]) px) ∧ Hid (St b ao cap l d R2.unit ((((((((((((w7.setCell ⟨k, 0, none⟩ (.int .i64 o)).setCell ⟨k, 1, none⟩ (.int .i64 0)).setCell ⟨k, 2, none⟩ (.bool false)).setCell ⟨k, 3, none⟩ (.int .i64 0)).setCell ⟨k, 4, none⟩ (.string ⟨#[]⟩)).setCell ⟨k, 5, none⟩ (.string ⟨#[]⟩)).setCell ⟨k, 6, none⟩ (.string ⟨#[]⟩)).setCell ⟨k, 7, none⟩ (.slice none 0 0)).setCell ⟨k, 8, none⟩ (.slice none 0 0)).setCell ⟨k, 9, none⟩ (.string ⟨#[]⟩)).setCell ⟨k, 10, none⟩ (.slice a 2 2)).setCell ⟨k, 11, none⟩ (.slice none 0 0))) ∧ Hid (Lx b W0 ((((((((((((w7.setCell ⟨k, 0, none⟩ (.int .i64 o)).setCell ⟨k, 1, none⟩ (.int .i64 0)).setCell ⟨k, 2, none⟩ (.bool false)).setCell ⟨k, 3, none⟩ (.int .i64 0)).setCell ⟨k, 4, none⟩ (.string ⟨#[]⟩)).setCell ⟨k, 5, none⟩ (.string ⟨#[]⟩)).setCell ⟨k, 6, none⟩ (.string ⟨#[]⟩)).setCell ⟨k, 7, none⟩ (.slice none 0 0)).setCell ⟨k, 8, none⟩ (.slice none 0 0)).setCell ⟨k, 9, none⟩ (.string ⟨#[]⟩)).setCell ⟨k, 10, none⟩ (.slice a 2 2)).setCell ⟨k, 11, none⟩ (.slice none 0 0))) ∧ Hid (kb ≠ b) ∧ Hid (∀ y2 n, R2 = .ok y2 n → y1 = y2) :=
  ⟨k, ⟨a, 2, none, 0⟩, y, rfl, Lib.hid (BoxE.putNode BQ _ _ _ _), Lib.hid ((tow_xa XQ (fun g hg => hg.2)).base fun g hg => hg.1), Lib.hid (tow_stk (w0 := w) SQ hb hw), Lib.hid (tow_lxk LQ hk), Lib.hid (by omega), ok⟩
theorem dot_new {A : Nat → Prop} {m : Nat} {o : Int} {x0 y : Ex} {q : Nat} {a : Option Addr} {d : Int} {R2 : Rd Ex} {W0 w7 : World} {t : TypeId} (XQ : XAt (fun g => Ap2 A m g ∧ g ≠ q) w7 (nodE o [x0, y]) ⟨a, 2, none, 0⟩) (SQ : St b ao cap l d R2.unit w7) (LQ : Lx b W0 w7) (hb : b < w7.heap.size) (ok : Hid (∀ y2 n, R2 = .ok y2 n → y = y2)) :
    ∃ (kb : Nat) (px : Pl) (y1 : Ex), Value.pointer (some ⟨w7.heap.size, 0, none⟩) = .pointer (some ⟨kb, 0, none⟩) ∧ Hid (BoxE kb (nodE o [x0, y1]) px (w7.alloc (.cells #[.int .i64 o, .int .i64 0, .bool false, .int .i64 0, .string ⟨#[]⟩, .string ⟨#[]⟩, .string ⟨#[]⟩, .slice none 0 0, .slice none 0 0, .string ⟨#[]⟩, .slice a 2 2, .slice none 0 0] t))) ∧ Hid (XAt (Ap2 A m) (w7.alloc (.cells #[.int .i64 o, .int .i64 0, .bool false, .int .i64 0, .string ⟨#[]⟩, .string ⟨#[]⟩, .string ⟨#[]⟩, .slice none 0 0, .slice none 0 0, .string ⟨#[]⟩, .slice a 2 2, .slice none 0 0] t)) (nodE o [x0, y1]) px) ∧ Hid (St b ao cap l d R2.unit (w7.alloc (.cells #[.int .i64 o, .int .i64 0, .bool false, .int .i64 0, .string ⟨#[]⟩, .string ⟨#[]⟩, .string ⟨#[]⟩, .slice none 0 0, .slice none 0 0, .string ⟨#[]⟩, .slice a 2 2, .slice none 0 0] t))) ∧ Hid (Lx b W0 (w7.alloc (.cells #[.int .i64 o, .int .i64 0, .bool false, .int .i64 0, .string ⟨#[]⟩, .string ⟨#[]⟩, .string ⟨#[]⟩, .slice none 0 0, .slice none 0 0, .string ⟨#[]⟩, .slice a 2 2, .slice none 0 0] t))) ∧ Hid (kb ≠ b) ∧ Hid (∀ y2 n, R2 = .ok y2 n → y1 = y2) :=
  ⟨w7.heap.size, ⟨a, 2, none, 0⟩, y, rfl, Lib.hid (BoxE.newNode _ _ _ _ _ _), Lib.hid ((XQ.low (low_new (Low.refl _) _)).base fun g hg => hg.1), Lib.hid (SQ.new _), Lib.hid (LQ.alloc _), Lib.hid (by omega), ok⟩
end
end Go.Proofs.YtflpidnkppljlaaDoor
