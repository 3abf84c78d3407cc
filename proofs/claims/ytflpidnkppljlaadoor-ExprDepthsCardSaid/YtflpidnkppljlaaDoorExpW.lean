/- What stands in brackets. Condition: the words are no more than 70000, and no name is longer than that; what an expression reads. -/
import Derived.Test.YtflpidnkppljlaaDoorExO
import Derived.Test.YtflpidnkppljlaaDoorExpN
import Derived.Test.YtflpidnkppljlaaDoorExG
set_option linter.unusedVariables false
set_option linter.unnecessarySimpa false
set_option linter.unusedSimpArgs false
namespace Go.Proofs.YtflpidnkppljlaaDoor
open Go.RowKit
section
variable {b : Nat} {ao : Option Addr} {cap : Nat} {l : List Wd}
/-- The call's own blocks ahead of the expression's box. -/
theorem brk_facts {w W1 W : World} (e : W1 = ((w.alloc (.cells #[.pointer (some ⟨b, 0, none⟩)] 53)).alloc (.cells #[.int .i64 0, .int .i64 0, .bool false, .int .i64 0, .string ⟨#[]⟩, .string ⟨#[]⟩, .string ⟨#[]⟩, .slice none 0 0, .slice none 0 0, .string ⟨#[]⟩, .slice none 0 0, .slice none 0 0] 30))) (h : Lx b W1 W) (hb : b < w.heap.size) :
    (W.cell? ⟨w.heap.size, 0, none⟩ = some (.pointer (some ⟨b, 0, none⟩))) ∧ (W.cell? ⟨w.heap.size + 1, 0, none⟩ = some (.int .i64 0) ∧ W.cell? ⟨w.heap.size + 1, 1, none⟩ = some (.int .i64 0) ∧ W.cell? ⟨w.heap.size + 1, 2, none⟩ = some (.bool false) ∧ W.cell? ⟨w.heap.size + 1, 3, none⟩ = some (.int .i64 0) ∧ W.cell? ⟨w.heap.size + 1, 4, none⟩ = some (.string ⟨#[]⟩) ∧ W.cell? ⟨w.heap.size + 1, 5, none⟩ = some (.string ⟨#[]⟩) ∧ W.cell? ⟨w.heap.size + 1, 6, none⟩ = some (.string ⟨#[]⟩) ∧ W.cell? ⟨w.heap.size + 1, 7, none⟩ = some (.slice none 0 0) ∧ W.cell? ⟨w.heap.size + 1, 8, none⟩ = some (.slice none 0 0) ∧ W.cell? ⟨w.heap.size + 1, 9, none⟩ = some (.string ⟨#[]⟩) ∧ W.cell? ⟨w.heap.size + 1, 10, none⟩ = some (.slice none 0 0) ∧ W.cell? ⟨w.heap.size + 1, 11, none⟩ = some (.slice none 0 0)) ∧ ∀ j, W.frozen? ⟨w.heap.size + 1, j, none⟩ = false := by
  subst e
  have e1 : W.heap[w.heap.size]? = ((w.alloc (.cells #[.pointer (some ⟨b, 0, none⟩)] 53)).alloc (.cells #[.int .i64 0, .int .i64 0, .bool false, .int .i64 0, .string ⟨#[]⟩, .string ⟨#[]⟩, .string ⟨#[]⟩, .slice none 0 0, .slice none 0 0, .string ⟨#[]⟩, .slice none 0 0, .slice none 0 0] 30)).heap[w.heap.size]? := h.block _ (by simp; omega) (by omega)
  have e2 : W.heap[w.heap.size + 1]? = ((w.alloc (.cells #[.pointer (some ⟨b, 0, none⟩)] 53)).alloc (.cells #[.int .i64 0, .int .i64 0, .bool false, .int .i64 0, .string ⟨#[]⟩, .string ⟨#[]⟩, .string ⟨#[]⟩, .slice none 0 0, .slice none 0 0, .string ⟨#[]⟩, .slice none 0 0, .slice none 0 0] 30)).heap[w.heap.size + 1]? := h.block _ (by simp) (by omega)
  have c1 : ((w.alloc (.cells #[.pointer (some ⟨b, 0, none⟩)] 53)).alloc (.cells #[.int .i64 0, .int .i64 0, .bool false, .int .i64 0, .string ⟨#[]⟩, .string ⟨#[]⟩, .string ⟨#[]⟩, .slice none 0 0, .slice none 0 0, .string ⟨#[]⟩, .slice none 0 0, .slice none 0 0] 30)).cell? ⟨w.heap.size, 0, none⟩ = some (.pointer (some ⟨b, 0, none⟩)) := by
    rw [World.cell?_alloc_lt _ _ _ (by simp), World.cell?_alloc_mark]; rfl
  have e3 : (w.alloc (.cells #[.pointer (some ⟨b, 0, none⟩)] 53)).heap.size = w.heap.size + 1 := by simp
  have c2 : ∀ j, ((w.alloc (.cells #[.pointer (some ⟨b, 0, none⟩)] 53)).alloc (.cells #[.int .i64 0, .int .i64 0, .bool false, .int .i64 0, .string ⟨#[]⟩, .string ⟨#[]⟩, .string ⟨#[]⟩, .slice none 0 0, .slice none 0 0, .string ⟨#[]⟩, .slice none 0 0, .slice none 0 0] 30)).cell? ⟨w.heap.size + 1, j, none⟩ = #[.int .i64 0, .int .i64 0, .bool false, .int .i64 0, .string ⟨#[]⟩, .string ⟨#[]⟩, .string ⟨#[]⟩, .slice none 0 0, .slice none 0 0, .string ⟨#[]⟩, .slice none 0 0, .slice none 0 0][j]? := fun j => by rw [← e3, World.cell?_alloc_mark]
  have f2 : ∀ j, ((w.alloc (.cells #[.pointer (some ⟨b, 0, none⟩)] 53)).alloc (.cells #[.int .i64 0, .int .i64 0, .bool false, .int .i64 0, .string ⟨#[]⟩, .string ⟨#[]⟩, .string ⟨#[]⟩, .slice none 0 0, .slice none 0 0, .string ⟨#[]⟩, .slice none 0 0, .slice none 0 0] 30)).frozen? ⟨w.heap.size + 1, j, none⟩ = false := fun j => by rw [← e3]; simp
  have g : ∀ j, W.cell? ⟨w.heap.size + 1, j, none⟩ = #[.int .i64 0, .int .i64 0, .bool false, .int .i64 0, .string ⟨#[]⟩, .string ⟨#[]⟩, .string ⟨#[]⟩, .slice none 0 0, .slice none 0 0, .string ⟨#[]⟩, .slice none 0 0, .slice none 0 0][j]? := fun j => (World.cell?_of_block (a := ⟨w.heap.size + 1, j, none⟩) e2).trans (c2 j)
  exact ⟨(World.cell?_of_block (a := ⟨w.heap.size, 0, none⟩) e1).trans c1, ⟨g 0, g 1, g 2, g 3, g 4, g 5, g 6, g 7, g 8, g 9, g 10, g 11⟩, fun j => (World.frozen?_of_block (a := ⟨w.heap.size + 1, j, none⟩) e2).trans (f2 j)⟩
theorem BoxE.put0 {k : Nat} {op op' : Int} {ks : List Ex} {ns : List (List UInt8)} {v : Li} {nm : List UInt8} {p : Pl} {w : World} (h : BoxE k (.mk op v nm ks ns) p w) : BoxE k (.mk op' v nm ks ns) p (w.setCell ⟨k, 0, none⟩ (.int .i64 op')) := by
  obtain ⟨⟨h0, h1, h2, h3, h4, h5, h6, h7, h8, h9, h10, h11⟩, hf⟩ := h
  exact ⟨⟨setC_same h0, setC_other h1 (by decide), setC_other h2 (by decide), setC_other h3 (by decide), setC_other h4 (by decide), setC_other h5 (by decide), setC_other h6 (by decide), setC_other h7 (by decide), setC_other h8 (by decide), setC_other h9 (by decide), setC_other h10 (by decide), setC_other h11 (by decide)⟩, fun j => by rw [World.frozen?_setCell]; exact hf j⟩
theorem es_start {op : Int} {W1 W : World} (hb : b < W1.heap.size) (hx : BoxE W1.heap.size (.mk op li0 [] [] []) pl0 W) (hl : Lx b W1 W) : ES b op W1 W pl0 [] [] :=
  ⟨hx, OwnR.nil _ _ _ _ _, OwnR.nil _ _ _ _ _, (fun y hy => by cases hy), hl, hb⟩
theorem brk_no {s : Rd Unit} {f d : Nat} (h1 : tkB l s 5 [40] = false) (h2 : tkB l s 5 [91] = false) (h3 : tkB l s 5 [123] = false) : (s.then fun _ a => brackR l f d a).unit = failS s 10 (wdK l s 0) ∧ ∀ y n, (s.then fun _ a => brackR l f d a) ≠ .ok y n := by
  cases s with
  | bad e p => exact ⟨rfl, fun y n h => by cases h⟩
  | ok u a =>
    have h1 : isW l a 5 [40] = false := h1
    have h2 : isW l a 5 [91] = false := h2
    have h3 : isW l a 5 [123] = false := h3
    rw [wdK_zero]
    simp only [Rd.then, failS]
    unfold brackR
    rw [h1, h2, h3]
    exact ⟨rfl, fun y n h => by cases h⟩
theorem par_unit {R : Rd Ex} {t : List UInt8} : (R.then fun x n => (mustW l 5 t n).then fun _ n => .ok x n).unit = mustS l R.unit 5 t := by
  cases R with
  | bad e p => rfl
  | ok x n =>
    unfold mustS
    simp only [Rd.then, Rd.unit]
    cases mustW l 5 t n <;> rfl
theorem ms_field {f' : Nat} {a : Int} (h : 12 * leftW l a + 12 ≤ f') : Ms l f' 0 (mustS l (fldS l (.ok () a)).unit 5 [58]) := by
  have e : fldS l (.ok () a) = textW l (if (wdA l a).k = 3 then 3 else 1) a := rfl
  rw [e]
  cases h1 : textW l (if (wdA l a).k = 3 then 3 else 1) a with
  | bad e p => show 12 - 0 ≤ f'; omega
  | ok t n =>
    have a1 := textW_ok h1 (by split <;> decide)
    have e2 : mustS l (Rd.ok t n : Rd (List UInt8)).unit 5 [58] = mustW l 5 [58] n := rfl
    rw [e2]
    cases h2 : mustW l 5 [58] n with
    | bad e p => show 12 - 0 ≤ f'; omega
    | ok u m =>
      have a2 := mustW_ok h2 (by decide)
      have := left_less (l := l) (a := a) (n := m) a1.1 (by omega) (by omega)
      show 12 * leftW l m + 12 - 0 ≤ f'
      omega
set_option maxHeartbeats 16000000 in
set_option maxRecDepth 100000 in
theorem brack_c (hl : l.length ≤ 70000) {d f : Nat} {s : Rd Unit} (w : World) (h : St b ao cap l (d : Int) s w) (hm : ∀ u a, s = .ok u a → 12 * leftW l a + 3 ≤ f)
    (ih : ∀ f', f' ≤ f → RuleC b ao cap l 18 0 f' d) :
    Calls Tryd.prog 86 #[.pointer (some ⟨b, 0, none⟩)] w (RuleP b ao cap l (d : Int) (s.then fun _ a => brackR l f d a) w) := by
  have H := Lib.hid h
  have HBW := Lib.hid (st_lt h)
  have IH := Lib.hid ih
  have HM := Lib.hid hm
  obtain ⟨W1, hW1⟩ : ∃ W1, W1 = ((w.alloc (.cells #[.pointer (some ⟨b, 0, none⟩)] 53)).alloc (.cells #[.int .i64 0, .int .i64 0, .bool false, .int .i64 0, .string ⟨#[]⟩, .string ⟨#[]⟩, .string ⟨#[]⟩, .slice none 0 0, .slice none 0 0, .string ⟨#[]⟩, .slice none 0 0, .slice none 0 0] 30)) := ⟨_, rfl⟩
  have hsz : W1.heap.size = w.heap.size + 1 + 1 := by rw [hW1]; simp
  have LW : Low w W1 := by rw [hW1]; exact low_new (low_new (Low.refl _) _) _
  have HLW := Lib.hid LW
  have HSZ := Lib.hid hsz
  have HEW := Lib.hid hW1
  have BX0 := Lib.hid (show BoxE (w.heap.size + 1 + 1) (.mk 0 li0 [] [] []) pl0 (W1.alloc (.cells #[.int .i64 0, .int .i64 0, .bool false, .int .i64 0, .string ⟨#[]⟩, .string ⟨#[]⟩, .string ⟨#[]⟩, .slice none 0 0, .slice none 0 0, .string ⟨#[]⟩, .slice none 0 0, .slice none 0 0] 30)) by rw [← hsz]; exact BoxE.new W1 (.mk 0 li0 [] [] []) pl0 _)
  have HBW1 := Lib.hid (show b < W1.heap.size by rw [hsz]; have := HBW.out; omega)
  have FX := Lib.hid fun W (k : Lx b W1 W) => brk_facts hW1 k HBW.out
  have ST0 := Lib.hid (H.out.low (LW.trans (low_new (Low.refl W1) (.cells #[.int .i64 0, .int .i64 0, .bool false, .int .i64 0, .string ⟨#[]⟩, .string ⟨#[]⟩, .string ⟨#[]⟩, .slice none 0 0, .slice none 0 0, .string ⟨#[]⟩, .slice none 0 0, .slice none 0 0] 30))))
  have cr0 : (W1.alloc (.cells #[.int .i64 0, .int .i64 0, .bool false, .int .i64 0, .string ⟨#[]⟩, .string ⟨#[]⟩, .string ⟨#[]⟩, .slice none 0 0, .slice none 0 0, .string ⟨#[]⟩, .slice none 0 0, .slice none 0 0] 30)).cell? ⟨w.heap.size, 0, none⟩ = some (.pointer (some ⟨b, 0, none⟩)) := (FX.out _ ((Lx.refl b W1).alloc _)).1
  have hbk : b ≠ w.heap.size + 1 + 1 := by have := HBW.out; omega
  clear h hm ih LW hsz
  obtain ⟨q1, hq1⟩ : ∃ q1, tkB l s 5 [40] = q1 := ⟨_, rfl⟩
  have HT := Lib.hid (takes_c hl 5 (by decide) [40] _ ST0.out)
  rw [hq1] at HT
  go_enter Tryd.func86, Tryd.ntmps86
  go_wp2_with fail
  rw [← hW1]
  clear hW1
  cases q1 with
  | true =>
    obtain ⟨n, rfl, hn, hS⟩ := tkS_yes (by decide) hq1
    rw [hS] at HT
    have hml := HM.out () _ rfl
    have hll := left_less (l := l) (a := (n : Int)) (n := (n : Int) + 1) (by omega) (by omega) (by omega)
    have HR := Lib.hid (show brackR l f d (n : Int) = (rdE l f 0 d ((n : Int) + 1)).then fun x n => (mustW l 5 [41] n).then fun _ n => .ok x n by unfold brackR; rw [if_pos (show isW l (n : Int) 5 [40] = true from hq1)])
    have HMS := Lib.hid (show Ms l f 0 (.ok () ((n : Int) + 1)) by show 12 * leftW l ((n : Int) + 1) + 12 - 0 ≤ f; omega)
    clear hq1 hS hml hll
    refine (HT.out).mono ?_
    rintro e w2 ⟨rfl, s2, l2⟩
    have S2 := Lib.hid s2
    have L2 := Lib.hid (((Lx.refl b W1).alloc _).trans l2)
    have BX2 := Lib.hid (BX0.out.lx l2 (by have := HBW.out; omega))
    have cr2 := (FX.out _ L2.out).1
    clear s2 l2 HT cr0
    go_wp2_with fail
    refine (IH.out f (Nat.le_refl _) _ _ S2.out HMS.out).mono ?_
    rintro e w3 ⟨x, p, rfl, x3, s3, l3, ok3⟩
    have S3 := Lib.hid s3
    have L3 := Lib.hid (L2.out.trans l3)
    have BX3 := Lib.hid (BX2.out.lx l3 (by have := HBW.out; omega))
    have X3 := Lib.hid x3
    have OK3 := Lib.hid ok3
    have HS2 := Lib.hid (show w.heap.size + 1 + 1 < w2.heap.size from BX2.out.lt)
    clear s3 l3 x3 ok3 cr2
    have LT := Lib.hid (tow_lxk L3.out (k := w.heap.size + 1 + 1) (Nat.le_of_eq HSZ.out) : Lx b W1 ((((((((((((w3.setCell ⟨w.heap.size + 1 + 1, 0, none⟩ (.int .i64 (x).op)).setCell ⟨w.heap.size + 1 + 1, 1, none⟩ (.int .i64 (x).v.k)).setCell ⟨w.heap.size + 1 + 1, 2, none⟩ (.bool (x).v.b)).setCell ⟨w.heap.size + 1 + 1, 3, none⟩ (.int .i64 (x).v.n)).setCell ⟨w.heap.size + 1 + 1, 4, none⟩ (.string ⟨(x).v.s.toArray⟩)).setCell ⟨w.heap.size + 1 + 1, 5, none⟩ (.string ⟨(x).v.t.toArray⟩)).setCell ⟨w.heap.size + 1 + 1, 6, none⟩ (.string ⟨(x).v.i.toArray⟩)).setCell ⟨w.heap.size + 1 + 1, 7, none⟩ (.slice none 0 0)).setCell ⟨w.heap.size + 1 + 1, 8, none⟩ (.slice none 0 0)).setCell ⟨w.heap.size + 1 + 1, 9, none⟩ (.string ⟨(x).nm.toArray⟩)).setCell ⟨w.heap.size + 1 + 1, 10, none⟩ (.slice (p).ka (x).ks.length (p).kc)).setCell ⟨w.heap.size + 1 + 1, 11, none⟩ (.slice (p).na (x).ns.length (p).nc)))
    have cr3 := (FX.out _ LT.out).1
    have ST := Lib.hid (tow_stk (w0 := W1) S3.out HBW1.out (k := w.heap.size + 1 + 1) (Nat.le_of_eq HSZ.out) : St b ao cap l (d : Int) _ ((((((((((((w3.setCell ⟨w.heap.size + 1 + 1, 0, none⟩ (.int .i64 (x).op)).setCell ⟨w.heap.size + 1 + 1, 1, none⟩ (.int .i64 (x).v.k)).setCell ⟨w.heap.size + 1 + 1, 2, none⟩ (.bool (x).v.b)).setCell ⟨w.heap.size + 1 + 1, 3, none⟩ (.int .i64 (x).v.n)).setCell ⟨w.heap.size + 1 + 1, 4, none⟩ (.string ⟨(x).v.s.toArray⟩)).setCell ⟨w.heap.size + 1 + 1, 5, none⟩ (.string ⟨(x).v.t.toArray⟩)).setCell ⟨w.heap.size + 1 + 1, 6, none⟩ (.string ⟨(x).v.i.toArray⟩)).setCell ⟨w.heap.size + 1 + 1, 7, none⟩ (.slice none 0 0)).setCell ⟨w.heap.size + 1 + 1, 8, none⟩ (.slice none 0 0)).setCell ⟨w.heap.size + 1 + 1, 9, none⟩ (.string ⟨(x).nm.toArray⟩)).setCell ⟨w.heap.size + 1 + 1, 10, none⟩ (.slice (p).ka (x).ks.length (p).kc)).setCell ⟨w.heap.size + 1 + 1, 11, none⟩ (.slice (p).na (x).ns.length (p).nc)))
    obtain ⟨⟨b0, b1, b2, b3, b4, b5, b6, b7, b8, b9, b10, b11⟩, fz⟩ := BX3.out
    unfold exv
    go_wp2_with fail
    refine (must_c hl 5 (by decide) [41] _ ST.out).mono ?_
    rintro e w4 ⟨rfl, s4, l4⟩
    have S4 := Lib.hid s4
    have L4 := Lib.hid (LT.out.trans l4)
    have BX4 := Lib.hid ((BX3.out.put x p).lx l4 (by have := HBW.out; omega))
    have X4 := Lib.hid ((tow_xa (A := fun g => w.heap.size + 1 + 1 ≤ g ∧ g ≠ w.heap.size + 1 + 1) (X3.out.base fun g hg => by have hg : w2.heap.size ≤ g := hg; have := HS2.out; exact ⟨by omega, by omega⟩) (fun g hg => hg.2)).lx l4 (fun g hg => by have := HBW.out; have := hg.1; omega))
    clear s4 l4 b0 b1 b2 b3 b4 b5 b6 b7 b8 b9 b10 b11 fz cr3
    obtain ⟨fr, ⟨c0, c1, c2, c3, c4, c5, c6, c7, c8, c9, c10, c11⟩, fz⟩ := FX.out w4 L4.out
    obtain ⟨⟨b0, b1, b2, b3, b4, b5, b6, b7, b8, b9, b10, b11⟩, -⟩ := BX4.out
    go_wp2_with fail
    obtain ⟨E0, E1, E2, E3, E4, E5, E6, E7, E8, E9, E10, E11⟩ := put12 c0 c1 c2 c3 c4 c5 c6 c7 c8 c9 c10 c11
    refine bodyPost_ret (v := .agg #[.int .i64 (x).op, .int .i64 (x).v.k, .bool (x).v.b, .int .i64 (x).v.n, .string ⟨(x).v.s.toArray⟩, .string ⟨(x).v.t.toArray⟩, .string ⟨(x).v.i.toArray⟩, .slice none 0 0, .slice none 0 0, .string ⟨(x).nm.toArray⟩, .slice (p).ka (x).ks.length (p).kc, .slice (p).na (x).ns.length (p).nc]) (by simp [results, Tryd.results86, go_sem, E0, E1, E2, E3, E4, E5, E6, E7, E8, E9, E10, E11]) rfl ?_
    exact ⟨x, p, rfl, (tow_xa (X4.out.base fun g hg => hg.1) (fun g hg => by have hg : w.heap.size + 1 + 1 ≤ g := hg; omega)).base (fun g hg => by have hg : w.heap.size + 1 + 1 ≤ g := hg; show w.heap.size ≤ g; omega), by show St b ao cap l (d : Int) (brackR l f d (n : Int)).unit _; rw [HR.out]; exact par_unit ▸ tow_stk (w0 := w) S4.out HBW.out (Nat.le_succ _), tow_lxk ((Lx.of_low HLW.out).trans L4.out) (Nat.le_succ _), fun y m h => by have h : brackR l f d (n : Int) = .ok y m := h; rw [HR.out] at h; obtain ⟨x1, n1, h1, h2⟩ := then_ok.1 h; obtain ⟨_, n2, h3, h4⟩ := then_ok.1 h2; injection h4 with h4; rw [← h4]; exact OK3.out x1 n1 h1⟩
  | false =>
    rw [tkS_no hq1] at HT
    obtain ⟨q2, hq2⟩ : ∃ q2, tkB l s 5 [91] = q2 := ⟨_, rfl⟩
    refine HT.out.mono ?_
    rintro e w2 ⟨rfl, s2, l2⟩
    have S2 := Lib.hid s2
    have L2 := Lib.hid (((Lx.refl b W1).alloc _).trans l2)
    have BX2 := Lib.hid (BX0.out.lx l2 (by have := HBW.out; omega))
    have cr2 := (FX.out _ L2.out).1
    have HT2 := Lib.hid (takes_c hl 5 (by decide) [91] _ S2.out)
    rw [hq2] at HT2
    clear s2 l2 HT cr0
    go_wp2_with fail
    cases q2 with
    | true =>
      obtain ⟨n, rfl, hn, hS⟩ := tkS_yes (by decide) hq2
      rw [hS] at HT2
      have hml := HM.out () _ rfl
      have hll := left_less (l := l) (a := (n : Int)) (n := (n : Int) + 1) (by omega) (by omega) (by omega)
      have HR := Lib.hid (show brackR l f d (n : Int) = if isW l ((n : Int) + 1) 5 [93] = true then .ok (.mk 19 li0 [] [] []) ((n : Int) + 1 + 1) else nxS l d f [] [] ((n : Int) + 1) by unfold brackR; rw [show isW l (n : Int) 5 [40] = false from hq1, show isW l (n : Int) 5 [91] = true from hq2]; simp only [Bool.false_eq_true, if_false, if_true]; rw [show (n : Int) + 1 + 1 = (n : Int) + 2 by omega, nxS_eq])
      have HF := Lib.hid (show 12 * leftW l ((n : Int) + 1) + 13 ≤ f by omega)
      clear hq1 hq2 hS hml hll
      refine HT2.out.mono ?_
      rintro e w3 ⟨rfl, s5, l5⟩
      have S5 := Lib.hid s5
      have L5 := Lib.hid (L2.out.trans l5)
      have BX5 := Lib.hid (BX2.out.lx l5 (by have := HBW.out; omega))
      obtain ⟨⟨b0, b1, b2, b3, b4, b5, b6, b7, b8, b9, b10, b11⟩, fz⟩ := BX5.out
      have LS := Lib.hid (L5.out.setN (w.heap.size + 1 + 1) 0 (.int .i64 19) (Nat.le_of_eq HSZ.out))
      have BXS := Lib.hid (BX5.out.put0 (op' := 19))
      have SS := Lib.hid (S5.out.setN (w0 := W1) (w.heap.size + 1 + 1) 0 (.int .i64 19) HBW1.out (Nat.le_of_eq HSZ.out))
      have ES0 := es_start HBW1.out (by rw [HSZ.out]; exact BXS.out) LS.out
      have lc := list1_c hl [93] (itS l d) (nxS l d) (lstS d) w.heap.size _ SS.out pl0 ES0 (by omega) HF.out (fun f' s' W p xs ys hf' hs' he' hx' hy' hm' => item1_c hl w.heap.size (by rw [HSZ.out]; omega) (by have := HBW.out; omega) ((FX.out W1 (Lx.refl b W1)).1) W hs' he' hx' (IH.out f' hf') (by obtain ⟨a', rfl, hm'⟩ := hm'; show 12 * leftW l a' + 12 - 0 ≤ f'; omega))
      rw [HSZ.out] at lc
      have LC := Lib.hid lc
      have cr5 := (FX.out _ L5.out).1
      have cr6 := (FX.out _ LS.out).1
      clear s5 l5 lc ES0
      go_wp2_with fail
      refine (LC.out).mono ?_
      rintro e w6 ⟨rfl, xs, ys, p, e6, s6, ok6⟩
      have EI6 := Lib.hid e6
      have S6 := Lib.hid s6
      have OK6 := Lib.hid ok6
      have BX6 := Lib.hid e6.box
      rw [HSZ.out] at BX6
      have XA6 := Lib.hid e6.rep
      rw [HSZ.out] at XA6
      clear e6 s6 ok6 LC b0 b1 b2 b3 b4 b5 b6 b7 b8 b9 b10 b11 fz cr5 cr6
      obtain ⟨x, hx⟩ : ∃ x, x = Ex.mk 19 li0 [] (xs.map (·.1)) ys := ⟨_, rfl⟩
      rw [← hx] at BX6 XA6 OK6
      clear hx
      obtain ⟨fr, ⟨c0, c1, c2, c3, c4, c5, c6, c7, c8, c9, c10, c11⟩, fz⟩ := FX.out w6 EI6.out.lx
      obtain ⟨⟨b0, b1, b2, b3, b4, b5, b6, b7, b8, b9, b10, b11⟩, -⟩ := BX6.out
      go_wp2_with fail
      obtain ⟨E0, E1, E2, E3, E4, E5, E6, E7, E8, E9, E10, E11⟩ := put12 c0 c1 c2 c3 c4 c5 c6 c7 c8 c9 c10 c11
      refine bodyPost_ret (v := .agg #[.int .i64 (x).op, .int .i64 (x).v.k, .bool (x).v.b, .int .i64 (x).v.n, .string ⟨(x).v.s.toArray⟩, .string ⟨(x).v.t.toArray⟩, .string ⟨(x).v.i.toArray⟩, .slice none 0 0, .slice none 0 0, .string ⟨(x).nm.toArray⟩, .slice (p).ka (x).ks.length (p).kc, .slice (p).na (x).ns.length (p).nc]) (by simp [results, Tryd.results86, go_sem, E0, E1, E2, E3, E4, E5, E6, E7, E8, E9, E10, E11]) rfl ?_
      exact ⟨x, p, rfl, (tow_xa XA6.out (fun g hg => by have hg : w.heap.size + 1 + 1 ≤ g := hg; omega)).base (fun g hg => by have hg : w.heap.size + 1 + 1 ≤ g := hg; show w.heap.size ≤ g; omega), by show St b ao cap l (d : Int) (brackR l f d (n : Int)).unit _; rw [HR.out]; exact tow_stk (w0 := w) S6.out HBW.out (Nat.le_succ _), tow_lxk ((Lx.of_low HLW.out).trans EI6.out.lx) (Nat.le_succ _), fun y m h => by have h : brackR l f d (n : Int) = .ok y m := h; rw [HR.out] at h; exact OK6.out y m h⟩
    | false =>
      rw [tkS_no hq2] at HT2
      obtain ⟨q3, hq3⟩ : ∃ q3, tkB l s 5 [123] = q3 := ⟨_, rfl⟩
      refine HT2.out.mono ?_
      rintro e w3 ⟨rfl, s3, l3⟩
      have S3 := Lib.hid s3
      have L3 := Lib.hid (L2.out.trans l3)
      have BX3 := Lib.hid (BX2.out.lx l3 (by have := HBW.out; omega))
      have cr3 := (FX.out _ L3.out).1
      have HT3 := Lib.hid (takes_c hl 5 (by decide) [123] _ S3.out)
      rw [hq3] at HT3
      clear s3 l3 HT2 cr2
      go_wp2_with fail
      cases q3 with
      | true =>
        obtain ⟨n, rfl, hn, hS⟩ := tkS_yes (by decide) hq3
        rw [hS] at HT3
        have hml := HM.out () _ rfl
        have hll := left_less (l := l) (a := (n : Int)) (n := (n : Int) + 1) (by omega) (by omega) (by omega)
        have HR := Lib.hid (show brackR l f d (n : Int) = if isW l ((n : Int) + 1) 5 [125] = true then .ok (.mk 20 li0 [] [] []) ((n : Int) + 1 + 1) else nxR l d f [] [] ((n : Int) + 1) by unfold brackR; rw [show isW l (n : Int) 5 [40] = false from hq1, show isW l (n : Int) 5 [91] = false from hq2, show isW l (n : Int) 5 [123] = true from hq3]; simp only [Bool.false_eq_true, if_false, if_true]; rw [show (n : Int) + 1 + 1 = (n : Int) + 2 by omega, show nxR l d f [] [] ((n : Int) + 1) = recE l f d [] [] ((n : Int) + 1) from rfl])
        have HF := Lib.hid (show 12 * leftW l ((n : Int) + 1) + 13 ≤ f by omega)
        clear hq1 hq2 hq3 hS hml hll
        refine HT3.out.mono ?_
        rintro e w4 ⟨rfl, s5, l5⟩
        have S5 := Lib.hid s5
        have L5 := Lib.hid (L3.out.trans l5)
        have BX5 := Lib.hid (BX3.out.lx l5 (by have := HBW.out; omega))
        obtain ⟨⟨b0, b1, b2, b3, b4, b5, b6, b7, b8, b9, b10, b11⟩, fz⟩ := BX5.out
        have LS := Lib.hid (L5.out.setN (w.heap.size + 1 + 1) 0 (.int .i64 20) (Nat.le_of_eq HSZ.out))
        have BXS := Lib.hid (BX5.out.put0 (op' := 20))
        have SS := Lib.hid (S5.out.setN (w0 := W1) (w.heap.size + 1 + 1) 0 (.int .i64 20) HBW1.out (Nat.le_of_eq HSZ.out))
        have ES0 := es_start HBW1.out (by rw [HSZ.out]; exact BXS.out) LS.out
        have lc := list2_c hl [125] (itR l d) (nxR l d) (lstR d) w.heap.size _ SS.out pl0 ES0 (by omega) HF.out (fun f' s' W p xs ys hf' hs' he' hx' hy' hm' => item2_c hl w.heap.size (by rw [HSZ.out]; omega) (by have := HBW.out; omega) ((FX.out W1 (Lx.refl b W1)).1) W hs' he' hx' hy' (IH.out f' hf') (by obtain ⟨a', rfl, hm'⟩ := hm'; exact ms_field hm'))
        rw [HSZ.out] at lc
        have LC := Lib.hid lc
        have cr5 := (FX.out _ L5.out).1
        have cr6 := (FX.out _ LS.out).1
        clear s5 l5 lc ES0
        go_wp2_with fail
        refine (LC.out).mono ?_
        rintro e w6 ⟨rfl, xs, ys, p, e6, s6, ok6⟩
        have EI6 := Lib.hid e6
        have S6 := Lib.hid s6
        have OK6 := Lib.hid ok6
        have BX6 := Lib.hid e6.box
        rw [HSZ.out] at BX6
        have XA6 := Lib.hid e6.rep
        rw [HSZ.out] at XA6
        clear e6 s6 ok6 LC b0 b1 b2 b3 b4 b5 b6 b7 b8 b9 b10 b11 fz cr5 cr6
        obtain ⟨x, hx⟩ : ∃ x, x = Ex.mk 20 li0 [] (xs.map (·.1)) ys := ⟨_, rfl⟩
        rw [← hx] at BX6 XA6 OK6
        clear hx
        obtain ⟨fr, ⟨c0, c1, c2, c3, c4, c5, c6, c7, c8, c9, c10, c11⟩, fz⟩ := FX.out w6 EI6.out.lx
        obtain ⟨⟨b0, b1, b2, b3, b4, b5, b6, b7, b8, b9, b10, b11⟩, -⟩ := BX6.out
        go_wp2_with fail
        obtain ⟨E0, E1, E2, E3, E4, E5, E6, E7, E8, E9, E10, E11⟩ := put12 c0 c1 c2 c3 c4 c5 c6 c7 c8 c9 c10 c11
        refine bodyPost_ret (v := .agg #[.int .i64 (x).op, .int .i64 (x).v.k, .bool (x).v.b, .int .i64 (x).v.n, .string ⟨(x).v.s.toArray⟩, .string ⟨(x).v.t.toArray⟩, .string ⟨(x).v.i.toArray⟩, .slice none 0 0, .slice none 0 0, .string ⟨(x).nm.toArray⟩, .slice (p).ka (x).ks.length (p).kc, .slice (p).na (x).ns.length (p).nc]) (by simp [results, Tryd.results86, go_sem, E0, E1, E2, E3, E4, E5, E6, E7, E8, E9, E10, E11]) rfl ?_
        exact ⟨x, p, rfl, (tow_xa XA6.out (fun g hg => by have hg : w.heap.size + 1 + 1 ≤ g := hg; omega)).base (fun g hg => by have hg : w.heap.size + 1 + 1 ≤ g := hg; show w.heap.size ≤ g; omega), by show St b ao cap l (d : Int) (brackR l f d (n : Int)).unit _; rw [HR.out]; exact tow_stk (w0 := w) S6.out HBW.out (Nat.le_succ _), tow_lxk ((Lx.of_low HLW.out).trans EI6.out.lx) (Nat.le_succ _), fun y m h => by have h : brackR l f d (n : Int) = .ok y m := h; rw [HR.out] at h; exact OK6.out y m h⟩
      | false =>
        rw [tkS_no hq3] at HT3
        have HNO := Lib.hid (brk_no (f := f) (d := d) hq1 hq2 hq3)
        clear hq1 hq2 hq3
        refine HT3.out.mono ?_
        rintro e w4 ⟨rfl, s4, l4⟩
        have S4 := Lib.hid s4
        have L4 := Lib.hid (L3.out.trans l4)
        have BX4 := Lib.hid (BX3.out.lx l4 (by have := HBW.out; omega))
        have cr4 := (FX.out _ L4.out).1
        have HW := Lib.hid (word_c hl w4.drew (S4.out.low (Low.of_drew ⟨1, rfl⟩)))
        clear s4 l4 HT3 cr3
        go_wp2_with fail
        go_region_law (first
          | (go_simp; go_at_call 42; (with_reducible refine HW.out.mono ?_); rintro e w5 ⟨rfl, l5⟩; have S5 := Lib.hid ((S4.out.low (Low.of_drew ⟨1, rfl⟩)).low l5); have L5 := Lib.hid (L4.out.drew.low' l5); have BX5 := Lib.hid ((BX4.out.low (Low.of_drew ⟨1, rfl⟩)).low l5); have cr5 := (FX.out _ L5.out).1; have HF := Lib.hid (fail_c 10 (by decide) (wdK l s 0) w5 S5.out); clear l5)
          | (go_simp; go_at_call 44; (with_reducible refine HF.out.mono ?_); rintro e w6 ⟨rfl, s6, l6⟩; have S6 := Lib.hid s6; have L6 := Lib.hid (L5.out.trans l6); have BX6 := Lib.hid (BX5.out.lx l6 (by have := HBW.out; omega)); clear s6 l6))
        all_goals
          obtain ⟨fr, ⟨c0, c1, c2, c3, c4, c5, c6, c7, c8, c9, c10, c11⟩, fz⟩ := FX.out w6 L6.out
          obtain ⟨⟨b0, b1, b2, b3, b4, b5, b6, b7, b8, b9, b10, b11⟩, -⟩ := BX6.out
          go_wp2_with fail
          obtain ⟨E0, E1, E2, E3, E4, E5, E6, E7, E8, E9, E10, E11⟩ := put12 c0 c1 c2 c3 c4 c5 c6 c7 c8 c9 c10 c11
          refine bodyPost_ret (v := .agg #[.int .i64 (Ex.mk 0 li0 [] [] []).op, .int .i64 (Ex.mk 0 li0 [] [] []).v.k, .bool (Ex.mk 0 li0 [] [] []).v.b, .int .i64 (Ex.mk 0 li0 [] [] []).v.n, .string ⟨(Ex.mk 0 li0 [] [] []).v.s.toArray⟩, .string ⟨(Ex.mk 0 li0 [] [] []).v.t.toArray⟩, .string ⟨(Ex.mk 0 li0 [] [] []).v.i.toArray⟩, .slice none 0 0, .slice none 0 0, .string ⟨(Ex.mk 0 li0 [] [] []).nm.toArray⟩, .slice (pl0).ka (Ex.mk 0 li0 [] [] []).ks.length (pl0).kc, .slice (pl0).na (Ex.mk 0 li0 [] [] []).ns.length (pl0).nc]) (by simp [results, Tryd.results86, go_sem, E0, E1, E2, E3, E4, E5, E6, E7, E8, E9, E10, E11]) rfl ?_
          exact ⟨Ex.mk 0 li0 [] [] [], pl0, rfl, (tow_xa (xAt_leaf (Nw (w.heap.size + 1 + 1)) _ _ _ _) (fun g hg => by have hg : w.heap.size + 1 + 1 ≤ g := hg; omega)).base (fun g hg => by have hg : w.heap.size + 1 + 1 ≤ g := hg; show w.heap.size ≤ g; omega), by rw [HNO.out.1]; exact tow_stk (w0 := w) S6.out HBW.out (Nat.le_succ _), tow_lxk ((Lx.of_low HLW.out).trans L6.out) (Nat.le_succ _), fun y m h => absurd h (HNO.out.2 y m)⟩
end
end Go.Proofs.YtflpidnkppljlaaDoor
