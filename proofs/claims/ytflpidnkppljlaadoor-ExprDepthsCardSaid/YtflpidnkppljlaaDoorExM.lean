/- Expressions in memory: twelve cells each, their kids and names in rows of their own; what a reading may leave of memory: the reader's box turned, new blocks, nothing else. No condition. The reader's small functions: which word is next, over a word, a fault kept. Condition: the words are no more than 70000. The reader's small functions: over a word that must be one, a fault kept, the text of a word. Condition: the words are no more than 70000. -/
import Derived.Test.YtflpidnkppljlaaDoorNms
import Derived.Test.YtflpidnkppljlaaDoorExP
import Derived.BigQuiet
import Derived.Handy
import Derived.Lib.Hide
import Derived.BigRegion
set_option linter.unusedVariables false
set_option linter.unnecessarySimpa false
set_option linter.unusedSimpArgs false
namespace Go.Proofs.YtflpidnkppljlaaDoor
open Go.RowKit
def Ex.op : Ex → Int | .mk op _ _ _ _ => op
def Ex.v : Ex → Li | .mk _ v _ _ _ => v
def Ex.nm : Ex → List UInt8 | .mk _ _ nm _ _ => nm
def Ex.ks : Ex → List Ex | .mk _ _ _ ks _ => ks
def Ex.ns : Ex → List (List UInt8) | .mk _ _ _ _ ns => ns
theorem Ex.eta : ∀ x : Ex, x = .mk x.op x.v x.nm x.ks x.ns | .mk _ _ _ _ _ => rfl
def ex0 : Ex := .mk 0 li0 [] [] []
/-- Where an expression's kids and names lie. -/
structure Pl where
  ka : Option Addr
  kc : Nat
  na : Option Addr
  nc : Nat
def pl0 : Pl := ⟨none, 0, none, 0⟩
/-- An expression's twelve cells. -/
def excs (x : Ex) (p : Pl) : List Value :=
  [.int .i64 x.op, .int .i64 x.v.k, .bool x.v.b, .int .i64 x.v.n, .string ⟨x.v.s.toArray⟩, .string ⟨x.v.t.toArray⟩, .string ⟨x.v.i.toArray⟩, .slice none 0 0, .slice none 0 0, .string ⟨x.nm.toArray⟩, .slice p.ka x.ks.length p.kc, .slice p.na x.ns.length p.nc]
def exv (x : Ex) (p : Pl) : Value :=
  .agg #[.int .i64 x.op, .int .i64 x.v.k, .bool x.v.b, .int .i64 x.v.n, .string ⟨x.v.s.toArray⟩, .string ⟨x.v.t.toArray⟩, .string ⟨x.v.i.toArray⟩, .slice none 0 0, .slice none 0 0, .string ⟨x.nm.toArray⟩, .slice p.ka x.ks.length p.kc, .slice p.na x.ns.length p.nc]
/-- Cells that lie in a row. -/
def CellsE (w : World) (g o : Nat) (cs : List Value) : Prop := ∀ j v, cs[j]? = some v → w.cell? ⟨g, o + j, none⟩ = some v
/-- A slice of texts, in blocks that may be. -/
def NamE (A : Nat → Prop) (w : World) (ns : List (List UInt8)) (na : Option Addr) (nc : Nat) : Prop :=
  (ns.length ≤ nc ∧ nc ≤ 9223372036854775807) ∧ (ns = [] ∨ ∃ g, na = some ⟨g, 0, none⟩ ∧ A g ∧ ∀ j (hj : j < ns.length), w.cell? ⟨g, j, none⟩ = some (.string ⟨ns[j].toArray⟩))
mutual
/-- An expression's kids and names lie in blocks that may be. -/
def XAt (A : Nat → Prop) (w : World) : Ex → Pl → Prop
  | .mk _ _ _ ks ns, p => NamE A w ns p.na p.nc ∧ (ks.length ≤ p.kc ∧ p.kc ≤ 9223372036854775807) ∧ (ks = [] ∨ ∃ g, p.ka = some ⟨g, 0, none⟩ ∧ A g ∧ XRow A w g 0 ks)
/-- Expressions that lie in a row. -/
def XRow (A : Nat → Prop) (w : World) (g : Nat) : Nat → List Ex → Prop
  | _, [] => True
  | o, x :: r => (∃ p, CellsE w g o (excs x p) ∧ XAt A w x p) ∧ XRow A w g (o + 12) r
end
theorem xAt_v {A : Nat → Prop} {w : World} {x : Ex} {p : Pl} : XAt A w x p ↔ NamE A w x.ns p.na p.nc ∧ (x.ks.length ≤ p.kc ∧ p.kc ≤ 9223372036854775807) ∧ (x.ks = [] ∨ ∃ g, p.ka = some ⟨g, 0, none⟩ ∧ A g ∧ XRow A w g 0 x.ks) := by
  cases x; rw [XAt]; rfl
theorem xRow_at {A : Nat → Prop} {w : World} {g : Nat} : ∀ {l : List Ex} {o : Nat}, XRow A w g o l → ∀ j (hj : j < l.length), ∃ p, CellsE w g (o + j * 12) (excs l[j] p) ∧ XAt A w l[j] p
  | [], _, _, j, hj => absurd hj (Nat.not_lt_zero _)
  | x :: l, o, h, 0, _ => by rw [XRow] at h; simpa using h.1
  | x :: l, o, h, j + 1, hj => by
    rw [XRow] at h
    obtain ⟨p, hc, hr⟩ := xRow_at h.2 j (by simpa using hj)
    exact ⟨p, by rwa [show o + (j + 1) * 12 = o + 12 + j * 12 by omega], hr⟩
theorem xRow_of {A : Nat → Prop} {w : World} {g : Nat} : ∀ {l : List Ex} {o : Nat}, (∀ j (hj : j < l.length), ∃ p, CellsE w g (o + j * 12) (excs l[j] p) ∧ XAt A w l[j] p) → XRow A w g o l
  | [], _, _ => by rw [XRow]; trivial
  | x :: l, o, h => by
    rw [XRow]
    refine ⟨by have h0 := h 0 (by simp); rwa [Nat.zero_mul, Nat.add_zero] at h0, xRow_of fun j hj => ?_⟩
    obtain ⟨p, hc, hr⟩ := h (j + 1) (by simpa using hj)
    exact ⟨p, by rwa [show o + 12 + j * 12 = o + (j + 1) * 12 by omega], hr⟩
theorem cell_toE {w w' : World} {b o : Nat} {v : Value} (h : w.cell? ⟨b, o, none⟩ = some v) (hb : b < w.heap.size → w'.heap[b]? = w.heap[b]?) : w'.cell? ⟨b, o, none⟩ = some v := by
  have := World.cell?_of_block (w := w) (w' := w') (a := ⟨b, o, none⟩) (hb (cell_lt h))
  rw [this]; exact h
theorem NamE.to {A A' : Nat → Prop} {w w' : World} (h : ∀ b, A b → b < w.heap.size → A' b ∧ w'.heap[b]? = w.heap[b]?) {ns : List (List UInt8)} {na : Option Addr} {nc : Nat} (hn : NamE A w ns na nc) : NamE A' w' ns na nc := by
  obtain ⟨hl, hn⟩ := hn
  refine ⟨hl, ?_⟩
  rcases hn with h0 | ⟨g, rfl, ha, hc⟩
  · exact .inl h0
  · cases ns with
    | nil => exact .inl rfl
    | cons x ns =>
      have hb := cell_lt (hc 0 (by simp))
      exact .inr ⟨g, rfl, (h g ha hb).1, fun j hj => cell_toE (hc j hj) fun k => (h g ha k).2⟩
mutual
theorem XAt.to {A A' : Nat → Prop} {w w' : World} (h : ∀ b, A b → b < w.heap.size → A' b ∧ w'.heap[b]? = w.heap[b]?) : ∀ (x : Ex) {p : Pl}, XAt A w x p → XAt A' w' x p
  | .mk op v nm ks ns, p, hr => by
    rw [XAt] at hr ⊢
    obtain ⟨hn, hl, hr⟩ := hr
    refine ⟨hn.to h, hl, ?_⟩
    rcases hr with h0 | ⟨g, hg, ha, hf⟩
    · exact .inl h0
    · cases hl0 : ks with
      | nil => exact .inl rfl
      | cons x l' =>
        have hx := hf
        rw [hl0, XRow] at hx
        obtain ⟨⟨p', hc, _⟩, _⟩ := hx
        have hlt := cell_lt (hc 0 _ rfl)
        rw [← hl0]
        exact .inr ⟨g, hg, (h g ha hlt).1, XRow.to h g (fun k => (h g ha k).2) ks hf⟩
theorem XRow.to {A A' : Nat → Prop} {w w' : World} (h : ∀ b, A b → b < w.heap.size → A' b ∧ w'.heap[b]? = w.heap[b]?) (g : Nat) (hb : g < w.heap.size → w'.heap[g]? = w.heap[g]?) : ∀ (l : List Ex) {o : Nat}, XRow A w g o l → XRow A' w' g o l
  | [], _, _ => by rw [XRow]; trivial
  | x :: l, o, hf => by
    rw [XRow] at hf ⊢
    obtain ⟨⟨p, hc, hr⟩, hf⟩ := hf
    exact ⟨⟨p, fun j v hv => cell_toE (hc j v hv) hb, XAt.to h x hr⟩, XRow.to h g hb l hf⟩
end
/-- Blocks from some number on. -/
abbrev Nw (B : Nat) : Nat → Prop := fun g => B ≤ g
theorem XAt.low {A : Nat → Prop} {w w' : World} {x : Ex} {p : Pl} (hr : XAt A w x p) (h : Low w w') : XAt A w' x p := XAt.to (fun b ha hb => ⟨ha, h.2.2.2 b hb⟩) x hr
theorem XAt.base {A A' : Nat → Prop} {w : World} {x : Ex} {p : Pl} (hr : XAt A w x p) (h : ∀ g, A g → A' g) : XAt A' w x p := XAt.to (fun b ha _ => ⟨h b ha, rfl⟩) x hr
theorem xAt_leaf (A : Nat → Prop) (w : World) (op : Int) (v : Li) (nm : List UInt8) : XAt A w (.mk op v nm [] []) pl0 := xAt_v.2 ⟨⟨⟨Nat.le_refl _, by decide⟩, .inl rfl⟩, ⟨Nat.le_refl _, by decide⟩, .inl rfl⟩
/-- All blocks but b are as they were, and the streams. -/
structure Lx (b : Nat) (w w' : World) : Prop where
  os : w'.os = w.os
  out : w'.output = w.output
  size : w.heap.size ≤ w'.heap.size
  block : ∀ k, k < w.heap.size → k ≠ b → w'.heap[k]? = w.heap[k]?
theorem Lx.of_low {b : Nat} {w w' : World} (h : Low w w') : Lx b w w' := ⟨h.1, h.2.1, h.2.2.1, fun k hk _ => h.2.2.2 k hk⟩
theorem Lx.refl (b : Nat) (w : World) : Lx b w w := Lx.of_low (Low.refl w)
theorem Lx.trans {b : Nat} {w1 w2 w3 : World} (h : Lx b w1 w2) (k : Lx b w2 w3) : Lx b w1 w3 :=
  ⟨k.os.trans h.os, k.out.trans h.out, Nat.le_trans h.size k.size, fun i hi hn => (k.block i (Nat.lt_of_lt_of_le hi h.size) hn).trans (h.block i hi hn)⟩
theorem Lx.low' {b : Nat} {w1 w2 w3 : World} (h : Lx b w1 w2) (k : Low w2 w3) : Lx b w1 w3 := h.trans (Lx.of_low k)
theorem Lx.alloc {b : Nat} {w1 w2 : World} (h : Lx b w1 w2) (o : Obj) : Lx b w1 (w2.alloc o) := h.low' (low_new (Low.refl _) o)
theorem Lx.drewN {b : Nat} {w1 w2 : World} (h : Lx b w1 w2) (n : Nat) : Lx b w1 (w2.drewN n) := h.low' (Low.drewN _ n)
theorem Lx.drew {b : Nat} {w1 w2 : World} (h : Lx b w1 w2) : Lx b w1 w2.drew := h.low' (Low.of_drew ⟨1, rfl⟩)
theorem lx_set (b o : Nat) (v : Value) (w : World) : Lx b w (w.setCell ⟨b, o, none⟩ v) := by
  exact ⟨rfl, rfl, by simp [World.setCell], fun k _ hk => Below.heap_setCell _ _ _ _ hk⟩
theorem Lx.set {b : Nat} {w1 w2 : World} (h : Lx b w1 w2) (o : Nat) (v : Value) : Lx b w1 (w2.setCell ⟨b, o, none⟩ v) := h.trans (lx_set b o v w2)
theorem Lx.setN {b : Nat} {w1 w2 : World} (h : Lx b w1 w2) (k o : Nat) (v : Value) (hk : w1.heap.size ≤ k) : Lx b w1 (w2.setCell ⟨k, o, none⟩ v) :=
  ⟨h.os, h.out, by have := h.size; simpa [World.setCell] using this, fun i hi hn => by rw [Below.heap_setCell _ _ _ _ (by show i ≠ k; omega)]; exact h.block i hi hn⟩
/-- Where the reader's box is new, nothing that was there is turned. -/
theorem Lx.to_low {b : Nat} {w0 w1 w2 : World} (h : Low w0 w1) (k : Lx b w1 w2) (hb : w0.heap.size ≤ b) : Low w0 w2 :=
  ⟨k.os.trans h.1, k.out.trans h.2.1, Nat.le_trans h.2.2.1 k.size, fun i hi => (k.block i (Nat.lt_of_lt_of_le hi h.2.2.1) (by omega)).trans (h.2.2.2 i hi)⟩
theorem XAt.lx {b : Nat} {A : Nat → Prop} {w w' : World} {x : Ex} {p : Pl} (hr : XAt A w x p) (h : Lx b w w') (hA : ∀ g, A g → g ≠ b) : XAt A w' x p := XAt.to (fun k ha hb => ⟨ha, h.block k hb (hA k ha)⟩) x hr
/-- .. where it lies behind the box. -/
theorem XAt.lxN {b B : Nat} {w w' : World} {x : Ex} {p : Pl} (hr : XAt (Nw B) w x p) (h : Lx b w w') (hB : b < B) : XAt (Nw B) w' x p := hr.lx h (fun _ hg => by have : B ≤ _ := hg; omega)
theorem XAt.lower {B B' : Nat} {w : World} {x : Ex} {p : Pl} (hr : XAt (Nw B) w x p) (h : B' ≤ B) : XAt (Nw B') w x p := hr.base (fun g hg => Nat.le_trans h hg)
/-! ### The reader -/
/-- The words lie in a row ahead of the box. -/
def WsAt (b : Nat) (ao : Option Addr) (l : List Wd) (w : World) : Prop := l = [] ∨ ∃ g, ao = some ⟨g, 0, none⟩ ∧ g < b ∧ ∀ j (hj : j < l.length), CellsE w g (j * 4) (encW l[j])
theorem WsAt.lx {b : Nat} {ao : Option Addr} {l : List Wd} {w w' : World} (h : WsAt b ao l w) (k : Lx b w w') : WsAt b ao l w' := by
  rcases h with h | ⟨g, rfl, hg, hc⟩
  · exact .inl h
  · exact .inr ⟨g, rfl, hg, fun j hj i v hv => cell_toE (hc j hj i v hv) fun hl => k.block g hl (by omega)⟩
/-- The reader's five cells. -/
structure RSt (b : Nat) (ao : Option Addr) (cap : Nat) (l : List Wd) (a d e p : Int) (w : World) : Prop where
  c0 : w.cell? ⟨b, 0, none⟩ = some (.slice ao l.length cap)
  c1 : w.cell? ⟨b, 1, none⟩ = some (.int .i64 a)
  c2 : w.cell? ⟨b, 2, none⟩ = some (.int .i64 d)
  c3 : w.cell? ⟨b, 3, none⟩ = some (.int .i64 e)
  c4 : w.cell? ⟨b, 4, none⟩ = some (.int .i64 p)
  fz : ∀ o, w.frozen? ⟨b, o, none⟩ = false
  ws : WsAt b ao l w
section
variable {b : Nat} {ao : Option Addr} {cap : Nat} {l : List Wd}
theorem RSt.low {a d e p : Int} {w w' : World} (h : RSt b ao cap l a d e p w) (k : Low w w') : RSt b ao cap l a d e p w' :=
  ⟨k.keep h.c0, k.keep h.c1, k.keep h.c2, k.keep h.c3, k.keep h.c4, fun o => (k.frozen (p := ⟨b, o, none⟩) (show b < w.heap.size from cell_lt h.c0)).trans (h.fz o), h.ws.lx (Lx.of_low k)⟩
theorem setC_same {w : World} {o : Nat} {u v : Value} (h : w.cell? ⟨b, o, none⟩ = some u) : (w.setCell ⟨b, o, none⟩ v).cell? ⟨b, o, none⟩ = some v := by
  exact World.cell?_setCell_same' w _ _ (by rw [h]; rfl)
theorem setC_other {w : World} {o k : Nat} {u v : Value} (h : w.cell? ⟨b, o, none⟩ = some u) (hk : k ≠ o) : (w.setCell ⟨b, k, none⟩ v).cell? ⟨b, o, none⟩ = some u := by
  rw [World.cell?_setCell_other]
  · exact h
  · intro e; exact hk (by simpa using e)
end
end Go.Proofs.YtflpidnkppljlaaDoor
namespace Go.Proofs.YtflpidnkppljlaaDoor
open Go.RowKit
/-- Where the reader stands: at a word, or in a fault. -/
def St (b : Nat) (ao : Option Addr) (cap : Nat) (l : List Wd) (d : Int) (s : Rd Unit) (w : World) : Prop :=
  match s with
  | .ok _ a => (∃ p, RSt b ao cap l a d 0 p w) ∧ -9223372036854775808 ≤ a ∧ a ≤ 9223372036854775807
  | .bad e p => e ≠ 0 ∧ ∃ a, RSt b ao cap l a d e p w
def Rd.unit {α : Type} : Rd α → Rd Unit
  | .bad e p => .bad e p
  | .ok _ n => .ok () n
section
variable {b : Nat} {ao : Option Addr} {cap : Nat} {l : List Wd}
theorem St.low {d : Int} {s : Rd Unit} {w w' : World} (h : St b ao cap l d s w) (k : Low w w') : St b ao cap l d s w' := by
  cases s with
  | ok u a => obtain ⟨⟨p, h⟩, h2⟩ := h; exact ⟨⟨p, h.low k⟩, h2⟩
  | bad e p => obtain ⟨h0, a, h⟩ := h; exact ⟨h0, a, h.low k⟩
/-- The word that is next, or one behind it. -/
def wdK (l : List Wd) (s : Rd Unit) (k : Nat) : Wd :=
  match s with
  | .ok _ a => if 0 ≤ a then wdA l (a + (k : Int)) else wdA l (-1)
  | .bad _ _ => wdA l (-1)
theorem wdA_neg {a : Int} (h : a < 0) : wdA l a = wdA l (-1) := by
  unfold wdA; rw [if_neg (by omega), if_neg (by omega)]
theorem wdK_zero (a : Int) : wdK l (.ok () a) 0 = wdA l a := by
  unfold wdK
  by_cases h : 0 ≤ a
  · simp [h]
  · simp only [if_neg h]; exact (wdA_neg (by omega)).symm
theorem wdA_end {a : Int} (h : ¬ (0 ≤ a ∧ a < (l.length : Int))) : wdA l a = ⟨0, [], 0, (wdA l (-1)).a⟩ := by
  unfold wdA; rw [if_neg h, if_neg (by omega)]
theorem wdA_nil (a : Int) (h : l.length = 0) : wdA l a = ⟨0, [], 0, 0⟩ := by
  have : l = [] := List.eq_nil_of_length_eq_zero h
  subst this
  unfold wdA; rw [if_neg (by rw [List.length_nil]; omega)]; rfl
theorem wdA_at {n : Nat} (h : n < l.length) : wdA l (n : Int) = l[n] := by
  unfold wdA
  rw [if_pos ⟨by omega, by omega⟩]
  simp [h]
theorem wdA_last (h : 0 < l.length) : (wdA l (-1)).a = l[l.length - 1].a := by
  unfold wdA
  rw [if_neg (by omega)]
  simp [List.getLast?_eq_getElem?, List.getElem?_eq_getElem (show l.length - 1 < l.length by omega)]
def wv (x : Wd) : Value := .agg #[.int .i64 x.k, .string ⟨x.t.toArray⟩, .int .i64 x.n, .int .i64 (x.a : Int)]
/-- A word's cells in the row. -/
theorem ws_cells {g n : Nat} {w : World} (h : ∀ j (hj : j < l.length), CellsE w g (j * 4) (encW l[j])) (hn : n < l.length) :
    w.cell? ⟨g, n * 4, none⟩ = some (.int .i64 l[n].k) ∧ w.cell? ⟨g, n * 4 + 1, none⟩ = some (.string ⟨l[n].t.toArray⟩) ∧ w.cell? ⟨g, n * 4 + 2, none⟩ = some (.int .i64 l[n].n) ∧ w.cell? ⟨g, n * 4 + 3, none⟩ = some (.int .i64 (l[n].a : Int)) :=
  ⟨h n hn 0 _ rfl, h n hn 1 _ rfl, h n hn 2 _ rfl, h n hn 3 _ rfl⟩
/-- The box's cells, behind a new block too. -/
theorem RSt.cells {a d e p : Int} {w : World} (h : RSt b ao cap l a d e p w) :
    (w.cell? ⟨b, 0, none⟩ = some (.slice ao l.length cap) ∧ w.cell? ⟨b, 1, none⟩ = some (.int .i64 a) ∧ w.cell? ⟨b, 2, none⟩ = some (.int .i64 d) ∧ w.cell? ⟨b, 3, none⟩ = some (.int .i64 e) ∧ w.cell? ⟨b, 4, none⟩ = some (.int .i64 p)) := ⟨h.c0, h.c1, h.c2, h.c3, h.c4⟩
theorem RSt.new {a d e p : Int} {w : World} (h : RSt b ao cap l a d e p w) (X : Obj) : RSt b ao cap l a d e p (w.alloc X) := h.low (low_new (Low.refl w) X)
theorem RSt.cellsX {a d e p : Int} {w : World} (h : RSt b ao cap l a d e p w) :
    (∀ X, (w.alloc X).cell? ⟨b, 0, none⟩ = some (.slice ao l.length cap)) ∧ (∀ X, (w.alloc X).cell? ⟨b, 1, none⟩ = some (.int .i64 a)) ∧ (∀ X, (w.alloc X).cell? ⟨b, 2, none⟩ = some (.int .i64 d)) ∧ (∀ X, (w.alloc X).cell? ⟨b, 3, none⟩ = some (.int .i64 e)) ∧ (∀ X, (w.alloc X).cell? ⟨b, 4, none⟩ = some (.int .i64 p)) :=
  ⟨fun X => (h.new X).c0, fun X => (h.new X).c1, fun X => (h.new X).c2, fun X => (h.new X).c3, fun X => (h.new X).c4⟩
theorem RSt.wsAt {a d e p : Int} {w : World} (h : RSt b ao cap l a d e p w) {n : Nat} (hn : n < l.length) : ∃ g, ao = some ⟨g, 0, none⟩ ∧ g < b ∧
    (∀ X, (w.alloc X).cell? ⟨g, n * 4, none⟩ = some (.int .i64 l[n].k)) ∧ (∀ X, (w.alloc X).cell? ⟨g, n * 4 + 1, none⟩ = some (.string ⟨l[n].t.toArray⟩)) ∧ (∀ X, (w.alloc X).cell? ⟨g, n * 4 + 2, none⟩ = some (.int .i64 l[n].n)) ∧ (∀ X, (w.alloc X).cell? ⟨g, n * 4 + 3, none⟩ = some (.int .i64 (l[n].a : Int))) := by
  rcases h.ws with rfl | ⟨g, rfl, hg, hc⟩
  · simp at hn
  · have k := fun X => ws_cells (w := w.alloc X) (fun j hj i v hv => (low_new (Low.refl w) X).keep (hc j hj i v hv)) hn
    exact ⟨g, rfl, hg, fun X => (k X).1, fun X => (k X).2.1, fun X => (k X).2.2.1, fun X => (k X).2.2.2⟩
set_option maxHeartbeats 800000 in
/-- The next word, where there is none. -/
theorem word_end (k : Nat) (hk : k ≤ 1) (hl : l.length ≤ 70000) {a d e p : Int} (w : World) (h : RSt b ao cap l a d e p w) (hn : e ≠ 0 ∨ (e = 0 ∧ a < 0) ∨ (e = 0 ∧ 0 ≤ a ∧ (l.length : Int) - k ≤ a)) :
    Calls Tryd.prog 42 #[.pointer (some ⟨b, 0, none⟩), .int .i64 (k : Int)] w fun e w' => e = .returned (wv (wdA l (-1))) ∧ Low w w' := by
  have zk : (k : Int) ≤ 1 := by omega
  obtain ⟨r0, r1, -, r3, -⟩ := h.cellsX
  by_cases h0 : l.length = 0
  · have e0 := wdA_nil (-1) h0
    rw [e0]
    rw [h0] at r0 hn
    clear e0 h0 hl h
    rcases hn with hn | ⟨rfl, hn⟩ | ⟨rfl, hn, hn2⟩
    · have z1 : (e == 0) = false := by simpa using hn
      clear hn
      go_enter Tryd.func42, Tryd.ntmps42
      go_wp2_with fail
      go_returns
      exact ⟨rfl, low_new (Low.refl _) _⟩
    · have z1 : decide (0 ≤ a) = false := decide_eq_false (by omega)
      go_enter Tryd.func42, Tryd.ntmps42
      go_wp2_with fail
      go_returns
      exact ⟨rfl, low_new (Low.refl _) _⟩
    · have z1 : decide (a < (0 : Int) - (k : Int)) = false := decide_eq_false (by simpa using hn2)
      go_enter Tryd.func42, Tryd.ntmps42
      go_wp2_with fail
      go_returns
      exact ⟨rfl, low_new (Low.refl _) _⟩
  · obtain ⟨n, hn1⟩ : ∃ n, l.length = n + 1 := ⟨l.length - 1, by omega⟩
    obtain ⟨g, rfl, hg, -, -, -, w3⟩ := h.wsAt (n := n) (by omega)
    have hla := wdA_last (l := l) (by omega)
    have e0 : wdA l (-1) = ⟨0, [], 0, (wdA l (-1)).a⟩ := wdA_end (by omega)
    rw [show l[l.length - 1] = l[n] by congr 1; omega] at hla
    rw [e0, hla]
    rw [hn1] at r0 hn
    have zn : ((n + 1 : Nat) : Int) - 1 = (n : Int) := by omega
    have z0 : (0 : Int) < ((n + 1 : Nat) : Int) := by omega
    have zn2 : n < 70000 := by omega
    generalize l[n].a = q at *
    clear e0 h0 hl h hla
    rcases hn with hn | ⟨rfl, hn⟩ | ⟨rfl, hn, hn2⟩
    · have z1 : (e == 0) = false := by simpa using hn
      clear hn
      go_enter Tryd.func42, Tryd.ntmps42
      go_wp2_with fail
      go_returns
      exact ⟨rfl, low_new (Low.refl _) _⟩
    · have z1 : decide (0 ≤ a) = false := decide_eq_false (by omega)
      go_enter Tryd.func42, Tryd.ntmps42
      go_wp2_with fail
      go_returns
      exact ⟨rfl, low_new (Low.refl _) _⟩
    · have z1 : decide (a < ((n + 1 : Nat) : Int) - (k : Int)) = false := decide_eq_false (by omega)
      go_enter Tryd.func42, Tryd.ntmps42
      go_wp2_with fail
      go_returns
      exact ⟨rfl, low_new (Low.refl _) _⟩
set_option maxHeartbeats 800000 in
/-- The next word, or the one behind it. -/
theorem word_at (k : Nat) (hk : k ≤ 1) (hl : l.length ≤ 70000) {d p : Int} {n m : Nat} (hnm : n + k = m) (hn : m < l.length) (w : World) (h : RSt b ao cap l (n : Int) d 0 p w) :
    Calls Tryd.prog 42 #[.pointer (some ⟨b, 0, none⟩), .int .i64 (k : Int)] w fun e w' => e = .returned (wv l[m]) ∧ Low w w' := by
  obtain ⟨r0, r1, -, r3, -⟩ := h.cellsX
  obtain ⟨g, rfl, hg, w0, w1, w2, w3⟩ := h.wsAt hn
  have z1 : (n : Int) < (l.length : Int) - (k : Int) := by omega
  have z3 : (m : Int) < (l.length : Int) := by omega
  have z4 : (k : Int) ≤ 1 := by omega
  have z5 : (n : Int) + (k : Int) = (m : Int) := by omega
  unfold wv
  generalize l[m] = q at *
  clear h hnm hn
  go_enter Tryd.func42, Tryd.ntmps42
  go_wp2_with fail
  go_region
  all_goals
    go_wp2_with fail
    go_returns
    exact ⟨rfl, (low_new (Low.refl _) _).trans (Low.of_drew ⟨1, rfl⟩)⟩
theorem word_c (hl : l.length ≤ 70000) {d : Int} {s : Rd Unit} (w : World) (h : St b ao cap l d s w) :
    Calls Tryd.prog 42 #[.pointer (some ⟨b, 0, none⟩), .int .i64 0] w fun e w' => e = .returned (wv (wdK l s 0)) ∧ Low w w' := by
  cases s with
  | bad e p =>
    obtain ⟨h0, a, h⟩ := h
    exact word_end 0 (by decide) hl w h (.inl h0)
  | ok u a =>
    obtain ⟨⟨p, h⟩, h1, h2⟩ := h
    rw [wdK_zero]
    by_cases ha : a < 0
    · rw [wdA_neg ha]; exact word_end 0 (by decide) hl w h (.inr (.inl ⟨rfl, ha⟩))
    · obtain ⟨n, rfl⟩ : ∃ n : Nat, a = n := ⟨a.toNat, by omega⟩
      by_cases hn : n < l.length
      · rw [wdA_at hn]
        exact word_at 0 (by decide) hl (Nat.add_zero n) hn w h
      · have e0 := wdA_end (l := l) (a := (n : Int)) (by omega)
        have e1 := wdA_end (l := l) (a := (-1 : Int)) (by omega)
        rw [e0, ← e1]
        exact word_end 0 (by decide) hl w h (.inr (.inr ⟨rfl, by omega, by simp; omega⟩))
/-- The word behind the next one. -/
theorem word1_c (hl : l.length ≤ 70000) {d p : Int} {n : Nat} (hn : n < l.length) (w : World) (h : RSt b ao cap l (n : Int) d 0 p w) :
    Calls Tryd.prog 42 #[.pointer (some ⟨b, 0, none⟩), .int .i64 1] w fun e w' => e = .returned (wv (wdA l ((n : Int) + 1))) ∧ Low w w' := by
  by_cases hm : n + 1 < l.length
  · rw [show (n : Int) + 1 = ((n + 1 : Nat) : Int) by omega, wdA_at hm]
    exact word_at 1 (by decide) hl rfl hm w h
  · have e0 := wdA_end (l := l) (a := (n : Int) + 1) (by omega)
    have e1 := wdA_end (l := l) (a := (-1 : Int)) (by omega)
    rw [e0, ← e1]
    exact word_end 1 (by decide) hl w h (.inr (.inr ⟨rfl, by omega, by simp; omega⟩))
end
end Go.Proofs.YtflpidnkppljlaaDoor
namespace Go.Proofs.YtflpidnkppljlaaDoor
open Go.RowKit
section
variable {b : Nat} {ao : Option Addr} {cap : Nat} {l : List Wd}
theorem RSt.put1 {a d e p : Int} {w : World} (h : RSt b ao cap l a d e p w) (a' : Int) : RSt b ao cap l a' d e p (w.setCell ⟨b, 1, none⟩ (.int .i64 a')) :=
  ⟨setC_other h.c0 (by decide), setC_same h.c1, setC_other h.c2 (by decide), setC_other h.c3 (by decide), setC_other h.c4 (by decide), fun o => by rw [World.frozen?_setCell]; exact h.fz o, h.ws.lx (lx_set _ _ _ _)⟩
theorem RSt.put2 {a d e p : Int} {w : World} (h : RSt b ao cap l a d e p w) (d' : Int) : RSt b ao cap l a d' e p (w.setCell ⟨b, 2, none⟩ (.int .i64 d')) :=
  ⟨setC_other h.c0 (by decide), setC_other h.c1 (by decide), setC_same h.c2, setC_other h.c3 (by decide), setC_other h.c4 (by decide), fun o => by rw [World.frozen?_setCell]; exact h.fz o, h.ws.lx (lx_set _ _ _ _)⟩
theorem RSt.put3 {a d e p : Int} {w : World} (h : RSt b ao cap l a d e p w) (e' : Int) : RSt b ao cap l a d e' p (w.setCell ⟨b, 3, none⟩ (.int .i64 e')) :=
  ⟨setC_other h.c0 (by decide), setC_other h.c1 (by decide), setC_other h.c2 (by decide), setC_same h.c3, setC_other h.c4 (by decide), fun o => by rw [World.frozen?_setCell]; exact h.fz o, h.ws.lx (lx_set _ _ _ _)⟩
theorem RSt.put4 {a d e p : Int} {w : World} (h : RSt b ao cap l a d e p w) (p' : Int) : RSt b ao cap l a d e p' (w.setCell ⟨b, 4, none⟩ (.int .i64 p')) :=
  ⟨setC_other h.c0 (by decide), setC_other h.c1 (by decide), setC_other h.c2 (by decide), setC_other h.c3 (by decide), setC_same h.c4, fun o => by rw [World.frozen?_setCell]; exact h.fz o, h.ws.lx (lx_set _ _ _ _)⟩
def failS (s : Rd Unit) (e : Int) (x : Wd) : Rd Unit := s.then fun _ _ => .bad e x.a
set_option maxHeartbeats 800000 in
theorem fail_c {d : Int} {s : Rd Unit} (ev : Int) (hev : ev ≠ 0) (x : Wd) (w : World) (h : St b ao cap l d s w) :
    Calls Tryd.prog 44 #[.pointer (some ⟨b, 0, none⟩), .int .i64 ev, wv x] w fun e w' => e = .returned (.tuple #[]) ∧ St b ao cap l d (failS s ev x) w' ∧ Lx b w w' := by
  cases s with
  | bad e p =>
    obtain ⟨h0, a, h⟩ := h
    have H := Lib.hid h
    have H0 := Lib.hid h0
    obtain ⟨r0, r1, r2, r3, r4⟩ := h.cellsX
    have z1 : (e == 0) = false := by simpa using h0
    clear h h0
    unfold wv
    go_enter Tryd.func44, Tryd.ntmps44
    go_wp2_with fail
    go_returns
    exact ⟨rfl, ⟨H0.out, a, H.out.low (low_new (Low.refl _) _)⟩, Lx.of_low (low_new (Low.refl _) _)⟩
  | ok u a =>
    obtain ⟨⟨p, h⟩, h1, h2⟩ := h
    have H := Lib.hid h
    obtain ⟨r0, r1, r2, r3, r4⟩ := h.cellsX
    have f3 : ∀ X, (w.alloc X).frozen? ⟨b, 3, none⟩ = false := fun X => (h.new X).fz 3
    have f4 : ∀ X, (w.alloc X).frozen? ⟨b, 4, none⟩ = false := fun X => (h.new X).fz 4
    have hne : b ≠ w.heap.size := Nat.ne_of_lt (cell_lt h.c0)
    clear h
    unfold wv
    go_enter Tryd.func44, Tryd.ntmps44
    go_wp2_with fail
    go_region
    all_goals
      go_returns
      exact ⟨rfl, ⟨hev, a, ((((H.out.low (low_new (Low.refl _) _)).put3 _).put4 _).low (Low.of_drew ⟨1, rfl⟩))⟩, ((((Lx.of_low (low_new (Low.refl _) _)).set _ _).set _ _)).drew⟩
/-- Is the next word that one? -/
def tkB (l : List Wd) (s : Rd Unit) (k : Int) (t : List UInt8) : Bool := match s with | .ok _ a => isW l a k t | .bad _ _ => false
/-- .. then over it. -/
def tkS (l : List Wd) (s : Rd Unit) (k : Int) (t : List UInt8) : Rd Unit := match s with | .ok _ a => if isW l a k t = true then .ok () (a + 1) else s | .bad _ _ => s
theorem wdK_bad_k (e : Int) (p : Nat) (k : Nat) : (wdK l (.bad e p) k).k = 0 := by
  show (wdA l (-1)).k = 0
  rw [wdA_end (by omega)]
theorem tkB_wd {s : Rd Unit} {k : Int} (hk : k ≠ 0) {t : List UInt8} : tkB l s k t = ((wdK l s 0).k == k && (wdK l s 0).t == t) := by
  cases s with
  | ok u a => rw [wdK_zero]; rfl
  | bad e p =>
    rw [wdK_bad_k]
    show false = _
    have : ((0 : Int) == k) = false := by simpa using Ne.symm hk
    rw [this]; rfl
theorem tkS_no {s : Rd Unit} {k : Int} {t : List UInt8} (h : tkB l s k t = false) : tkS l s k t = s := by
  cases s with
  | ok u a =>
    have h' : isW l a k t = false := h
    unfold tkS
    simp [h']
  | bad e p => rfl
theorem tkS_yes {s : Rd Unit} {k : Int} {t : List UInt8} (hk : k ≠ 0) (h : tkB l s k t = true) : ∃ n : Nat, s = .ok () (n : Int) ∧ n < l.length ∧ tkS l s k t = .ok () ((n : Int) + 1) := by
  cases s with
  | ok u a =>
    have h' : isW l a k t = true := h
    have := isW_in h' hk
    obtain ⟨n, rfl⟩ : ∃ n : Nat, a = n := ⟨a.toNat, by omega⟩
    refine ⟨n, rfl, by omega, ?_⟩
    unfold tkS
    simp [h']
  | bad e p => cases h
theorem takes_put {d : Int} (hl : l.length ≤ 70000) {n : Nat} {p : Int} {w : World} (hn : n < l.length) (h : RSt b ao cap l (n : Int) d 0 p w) :
    St b ao cap l d (.ok () ((n : Int) + 1)) (w.setCell ⟨b, 1, none⟩ (.int .i64 ((n : Int) + 1))) := ⟨⟨p, h.put1 _⟩, by omega, by omega⟩
set_option maxHeartbeats 800000 in
theorem takes_c (hl : l.length ≤ 70000) {d : Int} {s : Rd Unit} (k : Int) (hk : k ≠ 0) (t : List UInt8) (w : World) (h : St b ao cap l d s w) :
    Calls Tryd.prog 47 #[.pointer (some ⟨b, 0, none⟩), .int .i64 k, .string ⟨t.toArray⟩] w fun e w' => e = .returned (.bool (tkB l s k t)) ∧ St b ao cap l d (tkS l s k t) w' ∧ Lx b w w' := by
  have H := Lib.hid h
  have HW := Lib.hid (word_c hl w h)
  have hB := tkB_wd (l := l) (s := s) hk (t := t)
  unfold wv at HW
  obtain ⟨x, hx⟩ : ∃ x, wdK l s 0 = x := ⟨_, rfl⟩
  rw [hx] at HW hB
  clear h hx
  by_cases h1 : x.k = k
  · by_cases h2 : x.t = t
    · have h3 : tkB l s k t = true := by rw [hB]; simp [h1, h2]
      obtain ⟨n, rfl, hn, h4⟩ := tkS_yes hk h3
      rw [h3, h4]
      rw [h1, h2] at HW
      obtain ⟨⟨p, h⟩, -, -⟩ := H.out
      clear h1 h2 h3 h4 hB H
      have zn : (n : Int) < 70000 := by omega
      go_enter Tryd.func47, Tryd.ntmps47
      go_wp2_with fail
      refine HW.out.mono ?_
      rintro e w1 ⟨rfl, l1⟩
      have HR := Lib.hid (h.low l1)
      obtain ⟨-, r1, -, -, -⟩ := HR.out.cellsX
      have f1 : ∀ X, (w1.alloc X).frozen? ⟨b, 1, none⟩ = false := fun X => (HR.out.new X).fz 1
      have L1 := Lib.hid l1
      clear l1 h HW
      go_wp2_with fail
      go_returns
      exact ⟨rfl, takes_put hl hn (HR.out.new _), ((Lx.of_low L1.out).alloc _).set _ _⟩
    · have h3 : tkB l s k t = false := by rw [hB]; simp [h2]
      have h4 := tkS_no h3
      rw [h3, h4]
      rw [h1] at HW
      have z1 : (x.t == t) = false := by simpa using h2
      clear h1 h3 h4 hB
      go_enter Tryd.func47, Tryd.ntmps47
      go_wp2_with fail
      refine HW.out.mono ?_
      rintro e w1 ⟨rfl, l1⟩
      have L1 := Lib.hid l1
      clear l1 HW
      go_wp2_with fail
      go_returns
      exact ⟨rfl, (H.out.low L1.out).low (low_new (Low.refl _) _), (Lx.of_low L1.out).alloc _⟩
  · have h3 : tkB l s k t = false := by rw [hB]; simp [h1]
    have h4 := tkS_no h3
    rw [h3, h4]
    have z1 : (x.k != k) = true := by simpa using h1
    clear h1 h3 h4 hB
    go_enter Tryd.func47, Tryd.ntmps47
    go_wp2_with fail
    refine HW.out.mono ?_
    rintro e w1 ⟨rfl, l1⟩
    have L1 := Lib.hid l1
    clear l1 HW
    go_wp2_with fail
    go_returns
    exact ⟨rfl, (H.out.low L1.out).low (low_new (Low.refl _) _), (Lx.of_low L1.out).alloc _⟩
/-- Over a word that must be that one. -/
def mustS (l : List Wd) (s : Rd Unit) (k : Int) (t : List UInt8) : Rd Unit := s.then fun _ a => mustW l k t a
theorem mustS_yes {s : Rd Unit} {k : Int} {t : List UInt8} (h : tkB l s k t = true) : tkS l s k t = mustS l s k t := by
  cases s with
  | ok u a =>
    have h' : isW l a k t = true := h
    simp [tkS, mustS, Rd.then, mustW, h']
  | bad e p => rfl
theorem mustS_no {s : Rd Unit} {k : Int} {t : List UInt8} (h : tkB l s k t = false) : failS (tkS l s k t) 10 (wdK l (tkS l s k t) 0) = mustS l s k t := by
  rw [tkS_no h]
  cases s with
  | ok u a =>
    have h' : isW l a k t = false := h
    rw [wdK_zero]
    simp [mustS, Rd.then, mustW, h', failS, badF]
  | bad e p => rfl
theorem must_c (hl : l.length ≤ 70000) {d : Int} {s : Rd Unit} (k : Int) (hk : k ≠ 0) (t : List UInt8) (w : World) (h : St b ao cap l d s w) :
    Calls Tryd.prog 31 #[.pointer (some ⟨b, 0, none⟩), .int .i64 k, .string ⟨t.toArray⟩] w fun e w' => e = .returned (.tuple #[]) ∧ St b ao cap l d (mustS l s k t) w' ∧ Lx b w w' := by
  have HT := Lib.hid (takes_c hl k hk t w h)
  clear h
  obtain ⟨q, hq⟩ : ∃ q, tkB l s k t = q := ⟨_, rfl⟩
  rw [hq] at HT
  cases q with
  | true =>
    have E := Lib.hid (mustS_yes hq)
    clear hq
    go_enter Tryd.func31, Tryd.ntmps31
    go_wp2_with fail
    refine HT.out.mono ?_
    rintro e w1 ⟨rfl, s1, l1⟩
    have S1 := Lib.hid s1
    have L1 := Lib.hid l1
    clear s1 l1 HT
    go_wp2_with fail
    go_returns
    exact ⟨rfl, by rw [← E.out]; exact S1.out, L1.out⟩
  | false =>
    have E := Lib.hid (mustS_no hq)
    clear hq
    go_enter Tryd.func31, Tryd.ntmps31
    go_wp2_with fail
    refine HT.out.mono ?_
    rintro e w1 ⟨rfl, s1, l1⟩
    have S1 := Lib.hid s1
    have L1 := Lib.hid l1
    clear s1 l1 HT
    go_wp2_with fail
    refine (word_c hl w1 S1.out).mono ?_
    rintro e w2 ⟨rfl, l2⟩
    have S2 := Lib.hid (S1.out.low l2)
    have L2 := Lib.hid (L1.out.low' l2)
    clear l2
    go_wp2_with fail
    refine (fail_c 10 (by decide) _ w2 S2.out).mono ?_
    rintro e w3 ⟨rfl, s3, l3⟩
    have S3 := Lib.hid s3
    have L3 := Lib.hid l3
    clear s3 l3
    go_wp2_with fail
    go_returns
    exact ⟨rfl, by rw [← E.out]; exact S3.out, L2.out.trans L3.out⟩
/-- What a rule leaves, and that what it told is that. -/
def Out (b : Nat) (ao : Option Addr) (cap : Nat) (l : List Wd) {α : Type} (d : Int) (r : Rd α) (x : α) (w : World) : Prop := St b ao cap l d r.unit w ∧ ∀ y n, r = .ok y n → x = y
/-- A text that was told; none, where it was not. -/
def Rd.getL : Rd (List UInt8) → List UInt8 | .ok x _ => x | .bad _ _ => []
theorem text_c (hl : l.length ≤ 70000) {d : Int} {s : Rd Unit} (k : Int) (hk : k ≠ 0) (w : World) (h : St b ao cap l d s w) :
    Calls Tryd.prog 32 #[.pointer (some ⟨b, 0, none⟩), .int .i64 k] w fun e w' => e = .returned (.string ⟨(s.then fun _ a => textW l k a).getL.toArray⟩) ∧ St b ao cap l d (s.then fun _ a => textW l k a).unit w' ∧ Lx b w w' := by
  have H := Lib.hid h
  have HW := Lib.hid (word_c hl w h)
  unfold wv at HW
  obtain ⟨x, hx⟩ : ∃ x, wdK l s 0 = x := ⟨_, rfl⟩
  rw [hx] at HW
  clear h
  by_cases h1 : x.k = k
  · obtain ⟨n, rfl, hn, h4⟩ : ∃ n : Nat, s = .ok () (n : Int) ∧ n < l.length ∧ (s.then fun _ a => textW l k a) = .ok x.t ((n : Int) + 1) := by
      cases s with
      | bad e p => rw [← hx, wdK_bad_k] at h1; exact absurd h1.symm hk
      | ok u a =>
        rw [wdK_zero] at hx
        have := wd_in (l := l) (a := a) (by rw [hx, h1]; exact hk)
        obtain ⟨n, rfl⟩ : ∃ n : Nat, a = n := ⟨a.toNat, by omega⟩
        refine ⟨n, rfl, by omega, ?_⟩
        simp only [Rd.then]
        unfold textW
        rw [hx, if_pos h1]
    rw [h4]
    rw [h1] at HW
    obtain ⟨⟨p, h⟩, -, -⟩ := H.out
    clear h1 h4 H hx
    have zn : (n : Int) < 70000 := by omega
    go_enter Tryd.func32, Tryd.ntmps32
    go_wp2_with fail
    refine HW.out.mono ?_
    rintro e w1 ⟨rfl, l1⟩
    have HR := Lib.hid (h.low l1)
    obtain ⟨-, r1, -, -, -⟩ := HR.out.cellsX
    have f1 : ∀ X, (w1.alloc X).frozen? ⟨b, 1, none⟩ = false := fun X => (HR.out.new X).fz 1
    have hne : b ≠ w1.heap.size := Nat.ne_of_lt (cell_lt HR.out.c0)
    have L1 := Lib.hid l1
    clear l1 h HW
    go_wp2_with fail
    go_returns
    exact ⟨rfl, takes_put hl hn (HR.out.new _), ((Lx.of_low L1.out).alloc _).set _ _⟩
  · have h4 : failS s 10 x = (s.then fun _ a => textW l k a).unit ∧ (s.then fun _ a => textW l k a).getL = [] := by
      cases s with
      | bad e p => exact ⟨rfl, rfl⟩
      | ok u a =>
        rw [wdK_zero] at hx
        simp only [Rd.then, failS]
        unfold textW
        rw [hx, if_neg h1]
        exact ⟨by rw [← hx]; rfl, rfl⟩
    have E := Lib.hid h4
    have z1 : (x.k != k) = true := by simpa using h1
    clear h1 h4
    go_enter Tryd.func32, Tryd.ntmps32
    go_wp2_with fail
    refine HW.out.mono ?_
    rintro e w1 ⟨rfl, l1⟩
    have L1 := Lib.hid l1
    have FC := Lib.hid fun X => fail_c 10 (by decide) x _ ((H.out.low l1).low (low_new (Low.refl w1) X))
    unfold wv at FC
    clear l1 HW
    go_wp2_with fail
    refine (FC.out _).mono ?_
    rintro e w3 ⟨rfl, s3, l3⟩
    have S3 := Lib.hid s3
    have L3 := Lib.hid l3
    clear s3 l3
    go_wp2_with fail
    go_returns
    exact ⟨by rw [E.out.2]; rfl, by rw [← E.out.1]; exact S3.out, ((Lx.of_low L1.out).alloc _).trans L3.out⟩
end
end Go.Proofs.YtflpidnkppljlaaDoor
