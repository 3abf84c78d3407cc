/- What a call that only reads may leave of memory: draws, and blocks of its own behind what was there; how a value lies in memory. No condition. few and size answer: few's yes says that all rows are short and the depth is small. No condition. The order of rows of values, item by item. No condition. -/
import Derived.Test.YtmkillbanmbafaaGreatVals
import Derived.Shelf.SlSortCmp.QuietGrown
import Derived.Shelf.SlicesQ.Load
import Derived.Deep.LoopGhost
import Derived.Lib.Hide
namespace Go.Proofs.YtmkillbanmbafaaGreat
open Go.RowKit Go.Sort
/-- Draws, and new blocks; nothing else. -/
def Gr (w w' : World) : Prop := ∃ q os, w' = grow (w.drewN q) os
theorem Gr.refl (w : World) : Gr w w := ⟨0, #[], by rw [grow_empty]; rfl⟩
theorem Gr.trans {a b c : World} (h : Gr a b) (k : Gr b c) : Gr a c := by
  obtain ⟨q, os, rfl⟩ := h
  obtain ⟨q', os', rfl⟩ := k
  exact ⟨q + q', os ++ os', by show grow (grow ((a.drewN q).drewN q') os) os' = _; rw [grow_grow, World.drewN_drewN]⟩
theorem Gr.alloc {a b : World} (h : Gr a b) (o : Obj) : Gr a (b.alloc o) := h.trans ⟨0, #[o], by rw [alloc_eq_grow]; rfl⟩
theorem Gr.drewN {a b : World} (h : Gr a b) (n : Nat) : Gr a (b.drewN n) := h.trans ⟨n, #[], by rw [grow_empty]⟩
theorem Gr.drew {a b : World} (h : Gr a b) : Gr a b.drew := h.trans ⟨1, #[], by rw [grow_empty]; rfl⟩
theorem Gr.grow {a b : World} (h : Gr a b) (n : Nat) (os : Array Obj) : Gr a (Sort.grow (b.drewN n) os) := h.trans ⟨n, os, rfl⟩
theorem Gr.size {a b : World} (h : Gr a b) : a.heap.size ≤ b.heap.size := by
  obtain ⟨q, os, rfl⟩ := h
  rw [size_grow]; exact Nat.le_add_right _ _
theorem Gr.setCell {a b : World} (h : Gr a b) (k o : Nat) (v : Value) (hk : a.heap.size ≤ k) : Gr a (b.setCell ⟨k, o, none⟩ v) := by
  obtain ⟨q, os, rfl⟩ := h
  exact ⟨q, _, by rw [setCell_eq, mapBlock_grow_new _ _ _ _ (by exact hk)]⟩
theorem Gr.low {w w' : World} (h : Gr w w') : Low w w' := by
  obtain ⟨q, os, rfl⟩ := h
  exact ⟨rfl, rfl, by rw [size_grow]; exact Nat.le_add_right _ _, fun k hk => heap_grow_old _ _ hk⟩
theorem Gr.cell {w w' : World} (h : Gr w w') {p : Addr} {v : Value} (hc : w.cell? p = some v) : w'.cell? p = some v := h.low.keep hc
/-! ### How a value lies in memory -/
/-- A value's eight cells. -/
def hdc (h : Hd) (it nm : Value) : List Value := [.int .i64 h.k, .bool h.b, .int .i64 h.n, .string h.s, .string h.t, .string h.i, it, nm]
def av (h : Hd) (it nm : Value) : Value := .agg #[.int .i64 h.k, .bool h.b, .int .i64 h.n, .string h.s, .string h.t, .string h.i, it, nm]
def Bh (h : Hd) : Prop := h.s.size ≤ 9223372036854775807 ∧ h.t.size ≤ 9223372036854775807 ∧ h.i.size ≤ 9223372036854775807
/-- A slice of texts, in blocks that may be. -/
def NamesAt (A : Nat → Prop) (w : World) (ns : List ByteArray) (nm : Value) : Prop :=
  ∃ ao cap, nm = .slice ao ns.length cap ∧ ns.length ≤ 9223372036854775807 ∧ (∀ x ∈ ns, x.size ≤ 9223372036854775807) ∧
    (ns = [] ∨ ∃ b o, ao = some ⟨b, o, none⟩ ∧ A b ∧ ∀ j (hj : j < ns.length), w.cell? ⟨b, o + j, none⟩ = some (.string ns[j]))
/-- Cells that lie in a row. -/
def CellsAt (w : World) (b o : Nat) (cs : List Value) : Prop := ∀ j v, cs[j]? = some v → w.cell? ⟨b, o + j, none⟩ = some v
mutual
/-- A value's items and names, in blocks that may be. -/
def Rep (A : Nat → Prop) (w : World) : V → Value → Value → Prop
  | .mk h l ns, it, nm => Bh h ∧ NamesAt A w ns nm ∧ ∃ ao cap, it = .slice ao l.length cap ∧ (l.length ≤ cap ∧ cap ≤ 9223372036854775807) ∧ (l = [] ∨ ∃ b o, ao = some ⟨b, o, none⟩ ∧ A b ∧ RepF A w b o l)
/-- Values that lie in a row. -/
def RepF (A : Nat → Prop) (w : World) (b : Nat) : Nat → List V → Prop
  | _, [] => True
  | o, x :: l => (∃ it nm, CellsAt w b o (hdc x.h it nm) ∧ Rep A w x it nm) ∧ RepF A w b (o + 8) l
end
/-- A slice of values. -/
def RowAt (A : Nat → Prop) (w : World) (l : List V) (it : Value) : Prop :=
  ∃ ao cap, it = .slice ao l.length cap ∧ (l.length ≤ cap ∧ cap ≤ 9223372036854775807) ∧ (l = [] ∨ ∃ b o, ao = some ⟨b, o, none⟩ ∧ A b ∧ RepF A w b o l)
theorem rep_v {A : Nat → Prop} {w : World} {v : V} {it nm : Value} : Rep A w v it nm ↔ Bh v.h ∧ NamesAt A w v.ns nm ∧ RowAt A w v.l it := by
  cases v; rw [Rep]; rfl
theorem repF_at {A : Nat → Prop} {w : World} {b : Nat} : ∀ {l : List V} {o : Nat}, RepF A w b o l → ∀ j (hj : j < l.length), ∃ it nm, CellsAt w b (o + j * 8) (hdc l[j].h it nm) ∧ Rep A w l[j] it nm
  | [], _, _, j, hj => absurd hj (Nat.not_lt_zero _)
  | x :: l, o, h, 0, _ => by rw [RepF] at h; simpa using h.1
  | x :: l, o, h, j + 1, hj => by
    rw [RepF] at h
    obtain ⟨it, nm, hc, hr⟩ := repF_at h.2 j (by simpa using hj)
    exact ⟨it, nm, by rwa [show o + (j + 1) * 8 = o + 8 + j * 8 by omega], hr⟩
theorem repF_of {A : Nat → Prop} {w : World} {b : Nat} : ∀ {l : List V} {o : Nat}, (∀ j (hj : j < l.length), ∃ it nm, CellsAt w b (o + j * 8) (hdc l[j].h it nm) ∧ Rep A w l[j] it nm) → RepF A w b o l
  | [], _, _ => by rw [RepF]; trivial
  | x :: l, o, h => by
    rw [RepF]
    refine ⟨by have h0 := h 0 (by simp); rwa [Nat.zero_mul, Nat.add_zero] at h0, repF_of fun j hj => ?_⟩
    obtain ⟨it, nm, hc, hr⟩ := h (j + 1) (by simpa using hj)
    exact ⟨it, nm, by rwa [show o + 8 + j * 8 = o + (j + 1) * 8 by omega], hr⟩
theorem cell_to {w w' : World} {b o : Nat} {v : Value} (h : w.cell? ⟨b, o, none⟩ = some v) (hb : b < w.heap.size → w'.heap[b]? = w.heap[b]?) : w'.cell? ⟨b, o, none⟩ = some v := by
  have := World.cell?_of_block (w := w) (w' := w') (a := ⟨b, o, none⟩) (hb (cell_lt h))
  rw [this]; exact h
theorem NamesAt.to {A A' : Nat → Prop} {w w' : World} (h : ∀ b, A b → b < w.heap.size → A' b ∧ w'.heap[b]? = w.heap[b]?) {ns : List ByteArray} {nm : Value} (hn : NamesAt A w ns nm) : NamesAt A' w' ns nm := by
  obtain ⟨ao, cap, rfl, hl, hs, hn⟩ := hn
  refine ⟨ao, cap, rfl, hl, hs, ?_⟩
  rcases hn with h0 | ⟨b, o, rfl, ha, hc⟩
  · exact .inl h0
  · cases ns with
    | nil => exact .inl rfl
    | cons x ns =>
      have hb := cell_lt (hc 0 (by simp))
      exact .inr ⟨b, o, rfl, (h b ha hb).1, fun j hj => cell_to (hc j hj) fun k => (h b ha k).2⟩
mutual
theorem Rep.to {A A' : Nat → Prop} {w w' : World} (h : ∀ b, A b → b < w.heap.size → A' b ∧ w'.heap[b]? = w.heap[b]?) : ∀ (v : V) {it nm : Value}, Rep A w v it nm → Rep A' w' v it nm
  | .mk hd l ns, it, nm, hr => by
    rw [Rep] at hr ⊢
    obtain ⟨hb, hn, ao, cap, rfl, hl, hr⟩ := hr
    refine ⟨hb, hn.to h, ao, cap, rfl, hl, ?_⟩
    rcases hr with h0 | ⟨b, o, rfl, ha, hf⟩
    · exact .inl h0
    · cases hl0 : l with
      | nil => exact .inl rfl
      | cons x l' =>
        have hx := hf
        rw [hl0, RepF] at hx
        obtain ⟨⟨it, nm, hc, _⟩, _⟩ := hx
        have hlt := cell_lt (hc 0 _ rfl)
        rw [← hl0]
        exact .inr ⟨b, o, rfl, (h b ha hlt).1, RepF.to h b (fun k => (h b ha k).2) l hf⟩
theorem RepF.to {A A' : Nat → Prop} {w w' : World} (h : ∀ b, A b → b < w.heap.size → A' b ∧ w'.heap[b]? = w.heap[b]?) (b : Nat) (hb : b < w.heap.size → w'.heap[b]? = w.heap[b]?) : ∀ (l : List V) {o : Nat}, RepF A w b o l → RepF A' w' b o l
  | [], _, _ => by rw [RepF]; trivial
  | x :: l, o, hf => by
    rw [RepF] at hf ⊢
    obtain ⟨⟨it, nm, hc, hr⟩, hf⟩ := hf
    exact ⟨⟨it, nm, fun j v hv => cell_to (hc j v hv) hb, Rep.to h x hr⟩, RepF.to h b hb l hf⟩
end
theorem RowAt.to {A A' : Nat → Prop} {w w' : World} (h : ∀ b, A b → b < w.heap.size → A' b ∧ w'.heap[b]? = w.heap[b]?) {l : List V} {it : Value} (hr : RowAt A w l it) : RowAt A' w' l it := by
  have hx : Rep A w (.mk ⟨0, false, 0, ⟨#[]⟩, ⟨#[]⟩, ⟨#[]⟩⟩ l []) it (.slice none 0 0) := by
    rw [Rep]; exact ⟨⟨by decide, by decide, by decide⟩, ⟨none, 0, rfl, by simp, by simp, .inl rfl⟩, hr⟩
  have := Rep.to h _ hx
  rw [Rep] at this
  exact this.2.2
/-- What was there is read as it was. -/
theorem Rep.low {A : Nat → Prop} {w w' : World} {v : V} {it nm : Value} (hr : Rep A w v it nm) (h : Low w w') : Rep A w' v it nm := Rep.to (fun b ha hb => ⟨ha, h.2.2.2 b hb⟩) v hr
theorem RowAt.low {A : Nat → Prop} {w w' : World} {l : List V} {it : Value} (hr : RowAt A w l it) (h : Low w w') : RowAt A w' l it := RowAt.to (fun b ha hb => ⟨ha, h.2.2.2 b hb⟩) hr
theorem NamesAt.low {A : Nat → Prop} {w w' : World} {l : List ByteArray} {it : Value} (hr : NamesAt A w l it) (h : Low w w') : NamesAt A w' l it := NamesAt.to (fun b ha hb => ⟨ha, h.2.2.2 b hb⟩) hr
/-- A value's cells, loaded at once. -/
theorem load8 {w : World} {b o : Nat} {h : Hd} {it nm : Value} (hc : CellsAt w b o (hdc h it nm)) (P : Program) :
    Sem.run P (loadCellsFrom ⟨b, o, none⟩ 0 8 #[]) w = .ok #[.int .i64 h.k, .bool h.b, .int .i64 h.n, .string h.s, .string h.t, .string h.i, it, nm] w :=
  run_loadCellsFrom_list P w ⟨b, o, none⟩ (hdc h it nm) 8 rfl fun j v hv => by
    rw [Addr.add_lit]; exact hc j v hv
/-- .. one by one. -/
theorem cells8 {w : World} {b o : Nat} {h : Hd} {it nm : Value} (hc : CellsAt w b o (hdc h it nm)) :
    w.cell? ⟨b, o, none⟩ = some (.int .i64 h.k) ∧ w.cell? ⟨b, o + 1, none⟩ = some (.bool h.b) ∧ w.cell? ⟨b, o + 2, none⟩ = some (.int .i64 h.n) ∧ w.cell? ⟨b, o + 3, none⟩ = some (.string h.s) ∧
    w.cell? ⟨b, o + 4, none⟩ = some (.string h.t) ∧ w.cell? ⟨b, o + 5, none⟩ = some (.string h.i) ∧ w.cell? ⟨b, o + 6, none⟩ = some it ∧ w.cell? ⟨b, o + 7, none⟩ = some nm :=
  ⟨hc 0 _ rfl, hc 1 _ rfl, hc 2 _ rfl, hc 3 _ rfl, hc 4 _ rfl, hc 5 _ rfl, hc 6 _ rfl, hc 7 _ rfl⟩
/-- A cell of a block that a call has laid, in whatever world behind it. -/
theorem gr_cells {w wr : World} {k : Nat} {c : Array Value} {t : TypeId} (h : Gr (w.alloc (.cells c t)) wr) {v : Value} (hv : c[k]? = some v) : wr.cell? ⟨w.heap.size, k, none⟩ = some v :=
  h.cell (by rw [World.cell?_alloc_mark]; exact hv)
/-- A value in a box of the call's own. -/
theorem gr_box {w wr : World} {c0 c1 c2 c3 c4 c5 c6 c7 : Value} {t : TypeId} (h : Gr (w.alloc (.cells #[c0, c1, c2, c3, c4, c5, c6, c7] t)) wr) :
    wr.cell? ⟨w.heap.size, 0, none⟩ = some c0 ∧ wr.cell? ⟨w.heap.size, 1, none⟩ = some c1 ∧ wr.cell? ⟨w.heap.size, 2, none⟩ = some c2 ∧ wr.cell? ⟨w.heap.size, 3, none⟩ = some c3 ∧
    wr.cell? ⟨w.heap.size, 4, none⟩ = some c4 ∧ wr.cell? ⟨w.heap.size, 5, none⟩ = some c5 ∧ wr.cell? ⟨w.heap.size, 6, none⟩ = some c6 ∧ wr.cell? ⟨w.heap.size, 7, none⟩ = some c7 :=
  ⟨gr_cells h (by simp), gr_cells h (by simp), gr_cells h (by simp), gr_cells h (by simp), gr_cells h (by simp), gr_cells h (by simp), gr_cells h (by simp), gr_cells h (by simp)⟩
theorem Low.cells {w w' : World} (h : Low w w') {b o : Nat} {cs : List Value} (hc : CellsAt w b o cs) : CellsAt w' b o cs := fun j v hv => h.keep (hc j v hv)
end Go.Proofs.YtmkillbanmbafaaGreat
namespace Go.Proofs.YtmkillbanmbafaaGreat
open Go.RowKit Go.Sort
/-- What few answers. -/
def FewP (v : V) (d : Int) (w : World) (e : Ending) (w' : World) : Prop := ∃ b : Bool, e = .returned (.bool b) ∧ (b = true → Sm v ∧ (dep v : Int) + d ≤ 61) ∧ Gr w w'
/-- What size answers: some number. -/
def SizeP (w : World) (e : Ending) (w' : World) : Prop := ∃ n : Int, e = .returned (.int .i64 n) ∧ Gr w w'
end Go.Proofs.YtmkillbanmbafaaGreat
namespace Go.Proofs.YtmkillbanmbafaaGreat
open Go.RowKit Go.Sort
/-- .. behind a new block too. -/
theorem cells8a {w : World} {b o : Nat} {h : Hd} {it nm : Value} (hc : CellsAt w b o (hdc h it nm)) :
    (∀ x, (w.alloc x).cell? ⟨b, o, none⟩ = some (.int .i64 h.k)) ∧ (∀ x, (w.alloc x).cell? ⟨b, o + 1, none⟩ = some (.bool h.b)) ∧ (∀ x, (w.alloc x).cell? ⟨b, o + 2, none⟩ = some (.int .i64 h.n)) ∧
    (∀ x, (w.alloc x).cell? ⟨b, o + 3, none⟩ = some (.string h.s)) ∧ (∀ x, (w.alloc x).cell? ⟨b, o + 4, none⟩ = some (.string h.t)) ∧ (∀ x, (w.alloc x).cell? ⟨b, o + 5, none⟩ = some (.string h.i)) ∧
    (∀ x, (w.alloc x).cell? ⟨b, o + 6, none⟩ = some it) ∧ (∀ x, (w.alloc x).cell? ⟨b, o + 7, none⟩ = some nm) :=
  have k : ∀ x, CellsAt (w.alloc x) b o (hdc h it nm) := fun x => (Gr.alloc (Gr.refl w) x).low.cells hc
  ⟨fun x => k x 0 _ rfl, fun x => k x 1 _ rfl, fun x => k x 2 _ rfl, fun x => k x 3 _ rfl, fun x => k x 4 _ rfl, fun x => k x 5 _ rfl, fun x => k x 6 _ rfl, fun x => k x 7 _ rfl⟩
/-- A value in memory, wherever. -/
def R (w : World) (v : V) (it nm : Value) : Prop := Rep (fun _ => True) w v it nm
def Ro (w : World) (l : List V) (it : Value) : Prop := RowAt (fun _ => True) w l it
theorem R.low {w w' : World} {v : V} {it nm : Value} (hr : R w v it nm) (h : Low w w') : R w' v it nm := Rep.low hr h
theorem Ro.low {w w' : World} {l : List V} {it : Value} (hr : Ro w l it) (h : Low w w') : Ro w' l it := RowAt.low hr h
theorem Rep.any {A : Nat → Prop} {w : World} {v : V} {it nm : Value} (hr : Rep A w v it nm) : R w v it nm := Rep.to (fun _ _ _ => ⟨trivial, rfl⟩) v hr
theorem RowAt.any {A : Nat → Prop} {w : World} {l : List V} {it : Value} (hr : RowAt A w l it) : Ro w l it := RowAt.to (fun _ _ _ => ⟨trivial, rfl⟩) hr
/-- What an order answers. -/
def OrdC (f : Nat) (x y : V) : Prop := ∀ (w : World) (it nm it' nm' : Value), R w x it nm → R w y it' nm' →
  Calls Tryz.prog f #[av x.h it nm, av y.h it' nm'] w fun e w' => e = .returned (.int .i64 (ord x y)) ∧ Gr w w'
theorem retI {a b : Int} (h : a = b) : Ending.returned (.int .i64 b) = .returned (.int .i64 a) := by rw [h]
theorem drop_cons {α : Type} {l : List α} {i : Nat} (h : i < l.length) : l.drop i = l[i] :: l.drop (i + 1) := List.drop_eq_getElem_cons h
/-- An item's cells, and what they lead to, in whatever world behind. -/
theorem r_slices {w : World} {x : V} {it nm : Value} (h : R w x it nm) : ∃ ai ci an cn, it = .slice ai x.l.length ci ∧ nm = .slice an x.ns.length cn := by
  obtain ⟨-, ⟨an, cn, rfl, -⟩, ai, ci, rfl, -⟩ := rep_v.1 h
  exact ⟨_, _, _, _, rfl, rfl⟩
theorem ro_at {w : World} {l : List V} {ao : Option Addr} {n cap i : Nat} (hr : Ro w l (.slice ao n cap)) (hi : i < l.length) : ∃ b o ai ci an cn, ao = some ⟨b, o, none⟩ ∧
    CellsAt w b (o + i * 8) (hdc l[i].h (.slice ai l[i].l.length ci) (.slice an l[i].ns.length cn)) ∧ R w l[i] (.slice ai l[i].l.length ci) (.slice an l[i].ns.length cn) := by
  obtain ⟨ai, ci, he, hli, hx⟩ := hr
  simp only [Value.slice.injEq] at he
  obtain ⟨rfl, rfl, rfl⟩ := he
  rcases hx with h0 | ⟨b, o, rfl, ha, hf⟩
  · rw [h0] at hi; exact absurd hi (Nat.not_lt_zero _)
  · obtain ⟨it, nm, hcs, hrx⟩ := repF_at hf i hi
    obtain ⟨ai, ci, an, cn, rfl, rfl⟩ := r_slices hrx
    exact ⟨b, o, ai, ci, an, cn, rfl, hcs, hrx⟩
set_option maxHeartbeats 1600000 in
theorem cmpF_c (l m : List V) (ih : ∀ x ∈ l, ∀ y ∈ m, OrdC 48 x y) (w : World) (it it' : Value) (hl : Ro w l it) (hm : Ro w m it') :
    Calls Tryz.prog 99 #[it, it', .func (.func 48) #[] #[]] w fun e w' => e = .returned (.int .i64 (ordL l m)) ∧ Gr w w' := by
  obtain ⟨al, cl, rfl, ⟨zl, zl'⟩, -⟩ := id hl
  obtain ⟨am, cm, rfl, ⟨zm, zm'⟩, -⟩ := id hm
  have HL := Lib.hid hl
  have HM := Lib.hid hm
  have HI := Lib.hid ih
  clear hl hm ih
  obtain ⟨r, hr⟩ : ∃ r, r = ordL l m := ⟨_, rfl⟩
  have HR := Lib.hid hr
  rw [← hr]
  clear hr
  go_enter Tryz.func99, Tryz.ntmps99
  go_wp2_with fail
  go_loopg [13] l.length (fun gk vi wr => ∃ i : Nat, vi = .int .i64 (i : Int) ∧ i ≤ l.length ∧ i ≤ m.length ∧ l.length - i ≤ gk ∧ Hid (Gr w wr) ∧ Hid (r = ordL (l.drop i) (m.drop i)))
  case atStart => exact ⟨0, rfl, Nat.zero_le _, Nat.zero_le _, Nat.le_refl _, Lib.hid (Gr.refl _), HR⟩
  case round =>
    obtain ⟨i, rfl, hi, hi', hg, G, K⟩ := hrel
    by_cases hlt : i < l.length
    · have z1 : (i : Int) < (l.length : Int) := by omega
      obtain ⟨b, o, ai, ci, an, cn, rfl, hcs, hrx⟩ := ro_at (HL.out.low G.out.low) hlt
      obtain ⟨e0, e1, e2, e3, e4, e5, e6, e7⟩ := cells8 hcs
      have HR := Lib.hid hrx
      clear hcs hrx
      by_cases hlm : i < m.length
      · have z2 : (i : Int) < (m.length : Int) := by omega
        obtain ⟨b', o', ai', ci', an', cn', rfl, hcs', hrx'⟩ := ro_at (HM.out.low G.out.low) hlm
        obtain ⟨d0, d1, d2, d3, d4, d5, d6, d7⟩ := cells8a hcs'
        have HR' := Lib.hid hrx'
        clear hcs' hrx'
        have W2 := Gr.alloc (Gr.alloc G.out (.cells #[.int .i64 l[i].h.k, .bool l[i].h.b, .int .i64 l[i].h.n, .string l[i].h.s, .string l[i].h.t, .string l[i].h.i, .slice ai l[i].l.length ci, .slice an l[i].ns.length cn] 37)) (.cells #[.int .i64 m[i].h.k, .bool m[i].h.b, .int .i64 m[i].h.n, .string m[i].h.s, .string m[i].h.t, .string m[i].h.i, .slice ai' m[i].l.length ci', .slice an' m[i].ns.length cn'] 37)
        have W1 := Gr.alloc (Gr.alloc (Gr.refl wr) (.cells #[.int .i64 l[i].h.k, .bool l[i].h.b, .int .i64 l[i].h.n, .string l[i].h.s, .string l[i].h.t, .string l[i].h.i, .slice ai l[i].l.length ci, .slice an l[i].ns.length cn] 37)) (.cells #[.int .i64 m[i].h.k, .bool m[i].h.b, .int .i64 m[i].h.n, .string m[i].h.s, .string m[i].h.t, .string m[i].h.i, .slice ai' m[i].l.length ci', .slice an' m[i].ns.length cn'] 37)
        have hcon := HI.out l[i] (List.getElem_mem hlt) m[i] (List.getElem_mem hlm) _ _ _ _ _ (HR.out.low W1.low) (HR'.out.low W1.low)
        have HW := Lib.hid W2
        have HC := Lib.hid hcon
        clear W1 W2 hcon
        obtain ⟨c, hc⟩ : ∃ c, c = ord l[i] m[i] := ⟨_, rfl⟩
        rw [← hc] at HC
        have HE := Lib.hid hc
        clear hc
        have hst : r = orI c (ordL (l.drop (i + 1)) (m.drop (i + 1))) := by rw [HE.out, ← ordL_cons, ← drop_cons hlt, ← drop_cons hlm]; exact K.out
        have HS := Lib.hid hst
        clear hst
        go_wp2_with fail
        refine HC.out.mono ?_
        rintro e w' ⟨rfl, g⟩
        by_cases h0 : c = 0
        · subst h0
          have HS' : Hid (r = ordL (l.drop (i + 1)) (m.drop (i + 1))) := HS
          go_wp2_with fail
          go_roundg (l.length - (i + 1))
          case measure => omega
          case rel => exact ⟨i + 1, by go_num, by omega, by omega, by omega, Lib.hid (HW.out.trans g), HS'⟩
        · have hr : r = c := by rw [HS.out, orI, if_neg h0]
          go_wp2_with fail
          go_ret
          exact ⟨retI hr, HW.out.trans g⟩
      · have z2 : ¬ (i : Int) < (m.length : Int) := by omega
        have W2 := Gr.alloc G.out (.cells #[.int .i64 l[i].h.k, .bool l[i].h.b, .int .i64 l[i].h.n, .string l[i].h.s, .string l[i].h.t, .string l[i].h.i, .slice ai l[i].l.length ci, .slice an l[i].ns.length cn] 37)
        have hr : r = 1 := by
          rw [K.out, drop_cons hlt, List.drop_eq_nil_of_le (show m.length ≤ i by omega), ordL_cons_nil]
        have HW := Lib.hid W2
        have HQ := Lib.hid hr
        clear W2 hr
        go_wp2_with fail
        go_ret
        exact ⟨retI HQ.out, HW.out⟩
    · have z1 : ¬ (i : Int) < (l.length : Int) := by omega
      by_cases hlm : l.length < m.length
      · have z2 : (l.length : Int) < (m.length : Int) := by omega
        have hr : r = -1 := by
          rw [K.out, List.drop_eq_nil_of_le (show l.length ≤ i by omega), drop_cons (show i < m.length by omega), ordL_nil_cons]
        have HQ := Lib.hid hr
        clear hr
        go_wp2_with fail
        go_ret
        exact ⟨retI HQ.out, G.out⟩
      · have z2 : ¬ (l.length : Int) < (m.length : Int) := by omega
        have hr : r = 0 := by
          rw [K.out, List.drop_eq_nil_of_le (show l.length ≤ i by omega), List.drop_eq_nil_of_le (show m.length ≤ i by omega), ordL_nil]
        have HQ := Lib.hid hr
        clear hr
        go_wp2_with fail
        go_ret
        exact ⟨retI HQ.out, G.out⟩
end Go.Proofs.YtmkillbanmbafaaGreat
