/- What a call that only reads may leave of memory: draws, and blocks of its own behind what was there; how a value lies in memory. No condition. -/
import Derived.Test.YtbfaccndgjilmaaGreatVals
import Derived.Shelf.SlSortCmp.QuietGrown
import Derived.Shelf.SlicesQ.Load
namespace Go.Proofs.YtbfaccndgjilmaaGreat
open Go.RowKit Go.Sort
/-- Draws, and new blocks; nothing else. -/
def Gr (w w' : World) : Prop := ∃ q os, w' = grow (w.drewN q) os
theorem Gr.refl (w : World) : Gr w w := ⟨0, #[], by rw [grow_empty]; rfl⟩
theorem Gr.trans {a b c : World} (h : Gr a b) (k : Gr b c) : Gr a c := by
  obtain ⟨q, os, rfl⟩ := h
  obtain ⟨q', os', rfl⟩ := k
  exact ⟨q + q', os ++ os', by show grow (grow ((a.drewN q).drewN q') os) os' = _; rw [grow_grow, World.drewN_drewN]⟩
theorem Gr.alloc {a b : World} (h : Gr a b) (o : Obj) : Gr a (b.alloc o) := h.trans ⟨0, #[o], by rw [alloc_eq_grow]; rfl⟩
theorem Gr.drewN {a b : World} (h : Gr a b) (n : Nat) : Gr a (b.drewN n) := h.trans ⟨n, #[], by rw [grow_empty]⟩
theorem Gr.drew {a b : World} (h : Gr a b) : Gr a b.drew := h.trans ⟨1, #[], by rw [grow_empty]; rfl⟩
theorem Gr.grow {a b : World} (h : Gr a b) (n : Nat) (os : Array Obj) : Gr a (Sort.grow (b.drewN n) os) := h.trans ⟨n, os, rfl⟩
theorem Gr.size {a b : World} (h : Gr a b) : a.heap.size ≤ b.heap.size := by
  obtain ⟨q, os, rfl⟩ := h
  rw [size_grow]; exact Nat.le_add_right _ _
theorem Gr.setCell {a b : World} (h : Gr a b) (k o : Nat) (v : Value) (hk : a.heap.size ≤ k) : Gr a (b.setCell ⟨k, o, none⟩ v) := by
  obtain ⟨q, os, rfl⟩ := h
  exact ⟨q, _, by rw [setCell_eq, mapBlock_grow_new _ _ _ _ (by exact hk)]⟩
theorem Gr.low {w w' : World} (h : Gr w w') : Low w w' := by
  obtain ⟨q, os, rfl⟩ := h
  exact ⟨rfl, rfl, by rw [size_grow]; exact Nat.le_add_right _ _, fun k hk => heap_grow_old _ _ hk⟩
theorem Gr.cell {w w' : World} (h : Gr w w') {p : Addr} {v : Value} (hc : w.cell? p = some v) : w'.cell? p = some v := h.low.keep hc
/-! ### How a value lies in memory -/
/-- A value's eight cells. -/
def hdc (h : Hd) (it nm : Value) : List Value := [.int .i64 h.k, .bool h.b, .int .i64 h.n, .string h.s, .string h.t, .string h.i, it, nm]
def av (h : Hd) (it nm : Value) : Value := .agg #[.int .i64 h.k, .bool h.b, .int .i64 h.n, .string h.s, .string h.t, .string h.i, it, nm]
def Bh (h : Hd) : Prop := h.s.size ≤ 9223372036854775807 ∧ h.t.size ≤ 9223372036854775807 ∧ h.i.size ≤ 9223372036854775807
/-- A slice of texts, in blocks that may be. -/
def NamesAt (A : Nat → Prop) (w : World) (ns : List ByteArray) (nm : Value) : Prop :=
  ∃ ao cap, nm = .slice ao ns.length cap ∧ ns.length ≤ 9223372036854775807 ∧ (∀ x ∈ ns, x.size ≤ 9223372036854775807) ∧
    (ns = [] ∨ ∃ b o, ao = some ⟨b, o, none⟩ ∧ A b ∧ ∀ j (hj : j < ns.length), w.cell? ⟨b, o + j, none⟩ = some (.string ns[j]))
/-- Cells that lie in a row. -/
def CellsAt (w : World) (b o : Nat) (cs : List Value) : Prop := ∀ j v, cs[j]? = some v → w.cell? ⟨b, o + j, none⟩ = some v
mutual
/-- A value's items and names, in blocks that may be. -/
def Rep (A : Nat → Prop) (w : World) : V → Value → Value → Prop
  | .mk h l ns, it, nm => Bh h ∧ NamesAt A w ns nm ∧ ∃ ao cap, it = .slice ao l.length cap ∧ (l.length ≤ cap ∧ cap ≤ 9223372036854775807) ∧ (l = [] ∨ ∃ b o, ao = some ⟨b, o, none⟩ ∧ A b ∧ RepF A w b o l)
/-- Values that lie in a row. -/
def RepF (A : Nat → Prop) (w : World) (b : Nat) : Nat → List V → Prop
  | _, [] => True
  | o, x :: l => (∃ it nm, CellsAt w b o (hdc x.h it nm) ∧ Rep A w x it nm) ∧ RepF A w b (o + 8) l
end
/-- A slice of values. -/
def RowAt (A : Nat → Prop) (w : World) (l : List V) (it : Value) : Prop :=
  ∃ ao cap, it = .slice ao l.length cap ∧ (l.length ≤ cap ∧ cap ≤ 9223372036854775807) ∧ (l = [] ∨ ∃ b o, ao = some ⟨b, o, none⟩ ∧ A b ∧ RepF A w b o l)
theorem rep_v {A : Nat → Prop} {w : World} {v : V} {it nm : Value} : Rep A w v it nm ↔ Bh v.h ∧ NamesAt A w v.ns nm ∧ RowAt A w v.l it := by
  cases v; rw [Rep]; rfl
theorem repF_at {A : Nat → Prop} {w : World} {b : Nat} : ∀ {l : List V} {o : Nat}, RepF A w b o l → ∀ j (hj : j < l.length), ∃ it nm, CellsAt w b (o + j * 8) (hdc l[j].h it nm) ∧ Rep A w l[j] it nm
  | [], _, _, j, hj => absurd hj (Nat.not_lt_zero _)
  | x :: l, o, h, 0, _ => by rw [RepF] at h; simpa using h.1
  | x :: l, o, h, j + 1, hj => by
    rw [RepF] at h
    obtain ⟨it, nm, hc, hr⟩ := repF_at h.2 j (by simpa using hj)
    exact ⟨it, nm, by rwa [show o + (j + 1) * 8 = o + 8 + j * 8 by omega], hr⟩
theorem repF_of {A : Nat → Prop} {w : World} {b : Nat} : ∀ {l : List V} {o : Nat}, (∀ j (hj : j < l.length), ∃ it nm, CellsAt w b (o + j * 8) (hdc l[j].h it nm) ∧ Rep A w l[j] it nm) → RepF A w b o l
  | [], _, _ => by rw [RepF]; trivial
  | x :: l, o, h => by
    rw [RepF]
    refine ⟨by have h0 := h 0 (by simp); rwa [Nat.zero_mul, Nat.add_zero] at h0, repF_of fun j hj => ?_⟩
    obtain ⟨it, nm, hc, hr⟩ := h (j + 1) (by simpa using hj)
    exact ⟨it, nm, by rwa [show o + 8 + j * 8 = o + (j + 1) * 8 by omega], hr⟩
theorem cell_to {w w' : World} {b o : Nat} {v : Value} (h : w.cell? ⟨b, o, none⟩ = some v) (hb : b < w.heap.size → w'.heap[b]? = w.heap[b]?) : w'.cell? ⟨b, o, none⟩ = some v := by
  have := World.cell?_of_block (w := w) (w' := w') (a := ⟨b, o, none⟩) (hb (cell_lt h))
  rw [this]; exact h
theorem NamesAt.to {A A' : Nat → Prop} {w w' : World} (h : ∀ b, A b → b < w.heap.size → A' b ∧ w'.heap[b]? = w.heap[b]?) {ns : List ByteArray} {nm : Value} (hn : NamesAt A w ns nm) : NamesAt A' w' ns nm := by
  obtain ⟨ao, cap, rfl, hl, hs, hn⟩ := hn
  refine ⟨ao, cap, rfl, hl, hs, ?_⟩
  rcases hn with h0 | ⟨b, o, rfl, ha, hc⟩
  · exact .inl h0
  · cases ns with
    | nil => exact .inl rfl
    | cons x ns =>
      have hb := cell_lt (hc 0 (by simp))
      exact .inr ⟨b, o, rfl, (h b ha hb).1, fun j hj => cell_to (hc j hj) fun k => (h b ha k).2⟩
mutual
theorem Rep.to {A A' : Nat → Prop} {w w' : World} (h : ∀ b, A b → b < w.heap.size → A' b ∧ w'.heap[b]? = w.heap[b]?) : ∀ (v : V) {it nm : Value}, Rep A w v it nm → Rep A' w' v it nm
  | .mk hd l ns, it, nm, hr => by
    rw [Rep] at hr ⊢
    obtain ⟨hb, hn, ao, cap, rfl, hl, hr⟩ := hr
    refine ⟨hb, hn.to h, ao, cap, rfl, hl, ?_⟩
    rcases hr with h0 | ⟨b, o, rfl, ha, hf⟩
    · exact .inl h0
    · cases hl0 : l with
      | nil => exact .inl rfl
      | cons x l' =>
        have hx := hf
        rw [hl0, RepF] at hx
        obtain ⟨⟨it, nm, hc, _⟩, _⟩ := hx
        have hlt := cell_lt (hc 0 _ rfl)
        rw [← hl0]
        exact .inr ⟨b, o, rfl, (h b ha hlt).1, RepF.to h b (fun k => (h b ha k).2) l hf⟩
theorem RepF.to {A A' : Nat → Prop} {w w' : World} (h : ∀ b, A b → b < w.heap.size → A' b ∧ w'.heap[b]? = w.heap[b]?) (b : Nat) (hb : b < w.heap.size → w'.heap[b]? = w.heap[b]?) : ∀ (l : List V) {o : Nat}, RepF A w b o l → RepF A' w' b o l
  | [], _, _ => by rw [RepF]; trivial
  | x :: l, o, hf => by
    rw [RepF] at hf ⊢
    obtain ⟨⟨it, nm, hc, hr⟩, hf⟩ := hf
    exact ⟨⟨it, nm, fun j v hv => cell_to (hc j v hv) hb, Rep.to h x hr⟩, RepF.to h b hb l hf⟩
end
theorem RowAt.to {A A' : Nat → Prop} {w w' : World} (h : ∀ b, A b → b < w.heap.size → A' b ∧ w'.heap[b]? = w.heap[b]?) {l : List V} {it : Value} (hr : RowAt A w l it) : RowAt A' w' l it := by
  have hx : Rep A w (.mk ⟨0, false, 0, ⟨#[]⟩, ⟨#[]⟩, ⟨#[]⟩⟩ l []) it (.slice none 0 0) := by
    rw [Rep]; exact ⟨⟨by decide, by decide, by decide⟩, ⟨none, 0, rfl, by simp, by simp, .inl rfl⟩, hr⟩
  have := Rep.to h _ hx
  rw [Rep] at this
  exact this.2.2
/-- What was there is read as it was. -/
theorem Rep.low {A : Nat → Prop} {w w' : World} {v : V} {it nm : Value} (hr : Rep A w v it nm) (h : Low w w') : Rep A w' v it nm := Rep.to (fun b ha hb => ⟨ha, h.2.2.2 b hb⟩) v hr
theorem RowAt.low {A : Nat → Prop} {w w' : World} {l : List V} {it : Value} (hr : RowAt A w l it) (h : Low w w') : RowAt A w' l it := RowAt.to (fun b ha hb => ⟨ha, h.2.2.2 b hb⟩) hr
theorem NamesAt.low {A : Nat → Prop} {w w' : World} {l : List ByteArray} {it : Value} (hr : NamesAt A w l it) (h : Low w w') : NamesAt A w' l it := NamesAt.to (fun b ha hb => ⟨ha, h.2.2.2 b hb⟩) hr
/-- A value's cells, loaded at once. -/
theorem load8 {w : World} {b o : Nat} {h : Hd} {it nm : Value} (hc : CellsAt w b o (hdc h it nm)) (P : Program) :
    Sem.run P (loadCellsFrom ⟨b, o, none⟩ 0 8 #[]) w = .ok #[.int .i64 h.k, .bool h.b, .int .i64 h.n, .string h.s, .string h.t, .string h.i, it, nm] w :=
  run_loadCellsFrom_list P w ⟨b, o, none⟩ (hdc h it nm) 8 rfl fun j v hv => by
    rw [Addr.add_lit]; exact hc j v hv
/-- .. one by one. -/
theorem cells8 {w : World} {b o : Nat} {h : Hd} {it nm : Value} (hc : CellsAt w b o (hdc h it nm)) :
    w.cell? ⟨b, o, none⟩ = some (.int .i64 h.k) ∧ w.cell? ⟨b, o + 1, none⟩ = some (.bool h.b) ∧ w.cell? ⟨b, o + 2, none⟩ = some (.int .i64 h.n) ∧ w.cell? ⟨b, o + 3, none⟩ = some (.string h.s) ∧
    w.cell? ⟨b, o + 4, none⟩ = some (.string h.t) ∧ w.cell? ⟨b, o + 5, none⟩ = some (.string h.i) ∧ w.cell? ⟨b, o + 6, none⟩ = some it ∧ w.cell? ⟨b, o + 7, none⟩ = some nm :=
  ⟨hc 0 _ rfl, hc 1 _ rfl, hc 2 _ rfl, hc 3 _ rfl, hc 4 _ rfl, hc 5 _ rfl, hc 6 _ rfl, hc 7 _ rfl⟩
/-- A cell of a block that a call has laid, in whatever world behind it. -/
theorem gr_cells {w wr : World} {k : Nat} {c : Array Value} {t : TypeId} (h : Gr (w.alloc (.cells c t)) wr) {v : Value} (hv : c[k]? = some v) : wr.cell? ⟨w.heap.size, k, none⟩ = some v :=
  h.cell (by rw [World.cell?_alloc_mark]; exact hv)
/-- A value in a box of the call's own. -/
theorem gr_box {w wr : World} {c0 c1 c2 c3 c4 c5 c6 c7 : Value} {t : TypeId} (h : Gr (w.alloc (.cells #[c0, c1, c2, c3, c4, c5, c6, c7] t)) wr) :
    wr.cell? ⟨w.heap.size, 0, none⟩ = some c0 ∧ wr.cell? ⟨w.heap.size, 1, none⟩ = some c1 ∧ wr.cell? ⟨w.heap.size, 2, none⟩ = some c2 ∧ wr.cell? ⟨w.heap.size, 3, none⟩ = some c3 ∧
    wr.cell? ⟨w.heap.size, 4, none⟩ = some c4 ∧ wr.cell? ⟨w.heap.size, 5, none⟩ = some c5 ∧ wr.cell? ⟨w.heap.size, 6, none⟩ = some c6 ∧ wr.cell? ⟨w.heap.size, 7, none⟩ = some c7 :=
  ⟨gr_cells h (by simp), gr_cells h (by simp), gr_cells h (by simp), gr_cells h (by simp), gr_cells h (by simp), gr_cells h (by simp), gr_cells h (by simp), gr_cells h (by simp)⟩
theorem Low.cells {w w' : World} (h : Low w w') {b o : Nat} {cs : List Value} (hc : CellsAt w b o cs) : CellsAt w' b o cs := fun j v hv => h.keep (hc j v hv)
end Go.Proofs.YtbfaccndgjilmaaGreat
