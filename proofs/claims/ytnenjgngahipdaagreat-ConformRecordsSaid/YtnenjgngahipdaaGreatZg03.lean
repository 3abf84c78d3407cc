/- What a call that only reads may leave of memory: draws, and blocks of its own behind what was there; how a value lies in memory. No condition. Entities in memory by their names and their parents' slices; entity.parentsByName: the parents under each name, those of the first entity with it. No condition. schema.leads: does a way of at least one step lead from a name to another one? Condition: not too many names. Plain: names to which no step leads are taken away in a list that grows while it is gone through. No condition. schema.stepsTo: how many steps lead to each name. Condition: not too many names. entity.stepsTo: how many steps lead to each name. Condition: no more than 100000 steps in all. few and size answer: few's yes says that all rows are short and the depth is small. No condition. The order of rows of values, item by item. No condition. -/
import Derived.Test.YtnenjgngahipdaaGreatZg02
import Derived.Shelf.SlSortCmp.QuietGrown
import Derived.Shelf.SlicesQ.Load
import Derived.Test.YtnenjgngahipdaaGreatZg01
import Derived.Lib.Hide
import Derived.Test.YtnenjgngahipdaaGreatZg00
import Derived.Deep.LoopGhost
set_option linter.unusedVariables false
set_option linter.unusedSimpArgs false
set_option linter.unnecessarySimpa false
namespace Go.Proofs.YtnenjgngahipdaaGreat
open Go.RowKit Go.Sort
/-- Draws, and new blocks; nothing else. -/
def Gr (w w' : World) : Prop := ∃ q os, w' = grow (w.drewN q) os
theorem Gr.refl (w : World) : Gr w w := ⟨0, #[], by rw [grow_empty]; rfl⟩
theorem Gr.trans {a b c : World} (h : Gr a b) (k : Gr b c) : Gr a c := by
  obtain ⟨q, os, rfl⟩ := h
  obtain ⟨q', os', rfl⟩ := k
  exact ⟨q + q', os ++ os', by show grow (grow ((a.drewN q).drewN q') os) os' = _; rw [grow_grow, World.drewN_drewN]⟩
theorem Gr.alloc {a b : World} (h : Gr a b) (o : Obj) : Gr a (b.alloc o) := h.trans ⟨0, #[o], by rw [alloc_eq_grow]; rfl⟩
theorem Gr.drewN {a b : World} (h : Gr a b) (n : Nat) : Gr a (b.drewN n) := h.trans ⟨n, #[], by rw [grow_empty]⟩
theorem Gr.drew {a b : World} (h : Gr a b) : Gr a b.drew := h.trans ⟨1, #[], by rw [grow_empty]; rfl⟩
theorem Gr.grow {a b : World} (h : Gr a b) (n : Nat) (os : Array Obj) : Gr a (Sort.grow (b.drewN n) os) := h.trans ⟨n, os, rfl⟩
theorem Gr.size {a b : World} (h : Gr a b) : a.heap.size ≤ b.heap.size := by
  obtain ⟨q, os, rfl⟩ := h
  rw [size_grow]; exact Nat.le_add_right _ _
theorem Gr.setCell {a b : World} (h : Gr a b) (k o : Nat) (v : Value) (hk : a.heap.size ≤ k) : Gr a (b.setCell ⟨k, o, none⟩ v) := by
  obtain ⟨q, os, rfl⟩ := h
  exact ⟨q, _, by rw [setCell_eq, mapBlock_grow_new _ _ _ _ (by exact hk)]⟩
theorem Gr.low {w w' : World} (h : Gr w w') : Low w w' := by
  obtain ⟨q, os, rfl⟩ := h
  exact ⟨rfl, rfl, by rw [size_grow]; exact Nat.le_add_right _ _, fun k hk => heap_grow_old _ _ hk⟩
theorem Gr.cell {w w' : World} (h : Gr w w') {p : Addr} {v : Value} (hc : w.cell? p = some v) : w'.cell? p = some v := h.low.keep hc
/-! ### How a value lies in memory -/
/-- A value's eight cells. -/
def hdc (h : Hd) (it nm : Value) : List Value := [.int .i64 h.k, .bool h.b, .int .i64 h.n, .string h.s, .string h.t, .string h.i, it, nm]
def avv (h : Hd) (it nm : Value) : Value := .agg #[.int .i64 h.k, .bool h.b, .int .i64 h.n, .string h.s, .string h.t, .string h.i, it, nm]
def Bh (h : Hd) : Prop := h.s.size ≤ 9223372036854775807 ∧ h.t.size ≤ 9223372036854775807 ∧ h.i.size ≤ 9223372036854775807
/-- A slice of texts, in blocks that may be. -/
def NamesAt (A : Nat → Prop) (w : World) (ns : List ByteArray) (nm : Value) : Prop :=
  ∃ ao cap, nm = .slice ao ns.length cap ∧ ns.length ≤ 9223372036854775807 ∧ (∀ x ∈ ns, x.size ≤ 9223372036854775807) ∧
    (ns = [] ∨ ∃ b o, ao = some ⟨b, o, none⟩ ∧ A b ∧ ∀ j (hj : j < ns.length), w.cell? ⟨b, o + j, none⟩ = some (.string ns[j]))
/-- Cells that lie in a row. -/
def CellsAtv (w : World) (b o : Nat) (cs : List Value) : Prop := ∀ j v, cs[j]? = some v → w.cell? ⟨b, o + j, none⟩ = some v
mutual
/-- A value's items and names, in blocks that may be. -/
def Rep (A : Nat → Prop) (w : World) : V → Value → Value → Prop
  | .mk h l ns, it, nm => Bh h ∧ NamesAt A w ns nm ∧ ∃ ao cap, it = .slice ao l.length cap ∧ (l.length ≤ cap ∧ cap ≤ 9223372036854775807) ∧ (l = [] ∨ ∃ b o, ao = some ⟨b, o, none⟩ ∧ A b ∧ RepF A w b o l)
/-- Values that lie in a row. -/
def RepF (A : Nat → Prop) (w : World) (b : Nat) : Nat → List V → Prop
  | _, [] => True
  | o, x :: l => (∃ it nm, CellsAtv w b o (hdc x.h it nm) ∧ Rep A w x it nm) ∧ RepF A w b (o + 8) l
end
/-- A slice of values. -/
def RowAt (A : Nat → Prop) (w : World) (l : List V) (it : Value) : Prop :=
  ∃ ao cap, it = .slice ao l.length cap ∧ (l.length ≤ cap ∧ cap ≤ 9223372036854775807) ∧ (l = [] ∨ ∃ b o, ao = some ⟨b, o, none⟩ ∧ A b ∧ RepF A w b o l)
theorem rep_v {A : Nat → Prop} {w : World} {v : V} {it nm : Value} : Rep A w v it nm ↔ Bh v.h ∧ NamesAt A w v.ns nm ∧ RowAt A w v.l it := by
  cases v; rw [Rep]; rfl
theorem repF_at {A : Nat → Prop} {w : World} {b : Nat} : ∀ {l : List V} {o : Nat}, RepF A w b o l → ∀ j (hj : j < l.length), ∃ it nm, CellsAtv w b (o + j * 8) (hdc l[j].h it nm) ∧ Rep A w l[j] it nm
  | [], _, _, j, hj => absurd hj (Nat.not_lt_zero _)
  | x :: l, o, h, 0, _ => by rw [RepF] at h; simpa using h.1
  | x :: l, o, h, j + 1, hj => by
    rw [RepF] at h
    obtain ⟨it, nm, hc, hr⟩ := repF_at h.2 j (by simpa using hj)
    exact ⟨it, nm, by rwa [show o + (j + 1) * 8 = o + 8 + j * 8 by omega], hr⟩
theorem repF_of {A : Nat → Prop} {w : World} {b : Nat} : ∀ {l : List V} {o : Nat}, (∀ j (hj : j < l.length), ∃ it nm, CellsAtv w b (o + j * 8) (hdc l[j].h it nm) ∧ Rep A w l[j] it nm) → RepF A w b o l
  | [], _, _ => by rw [RepF]; trivial
  | x :: l, o, h => by
    rw [RepF]
    refine ⟨by have h0 := h 0 (by simp); rwa [Nat.zero_mul, Nat.add_zero] at h0, repF_of fun j hj => ?_⟩
    obtain ⟨it, nm, hc, hr⟩ := h (j + 1) (by simpa using hj)
    exact ⟨it, nm, by rwa [show o + 8 + j * 8 = o + (j + 1) * 8 by omega], hr⟩
theorem cell_tov {w w' : World} {b o : Nat} {v : Value} (h : w.cell? ⟨b, o, none⟩ = some v) (hb : b < w.heap.size → w'.heap[b]? = w.heap[b]?) : w'.cell? ⟨b, o, none⟩ = some v := by
  have := World.cell?_of_block (w := w) (w' := w') (a := ⟨b, o, none⟩) (hb (cell_lt h))
  rw [this]; exact h
theorem NamesAt.to {A A' : Nat → Prop} {w w' : World} (h : ∀ b, A b → b < w.heap.size → A' b ∧ w'.heap[b]? = w.heap[b]?) {ns : List ByteArray} {nm : Value} (hn : NamesAt A w ns nm) : NamesAt A' w' ns nm := by
  obtain ⟨ao, cap, rfl, hl, hs, hn⟩ := hn
  refine ⟨ao, cap, rfl, hl, hs, ?_⟩
  rcases hn with h0 | ⟨b, o, rfl, ha, hc⟩
  · exact .inl h0
  · cases ns with
    | nil => exact .inl rfl
    | cons x ns =>
      have hb := cell_lt (hc 0 (by simp))
      exact .inr ⟨b, o, rfl, (h b ha hb).1, fun j hj => cell_tov (hc j hj) fun k => (h b ha k).2⟩
mutual
theorem Rep.to {A A' : Nat → Prop} {w w' : World} (h : ∀ b, A b → b < w.heap.size → A' b ∧ w'.heap[b]? = w.heap[b]?) : ∀ (v : V) {it nm : Value}, Rep A w v it nm → Rep A' w' v it nm
  | .mk hd l ns, it, nm, hr => by
    rw [Rep] at hr ⊢
    obtain ⟨hb, hn, ao, cap, rfl, hl, hr⟩ := hr
    refine ⟨hb, hn.to h, ao, cap, rfl, hl, ?_⟩
    rcases hr with h0 | ⟨b, o, rfl, ha, hf⟩
    · exact .inl h0
    · cases hl0 : l with
      | nil => exact .inl rfl
      | cons x l' =>
        have hx := hf
        rw [hl0, RepF] at hx
        obtain ⟨⟨it, nm, hc, _⟩, _⟩ := hx
        have hlt := cell_lt (hc 0 _ rfl)
        rw [← hl0]
        exact .inr ⟨b, o, rfl, (h b ha hlt).1, RepF.to h b (fun k => (h b ha k).2) l hf⟩
theorem RepF.to {A A' : Nat → Prop} {w w' : World} (h : ∀ b, A b → b < w.heap.size → A' b ∧ w'.heap[b]? = w.heap[b]?) (b : Nat) (hb : b < w.heap.size → w'.heap[b]? = w.heap[b]?) : ∀ (l : List V) {o : Nat}, RepF A w b o l → RepF A' w' b o l
  | [], _, _ => by rw [RepF]; trivial
  | x :: l, o, hf => by
    rw [RepF] at hf ⊢
    obtain ⟨⟨it, nm, hc, hr⟩, hf⟩ := hf
    exact ⟨⟨it, nm, fun j v hv => cell_tov (hc j v hv) hb, Rep.to h x hr⟩, RepF.to h b hb l hf⟩
end
theorem RowAt.to {A A' : Nat → Prop} {w w' : World} (h : ∀ b, A b → b < w.heap.size → A' b ∧ w'.heap[b]? = w.heap[b]?) {l : List V} {it : Value} (hr : RowAt A w l it) : RowAt A' w' l it := by
  have hx : Rep A w (.mk ⟨0, false, 0, ⟨#[]⟩, ⟨#[]⟩, ⟨#[]⟩⟩ l []) it (.slice none 0 0) := by
    rw [Rep]; exact ⟨⟨by decide, by decide, by decide⟩, ⟨none, 0, rfl, by simp, by simp, .inl rfl⟩, hr⟩
  have := Rep.to h _ hx
  rw [Rep] at this
  exact this.2.2
/-- What was there is read as it was. -/
theorem Rep.low {A : Nat → Prop} {w w' : World} {v : V} {it nm : Value} (hr : Rep A w v it nm) (h : Low w w') : Rep A w' v it nm := Rep.to (fun b ha hb => ⟨ha, h.2.2.2 b hb⟩) v hr
theorem RowAt.low {A : Nat → Prop} {w w' : World} {l : List V} {it : Value} (hr : RowAt A w l it) (h : Low w w') : RowAt A w' l it := RowAt.to (fun b ha hb => ⟨ha, h.2.2.2 b hb⟩) hr
theorem NamesAt.low {A : Nat → Prop} {w w' : World} {l : List ByteArray} {it : Value} (hr : NamesAt A w l it) (h : Low w w') : NamesAt A w' l it := NamesAt.to (fun b ha hb => ⟨ha, h.2.2.2 b hb⟩) hr
/-- .. one by one. -/
theorem cells8 {w : World} {b o : Nat} {h : Hd} {it nm : Value} (hc : CellsAtv w b o (hdc h it nm)) :
    w.cell? ⟨b, o, none⟩ = some (.int .i64 h.k) ∧ w.cell? ⟨b, o + 1, none⟩ = some (.bool h.b) ∧ w.cell? ⟨b, o + 2, none⟩ = some (.int .i64 h.n) ∧ w.cell? ⟨b, o + 3, none⟩ = some (.string h.s) ∧
    w.cell? ⟨b, o + 4, none⟩ = some (.string h.t) ∧ w.cell? ⟨b, o + 5, none⟩ = some (.string h.i) ∧ w.cell? ⟨b, o + 6, none⟩ = some it ∧ w.cell? ⟨b, o + 7, none⟩ = some nm :=
  ⟨hc 0 _ rfl, hc 1 _ rfl, hc 2 _ rfl, hc 3 _ rfl, hc 4 _ rfl, hc 5 _ rfl, hc 6 _ rfl, hc 7 _ rfl⟩
/-- A cell of a block that a call has laid, in whatever world behind it. -/
theorem gr_cells {w wr : World} {k : Nat} {c : Array Value} {t : TypeId} (h : Gr (w.alloc (.cells c t)) wr) {v : Value} (hv : c[k]? = some v) : wr.cell? ⟨w.heap.size, k, none⟩ = some v :=
  h.cell (by rw [World.cell?_alloc_mark]; exact hv)
/-- A value in a box of the call's own. -/
theorem gr_box {w wr : World} {c0 c1 c2 c3 c4 c5 c6 c7 : Value} {t : TypeId} (h : Gr (w.alloc (.cells #[c0, c1, c2, c3, c4, c5, c6, c7] t)) wr) :
    wr.cell? ⟨w.heap.size, 0, none⟩ = some c0 ∧ wr.cell? ⟨w.heap.size, 1, none⟩ = some c1 ∧ wr.cell? ⟨w.heap.size, 2, none⟩ = some c2 ∧ wr.cell? ⟨w.heap.size, 3, none⟩ = some c3 ∧
    wr.cell? ⟨w.heap.size, 4, none⟩ = some c4 ∧ wr.cell? ⟨w.heap.size, 5, none⟩ = some c5 ∧ wr.cell? ⟨w.heap.size, 6, none⟩ = some c6 ∧ wr.cell? ⟨w.heap.size, 7, none⟩ = some c7 :=
  ⟨gr_cells h (by simp), gr_cells h (by simp), gr_cells h (by simp), gr_cells h (by simp), gr_cells h (by simp), gr_cells h (by simp), gr_cells h (by simp), gr_cells h (by simp)⟩
theorem Low.cells {w w' : World} (h : Low w w') {b o : Nat} {cs : List Value} (hc : CellsAtv w b o cs) : CellsAtv w' b o cs := fun j v hv => h.keep (hc j v hv)
end Go.Proofs.YtnenjgngahipdaaGreat
namespace Go.Proofs.YtnenjgngahipdaaGreat
open Go.RowKit Go.Maps Go.Sort
/-- An entity as its cells are. -/
structure Sh where
  u : Us
  ap : Option Addr
  np : Nat
  cp : Nat
  h : Hd
  ai : Option Addr
  ni : Nat
  ci : Nat
  an : Option Addr
  nn : Nat
  cn : Nat
def Sh.p (s : Sh) : Value := .slice s.ap s.np s.cp
def Sh.cs (s : Sh) : List Value := [.string s.u.t, .string s.u.i, .slice s.ap s.np s.cp, .int .i64 s.h.k, .bool s.h.b, .int .i64 s.h.n, .string s.h.s, .string s.h.t, .string s.h.i, .slice s.ai s.ni s.ci, .slice s.an s.nn s.cn]
/-- A slice of entities. -/
def EsAt (w : World) (r : Value) (l : List Sh) : Prop :=
  ∃ ao c, r = .slice ao l.length c ∧ (l.length ≤ c ∧ c ≤ 9223372036854775807) ∧ ∀ j (hj : j < l.length), ∃ b o, ao = some ⟨b, o, none⟩ ∧ CellsAtv w b (o + j * 11) l[j].cs
theorem EsAt.low {w w' : World} {r : Value} {l : List Sh} (h : EsAt w r l) (hl : Low w w') : EsAt w' r l := by
  obtain ⟨ao, c, rfl, hc, hx⟩ := h
  refine ⟨ao, c, rfl, hc, fun j hj => ?_⟩
  obtain ⟨b, o, rfl, hs⟩ := hx j hj
  exact ⟨b, o, rfl, hl.cells hs⟩
theorem cells11 {w : World} {b o : Nat} {s : Sh} (hc : CellsAtv w b o s.cs) :
    w.cell? ⟨b, o, none⟩ = some (.string s.u.t) ∧ w.cell? ⟨b, o + 1, none⟩ = some (.string s.u.i) ∧ w.cell? ⟨b, o + 2, none⟩ = some (.slice s.ap s.np s.cp) ∧ w.cell? ⟨b, o + 3, none⟩ = some (.int .i64 s.h.k) ∧
    w.cell? ⟨b, o + 4, none⟩ = some (.bool s.h.b) ∧ w.cell? ⟨b, o + 5, none⟩ = some (.int .i64 s.h.n) ∧ w.cell? ⟨b, o + 6, none⟩ = some (.string s.h.s) ∧ w.cell? ⟨b, o + 7, none⟩ = some (.string s.h.t) ∧
    w.cell? ⟨b, o + 8, none⟩ = some (.string s.h.i) ∧ w.cell? ⟨b, o + 9, none⟩ = some (.slice s.ai s.ni s.ci) ∧ w.cell? ⟨b, o + 10, none⟩ = some (.slice s.an s.nn s.cn) :=
  ⟨hc 0 _ rfl, hc 1 _ rfl, hc 2 _ rfl, hc 3 _ rfl, hc 4 _ rfl, hc 5 _ rfl, hc 6 _ rfl, hc 7 _ rfl, hc 8 _ rfl, hc 9 _ rfl, hc 10 _ rfl⟩
/-- The parents under a name: those of the first entity with it. -/
def fS (l : List Sh) (x : Us) : Option Value := (l.find? fun s => decide (s.u = x)).map Sh.p
theorem fS_more {l : List Sh} {s : Sh} (x : Us) : fS (l ++ [s]) x = if (fS l x).isSome = true then fS l x else if s.u = x then some s.p else none := by
  unfold fS
  rw [List.find?_append]
  cases h : l.find? fun s => decide (s.u = x) with
  | some v => simp
  | none =>
    by_cases e : s.u = x
    · simp [e]
    · simp [e]
theorem fS_there {l : List Sh} {s : Sh} (h : (fS l s.u).isSome = true) : fS (l ++ [s]) = fS l := by
  funext x
  rw [fS_more]
  by_cases e : (fS l x).isSome = true
  · rw [if_pos e]
  · rw [if_neg e, if_neg (fun hx : s.u = x => e (hx ▸ h))]
    cases hf : fS l x with
    | none => rfl
    | some v => rw [hf] at e; simp at e
theorem fS_new {l : List Sh} {s : Sh} (h : (fS l s.u).isSome = false) : fS (l ++ [s]) = updF (fS l) s.u (some s.p) := by
  funext x
  rw [fS_more]
  unfold updF
  by_cases e : x = s.u
  · rw [if_pos e, e, h]; simp
  · rw [if_neg e, if_neg (Ne.symm e)]
    by_cases e2 : (fS l x).isSome = true
    · rw [if_pos e2]
    · rw [if_neg e2]
      cases hf : fS l x with
      | none => rfl
      | some v => rw [hf] at e2; simp at e2
theorem zeroUs (w : World) : (zeroValue 69).run Tryz.prog w = .ok (.slice none 0 0) w := by kernel_rfl
/-- What parentsByName answers. -/
def ParP (l : List Sh) (w : World) (e : Ending) (w' : World) : Prop := ∃ b, e = .returned (.map (some b)) ∧ w.heap.size ≤ b ∧ MapAt keyUs w' b l.length (fS l) ∧ Low w w'
set_option maxHeartbeats 1600000 in
theorem par_c (l : List Sh) (w : World) (r : Value) (hr : EsAt w r l) : Calls Tryz.prog 69 #[r] w (ParP l w) := by
  obtain ⟨ao, c, rfl, ⟨hlc, hc9⟩, hx⟩ := hr
  have hmm := @run_makeMap Tryz.prog
  have HX := Lib.hid hx
  clear hx
  go_enter Tryz.func69, Tryz.ntmps69
  go_wp2_with fail
  clear hmm
  go_loopg [11] l.length (fun gk vi wr => ∃ i : Nat, vi = .int .i64 (i : Int) ∧ i ≤ l.length ∧ l.length - i ≤ gk ∧ Hid (Low w wr) ∧ Hid (MapAt keyUs wr w.heap.size i (fS (l.take i))))
  case atStart => exact ⟨0, rfl, Nat.zero_le _, Nat.le_refl _, Lib.hid (by exact (Low.of_below ((Below.refl _ _).alloc (Nat.le_refl _) _))), Lib.hid ((MapAt.made keyUs w).congr fun _ => rfl)⟩
  case round =>
    obtain ⟨i, rfl, hi, hg, L, M⟩ := hrel
    by_cases hlt : i < l.length
    · have zl : (i : Int) < (l.length : Int) := by omega
      obtain ⟨b, o, rfl, hcs⟩ := HX.out i hlt
      obtain ⟨e0, e1, e2, e3, e4, e5, e6, e7, e8, e9, e10⟩ := cells11 (L.out.cells hcs)
      clear hcs
      obtain ⟨s, hs⟩ : ∃ s, s = l[i] := ⟨_, rfl⟩
      have HT := Lib.hid (show l.take (i + 1) = l.take i ++ [s] by rw [hs, List.take_succ_eq_append_getElem hlt])
      rw [← hs] at e0 e1 e2 e3 e4 e5 e6 e7 e8 e9 e10
      clear hs
      have M2 := Lib.hid (show MapAt keyUs (wr.alloc (.cells s.cs.toArray 71)) w.heap.size i (fS (l.take i)) from M.out.block ((Gr.alloc (Gr.refl wr) _).low.2.2.2 _ M.out.lt))
      have L2 := Lib.hid (show Low w (wr.alloc (.cells s.cs.toArray 71)) from L.out.trans (Gr.alloc (Gr.refl wr) _).low)
      cases hq : (fS (l.take i) s.u).isSome with
      | true =>
        have HQ := Lib.hid hq
        clear hq
        go_wp2_with (at_lookup; refine at_lookOk rfl _ _ _ rfl keyedUs Tryz.underlying105 (zeroUs _) rfl M2.out s.u rfl _ true rfl HQ.out ?_)
        go_roundg (l.length - (i + 1))
        case measure => omega
        case rel => exact ⟨i + 1, by go_num, by omega, by omega, L2, Lib.hid (by rw [HT.out, fS_there HQ.out]; exact M2.out.mono (Nat.le_succ _))⟩
      | false =>
        have HQ := Lib.hid hq
        clear hq
        go_wp2_with (first
          | (at_lookup; refine at_lookOk rfl _ _ _ rfl keyedUs Tryz.underlying105 (zeroUs _) rfl M2.out s.u rfl _ false rfl HQ.out ?_)
          | (at_mapUpdate; refine at_store rfl _ _ _ _ rfl keyedUs Tryz.underlying105 rfl M2.out (by unfold maxLen; omega) s.u rfl s.p rfl ?_; intro w1 M3 T3))
        have M4 := Lib.hid M3
        have L4 := Lib.hid (L2.out.turned T3 (Nat.le_refl _))
        clear M3 T3
        go_wp2_with fail
        go_roundg (l.length - (i + 1))
        case measure => omega
        case rel => exact ⟨i + 1, by go_num, by omega, by omega, L4, Lib.hid (by rw [HT.out, fS_new HQ.out]; exact M4.out)⟩
    · have zl : ¬ (i : Int) < (l.length : Int) := by omega
      go_wp2_with fail
      go_ret
      obtain rfl : i = l.length := by omega
      exact ⟨_, rfl, Nat.le_refl _, by have := M.out; rwa [List.take_length] at this, L.out⟩
end Go.Proofs.YtnenjgngahipdaaGreat
namespace Go.Proofs.YtnenjgngahipdaaGreat
open Go.RowKit Go.Maps
set_option linter.unusedVariables false
theorem s_info : (Tryz.prog.info? 9).map (fun i => (i.zero, i.size, i.bytes)) = some (some (.string ⟨#[]⟩), 1, 16) := by kernel_rfl
def encS (x : Nm) : List Value := [.string x.s]
theorem encS_len (x : Nm) : (encS x).length = 1 := rfl
theorem encS_one (x : Nm) : ∀ u ∈ encS x, u.oneCell' = true := by
  intro u hu
  simp [encS] at hu
  rw [hu]; rfl
abbrev OwnN (B : Nat) (w : World) (v : Value) (l : List Nm) : Prop := OwnR 9 1 encS B w v l
theorem low_setN {B : Nat} {w a b : World} (h : Low w a) (k : RowKit.Below B a b) (hB : w.heap.size ≤ B) : Low w b :=
  ⟨k.os.trans h.1, k.output.trans h.2.1, Nat.le_trans h.2.2.1 k.size, fun i hi => (k.block i (Nat.lt_of_lt_of_le hi hB)).trans (h.2.2.2 i hi)⟩
end Go.Proofs.YtnenjgngahipdaaGreat
namespace Go.Proofs.YtnenjgngahipdaaGreat
section
variable {α : Type} [DecidableEq α]
theorem Kahn.re {P : α → List α} {K M L L' : List α} {c : α → Int} (h : Kahn P K M L c) (e : ∀ n, n ∈ L ↔ n ∈ L') : Kahn P K M L' c :=
  ⟨h.cnt, fun n hn h0 => (e n).1 (h.low n hn h0), fun n hn => h.nil n ((e n).2 hn), h.rnd, h.sub⟩
structure KQ (P : α → List α) (K M L : List α) (i : Nat) (c : α → Int) : Prop where
  k : Kahn P K M (L.drop i) c
  nil : ∀ n ∈ L, c n = 0
  nd : L.Nodup
  pm : (L.take i ++ M).Perm K
  sub : ∀ n ∈ L, n ∈ K
structure KQi (P : α → List α) (K M L : List α) (i : Nat) (c : α → Int) (x : α) (j : Nat) : Prop where
  k : KahnIn P K M (L.drop (i + 1)) c x j
  nil : ∀ n ∈ L, c n = 0
  nd : L.Nodup
  pm : (L.take (i + 1) ++ M.erase x).Perm K
  sub : ∀ n ∈ L, n ∈ K
  xm : x ∈ M
  lx : i < L.length
theorem KQ.take {P : α → List α} {K M L : List α} {i : Nat} {c : α → Int} {x : α} (h : KQ P K M L i c) (hM : M.Nodup) (hx : L[i]? = some x) : KQi P K M L i c x 0 := by
  obtain ⟨hi, e⟩ := List.getElem?_eq_some_iff.1 hx
  have hd : L.drop i = x :: L.drop (i + 1) := by rw [List.drop_eq_getElem_cons hi, e]
  have hxK : x ∈ K := h.sub x (e ▸ List.getElem_mem hi)
  have hxt : x ∉ L.take i := fun hm => by
    obtain ⟨k, hk, e2⟩ := List.getElem_of_mem hm
    have hk2 : k < i := by simp at hk; omega
    rw [List.getElem_take] at e2
    have := (List.nodup_iff_pairwise_ne.1 h.nd)
    rw [List.pairwise_iff_getElem] at this
    exact this k i (by omega) hi hk2 (e2.trans e.symm)
  have hxM : x ∈ M := by
    rcases List.mem_append.1 (h.pm.symm.subset hxK) with h1 | h1
    · exact absurd h1 hxt
    · exact h1
  refine ⟨Kahn.take hM (h.k.re (L' := L.drop (i + 1) ++ [x]) fun n => ?_), h.nil, h.nd, ?_, h.sub, hxM, hi⟩
  · rw [hd]; simp [or_comm]
  · rw [List.take_succ_eq_append_getElem hi, e, List.append_assoc]
    exact ((List.perm_cons_erase hxM).symm.append_left _).trans h.pm
theorem KQi.pos {P : α → List α} {K M L : List α} {i j : Nat} {c : α → Int} {x : α} (h : KQi P K M L i c x j) (hj : j < (P x).length) : 0 < c (P x)[j] := by
  have := h.k.cnt (P x)[j]
  rw [if_pos h.xm, List.drop_eq_getElem_cons hj, List.count_cons] at this
  simp at this
  omega
def lowC (c : α → Int) (p : α) : α → Int := fun n => if n = p then c n - 1 else c n
theorem KQi.keep {P : α → List α} {K M L : List α} {i j : Nat} {c : α → Int} {x p : α} (h : KQi P K M L i c x j) (hj : j < (P x).length) (hp : (P x)[j] = p) (h0 : ¬ c p - 1 = 0) : KQi P K M L i (lowC c p) x (j + 1) := by
  have hs := h.k.step h.xm hj
  have hpos := h.pos hj
  rw [hp] at hs hpos
  rw [if_neg h0] at hs
  refine ⟨hs, fun n hn => ?_, h.nd, h.pm, h.sub, h.xm, h.lx⟩
  unfold lowC
  by_cases e : n = p
  · have := h.nil n hn
    rw [e] at this; omega
  · rw [if_neg e]; exact h.nil n hn
theorem KQi.zero {P : α → List α} {K M L : List α} {i j : Nat} {c : α → Int} {x p : α} (h : KQi P K M L i c x j) (hj : j < (P x).length) (hp : (P x)[j] = p) (hK : p ∈ K) (h0 : c p - 1 = 0) : KQi P K M (L ++ [p]) i (lowC c p) x (j + 1) := by
  have hs := h.k.step h.xm hj
  have hpos := h.pos hj
  rw [hp] at hs hpos
  rw [if_pos h0] at hs
  have hpL : p ∉ L := fun hm => by have := h.nil p hm; omega
  have hd : (L ++ [p]).drop (i + 1) = L.drop (i + 1) ++ [p] := List.drop_append_of_le_length (by have := h.lx; omega)
  have ht : (L ++ [p]).take (i + 1) = L.take (i + 1) := List.take_append_of_le_length (by have := h.lx; omega)
  refine ⟨by rw [hd]; exact hs, fun n hn => ?_, ?_, by rw [ht]; exact h.pm, fun n hn => ?_, h.xm, by have := h.lx; simp; omega⟩
  · unfold lowC
    rcases List.mem_append.1 hn with hn | hn
    · rw [if_neg (fun e : n = p => hpL (e ▸ hn))]; exact h.nil n hn
    · simp at hn
      rw [if_pos hn, hn]; exact h0
  · rw [List.nodup_append]
    refine ⟨h.nd, by simp, fun a ha b hb => ?_⟩
    simp at hb
    rw [hb]
    exact fun e => hpL (e ▸ ha)
  · rcases List.mem_append.1 hn with hn | hn
    · exact h.sub n hn
    · simp at hn; rw [hn]; exact hK
theorem KQi.done {P : α → List α} {K M L : List α} {i j : Nat} {c : α → Int} {x : α} (h : KQi P K M L i c x j) (hj : (P x).length ≤ j) : KQ P K (M.erase x) L (i + 1) c :=
  ⟨h.k.done fun _ => hj, h.nil, h.nd, h.pm, h.sub⟩
theorem KQ.len {P : α → List α} {K M L : List α} {i : Nat} {c : α → Int} (h : KQ P K M L i c) : L.length ≤ K.length := len_sub L K h.nd h.sub
theorem KQ.fin {P : α → List α} {K M L : List α} {i : Nat} {c : α → Int} (h : KQ P K M L i c) (hi : L.length ≤ i) : L.length < K.length ↔ ∃ a, Way (fun x y => x ∈ K ∧ y ∈ P x ∧ y ∈ K) a a := by
  have hk := h.k
  rw [List.drop_eq_nil_of_le hi] at hk
  rw [← hk.fin]
  have hl := h.pm.length_eq
  rw [List.take_of_length_le hi, List.length_append] at hl
  constructor
  · intro h1 e
    rw [e] at hl; simp at hl; omega
  · intro h1
    have := List.length_pos_iff.2 h1
    omega
theorem KQ.start {P : α → List α} {K L : List α} {c : α → Int} (h1 : ∀ n, c n = (occ P K n : Int)) (h2 : ∀ n, n ∈ L ↔ n ∈ K ∧ c n = 0) (hn : L.Nodup) : KQ P K K L 0 c :=
  ⟨by rw [List.drop_zero]; exact Kahn.start h1 h2, fun n hn => ((h2 n).1 hn).2, hn, by rw [List.take_zero]; exact List.Perm.refl _, fun n hn => ((h2 n).1 hn).1⟩
end
end Go.Proofs.YtnenjgngahipdaaGreat
namespace Go.Proofs.YtnenjgngahipdaaGreat
open Go.RowKit Go.Maps
set_option linter.unusedVariables false
/-- The counts as a map has them: none is nought. -/
def Cnt (w : World) (b n : Nat) (c : Nm → Int) : Prop := ∃ fc, MapAt keyNm w b n fc ∧ ∀ x, (fc x).getD (.int .i64 0) = .int .i64 (c x)
theorem Cnt.block {w w' : World} {b n : Nat} {c : Nm → Int} (h : Cnt w b n c) (e : w'.heap[b]? = w.heap[b]?) : Cnt w' b n c := by
  obtain ⟨fc, h1, h2⟩ := h
  exact ⟨fc, h1.block e, h2⟩
theorem Cnt.lt {w : World} {b n : Nat} {c : Nm → Int} (h : Cnt w b n c) : b < w.heap.size := by
  obtain ⟨fc, h1, h2⟩ := h
  exact h1.lt
theorem Cnt.store {w : World} {b n : Nat} {c c' : Nm → Int} {y : Nm} {fc : Nm → Option Value} {v : Int} (h2 : ∀ x, (fc x).getD (.int .i64 0) = .int .i64 (c x)) (hM : MapAt keyNm w b n (updF fc y (some (.int .i64 v)))) (hc : ∀ x, c' x = if x = y then v else c x) : Cnt w b n c' := by
  refine ⟨_, hM, fun x => ?_⟩
  rw [hc]
  unfold updF
  by_cases e : x = y
  · rw [if_pos e, if_pos e]; rfl
  · rw [if_neg e, if_neg e]; exact h2 x
theorem RangeAt.block {P : Program} {k : TypeId} {α : Type} {F : KeyF P k α} {w w' : World} {b r n : Nat} {f : α → Option Value} {seen : List α} {cnt : Nat} (h : RangeAt F w b r n f seen cnt) (eb : w'.heap[b]? = w.heap[b]?) (er : w'.heap[r]? = w.heap[r]?) : RangeAt F w' b r n f seen cnt := by
  obtain ⟨D, left, hD, hr, rest⟩ := h
  obtain ⟨es, clock, hb, q⟩ := hD.owns
  obtain ⟨es2, clock2, since, sn, c0, hb2, F2, hs2, hD2, hr2, rest2⟩ := hr
  exact ⟨D, left, ⟨⟨es, clock, eb.trans hb, q⟩, hD.has, hD.at', hD.key, hD.num⟩, ⟨es2, clock2, since, sn, c0, eb.trans hb2, F2, hs2, hD2, er.trans hr2, rest2⟩, rest⟩
/-- All blocks but one are as they were. -/
def But (w w' : World) (m : Nat) : Prop := ∀ k, k < w.heap.size → k ≠ m → w'.heap[k]? = w.heap[k]?
theorem But.of_grown {w b : World} {m : Nat} (ht : w.grownBy b (some m)) : But w b m := fun k hk hne => ht.block k hk (by simpa using hne)
theorem Low.of_range {w a b : World} {m : Nat} (h : Low w a) (ht : a.grownBy b (some m)) (hm : w.heap.size ≤ m) : Low w b :=
  ⟨ht.os.trans h.1, ht.output.trans h.2.1, Nat.le_trans h.2.2.1 ht.size, fun k hk => (ht.block k (Nat.lt_of_lt_of_le hk h.2.2.1) (by simp; omega)).trans (h.2.2.2 k hk)⟩
end Go.Proofs.YtnenjgngahipdaaGreat
namespace Go.Proofs.YtnenjgngahipdaaGreat
open Go.RowKit Go.Maps Go.Sort
def Us.cs (u : Us) : List Value := [.string u.t, .string u.i]
/-- A slice of names. -/
def UsAt (w : World) (r : Value) (l : List Us) : Prop :=
  ∃ ao c, r = .slice ao l.length c ∧ (l.length ≤ c ∧ c ≤ 9223372036854775807) ∧ ∀ j (hj : j < l.length), ∃ b o, ao = some ⟨b, o, none⟩ ∧ CellsAtv w b (o + j * 2) l[j].cs
theorem UsAt.low {w w' : World} {r : Value} {l : List Us} (h : UsAt w r l) (hl : Low w w') : UsAt w' r l := by
  obtain ⟨ao, c, rfl, hc, hx⟩ := h
  refine ⟨ao, c, rfl, hc, fun j hj => ?_⟩
  obtain ⟨b, o, rfl, hs⟩ := hx j hj
  exact ⟨b, o, rfl, hl.cells hs⟩
theorem cells2 {w : World} {b o : Nat} {u : Us} (hc : CellsAtv w b o u.cs) : w.cell? ⟨b, o, none⟩ = some (.string u.t) ∧ w.cell? ⟨b, o + 1, none⟩ = some (.string u.i) := ⟨hc 0 _ rfl, hc 1 _ rfl⟩
/-- A count as an entry: none where it is nought. -/
def cntV (l : List Us) (x : Us) : Option Value := if l.count x = 0 then none else some (.int .i64 (l.count x : Int))
theorem cntV_get (l : List Us) (x : Us) : (cntV l x).getD (.int .i64 0) = .int .i64 (l.count x : Int) := by
  unfold cntV
  split
  · rename_i h; rw [h]; rfl
  · rfl
theorem cntV_more (l : List Us) (u : Us) : cntV (l ++ [u]) = updF (cntV l) u (some (.int .i64 ((l.count u : Int) + 1))) := by
  funext x
  unfold updF cntV
  rw [List.count_append, List.count_singleton]
  by_cases e : x = u
  · rw [if_pos e, e]; simp
  · have : (u == x) = false := by simpa using fun h => e h.symm
    rw [if_neg e, this]; simp
theorem zeroIv (w : World) : (zeroValue 3).run Tryz.prog w = .ok (.int .i64 0) w := by kernel_rfl
/-- The rows under the names of a map. -/
structure RowsAt (w : World) (f : Us → Option Value) (g : Us → List Us) : Prop where
  row : ∀ u v, f u = some v → UsAt w v (g u)
  few : ∀ seen : List Us, seen.Nodup → (∀ a ∈ seen, (f a).isSome = true) → (seen.flatMap g).length ≤ 100000
/-- What stepsTo answers. -/
def StepPv (f : Us → Option Value) (g : Us → List Us) (w : World) (e : Ending) (w' : World) : Prop := ∃ (b n : Nat) (ks : List Us), e = .returned (.map (some b)) ∧ w.heap.size ≤ b ∧ ks.Nodup ∧ (∀ a, a ∈ ks ↔ (f a).isSome = true) ∧ n ≤ 100000 ∧ MapAt keyUs w' b n (cntV (ks.flatMap g)) ∧ Low w w'
/-- All blocks but one are as they were. -/
def Butv (w w' : World) (m : Nat) : Prop := ∀ k, k < w.heap.size → k ≠ m → w'.heap[k]? = w.heap[k]?
theorem Butv.of {w a b : World} {m : Nat} (h : Low w a) (ht : a.mapTurned b m) : Butv w b m := by
  obtain ⟨es, cl, es', cl', hb, rfl⟩ := ht
  intro k hk hne
  rw [← h.2.2.2 k hk]
  exact ChangeMaps.heap_setBlock_other hb _ hne
theorem Butv.of_grown {w b : World} {m : Nat} (ht : w.grownBy b (some m)) : Butv w b m := fun k hk hne => ht.block k hk (by simpa using hne)
set_option maxHeartbeats 1600000 in
theorem step_cv (f : Us → Option Value) (g : Us → List Us) (w : World) (b n : Nat) (hM : MapAt keyUs w b n f) (hR : RowsAt w f g) : Calls Tryz.prog 108 #[.map (some b)] w (StepPv f g w) := by
  have hmm := @run_makeMap Tryz.prog
  have HM := Lib.hid hM
  have HR := Lib.hid hR
  clear hM hR
  go_enter Tryz.func108, Tryz.ntmps108
  go_wp2_with (first
    | (at_range; refine at_rangeM rfl _ _ rfl keyedUs Tryz.underlying105 rfl (HM.out.block ((Gr.alloc (Gr.refl w) _).low.2.2.2 _ HM.out.lt)) ?_; intro w1 cnt0 R1 G1 S1))
  have hsz : (w.alloc (Obj.map #[] 0)).heap.size = w.heap.size + 1 := by simp
  rw [hsz] at R1
  have HR1 := Lib.hid R1
  have M1 : MapAt keyUs w1 w.heap.size 0 (cntV []) := ((MapAt.made keyUs w).block (G1.block _ (by simp) (by simp))).congr fun _ => rfl
  have HM1 := Lib.hid M1
  have HL1 := Lib.hid (show Low w w1 from by
    have := (Gr.alloc (Gr.refl w) (.map #[] 0)).low
    exact ⟨G1.os.trans this.1, G1.output.trans this.2.1, Nat.le_trans this.2.2.1 G1.size, fun k hk => (G1.block k (Nat.lt_of_lt_of_le hk this.2.2.1) (by simp)).trans (this.2.2.2 k hk)⟩)
  have hbw := HM.out.lt
  clear R1 M1 G1 S1
  go_frame
  rw [hsz]
  clear hsz
  go_loopg [11] cnt0 (fun gk _ wr => ∃ (seen : List Us) (cnt m : Nat), cnt ≤ gk ∧ Hid (RangeAt keyUs wr b (w.heap.size + 1) n f seen cnt) ∧ Hid (Low w wr) ∧ m ≤ (seen.flatMap g).length ∧ Hid (MapAt keyUs wr w.heap.size m (cntV (seen.flatMap g))))
  case atStart => exact ⟨[], cnt0, 0, Nat.le_refl _, HR1, HL1, Nat.le_refl _, HM1⟩
  case round =>
    clear HR1 HL1 HM1
    obtain ⟨seen, cnt, m, hck, RR, LL, hm, MM⟩ := hrel
    go_wp2_with (at_next; go_loud (refine at_nextM rfl _ rfl keyedUs (fun c : Option Addr × Nat × Nat => .slice c.1 c.2.1 c.2.2) (fun u v hv => by obtain ⟨ao, c, rfl, _⟩ := HR.out.row u v hv; exact ⟨(ao, _, c), rfl⟩) rfl RR.out ?_ ?_))
    · intro hall
      go_wp2_with fail
      go_ret
      obtain ⟨_, _, _, _, h1, h2, _⟩ := RR.out
      exact ⟨_, m, seen, rfl, Nat.le_refl _, h1, fun a => ⟨h2 a, hall a⟩, Nat.le_trans hm (HR.out.few seen h1 h2), MM.out, LL.out⟩
    · intro u ao ln cp w2 cnt2 hfu hns R2 hlt2 G2 S2 hen
      have hW := HR.out.row u _ hfu
      obtain ⟨ao', cp', hv, ⟨hl1, hl2⟩, hx⟩ := hW
      injection hv with hv1 hv2 hv3
      subst hv1 hv2 hv3
      have HX := Lib.hid hx
      have HN := Lib.hid hns
      have HF := Lib.hid hfu
      have HR2 := Lib.hid R2
      have HL2 := Lib.hid (LL.out.of_range G2 (by simp))
      have HM2 := Lib.hid (MM.out.block (Butv.of_grown G2 _ MM.out.lt (by simp)))
      clear hx hns hfu R2 G2 S2
      go_wp2_with fail
      go_loopg [17] (g u).length (fun gj vj wr => ∃ (j m' : Nat), vj = .int .i64 (j : Int) ∧ j ≤ (g u).length ∧ (g u).length - j ≤ gj ∧ Hid (RangeAt keyUs wr b (w.heap.size + 1) n f (seen ++ [u]) cnt2) ∧ Hid (Low w wr) ∧ m' ≤ (seen.flatMap g).length + j ∧ Hid (MapAt keyUs wr w.heap.size m' (cntV (seen.flatMap g ++ (g u).take j))))
      case atStart => exact ⟨0, m, rfl, Nat.zero_le _, Nat.le_refl _, HR2, HL2, by omega, Lib.hid (by rw [List.take_zero, List.append_nil]; exact HM2.out)⟩
      case round =>
        clear HR2 HL2 HM2
        obtain ⟨j, m', rfl, hj, hgj, RJ, LJ, hm', MJ0⟩ := hrel
        obtain ⟨L, hL⟩ : ∃ L, Hid (L = seen.flatMap g ++ (g u).take j) := ⟨_, Lib.hid rfl⟩
        have MJ := Lib.hid (show MapAt keyUs wr w.heap.size m' (cntV L) by rw [hL.out]; exact MJ0.out)
        clear MJ0
        by_cases hlt : j < (g u).length
        · have zl : (j : Int) < ((g u).length : Int) := by omega
          obtain ⟨pb, po, rfl, hcs⟩ := HX.out j hlt
          obtain ⟨e0, e1⟩ := cells2 (LJ.out.cells hcs)
          clear hcs
          obtain ⟨p, hp⟩ : ∃ p, p = (g u)[j] := ⟨_, rfl⟩
          have HT := Lib.hid (show (g u).take (j + 1) = (g u).take j ++ [p] by rw [hp, List.take_succ_eq_append_getElem hlt])
          rw [← hp] at e0 e1
          clear hp
          have LW : Low wr (wr.alloc (.cells #[.string p.t, .string p.i] 23)).drew := (Gr.drew (Gr.alloc (Gr.refl wr) _)).low
          have M0 : MapAt keyUs (wr.alloc (.cells #[.string p.t, .string p.i] 23)).drew w.heap.size m' (cntV L) := MJ.out.block (LW.2.2.2 _ MJ.out.lt)
          have hnd : (seen ++ [u]).Nodup ∧ ∀ a ∈ seen ++ [u], (f a).isSome = true := by
            obtain ⟨_, _, _, _, h1, h2, _⟩ := RJ.out
            exact ⟨h1, h2⟩
          have hfew := HR.out.few (seen ++ [u]) hnd.1 hnd.2
          rw [List.flatMap_append, List.length_append] at hfew
          simp only [List.flatMap_cons, List.flatMap_nil, List.append_nil] at hfew
          have hLl : L.length ≤ 100000 := by rw [hL.out, List.length_append, List.length_take]; omega
          clear hnd
          obtain ⟨v0, st, w3, hent, hlk3, ht3, hst⟩ := M0.entry lawUs Tryz.underlying137 zeroIv (by unfold maxLen; omega) p
          have hlk0 := M0.look keyedUs Tryz.underlying137 (zeroIv _) p
          rw [cntV_get] at hlk0 hlk3
          obtain ⟨q, hq⟩ : ∃ q, q = L.count p := ⟨_, rfl⟩
          rw [← hq] at hlk0 hlk3
          have HQ := Lib.hid hq
          have hql : q ≤ 100000 := by rw [hq]; exact Nat.le_trans List.count_le_length hLl
          clear hq
          obtain ⟨w4, hst4, M4, ht4⟩ := hst (.int .i64 ((q : Int) + 1))
          have hqw : IntKind.wrap .i64 ((q : Int) + 1) = (q : Int) + 1 := by rw [IntKind.wrap_i64]; omega
          have HM4 := Lib.hid M4
          have HT4 := Lib.hid ht4
          clear M4 ht4 hst M0 ht3
          simp only [keyUs, usV] at hent hlk3 hlk0
          simp only [goInt] at hst4 hent
          go_wp2_with fail
          go_region
          all_goals
            go_wp2_with fail
            go_roundg ((g u).length - (j + 1))
            case measure => omega
            case rel =>
              have hb3 := Butv.of (Gr.refl (wr.alloc (.cells #[.string p.t, .string p.i] 23)).drew).low HT4.out
              refine ⟨j + 1, m' + 1, by go_num, by omega, by omega, Lib.hid (RJ.out.block ?_ ?_), Lib.hid ((LJ.out.trans LW).turned HT4.out (Nat.le_refl _)), by omega, Lib.hid ?_⟩
              · rw [hb3 _ (Nat.lt_of_lt_of_le RJ.out.lt.2.1 LW.2.2.1) (by omega), LW.2.2.2 _ RJ.out.lt.2.1]
              · rw [hb3 _ (Nat.lt_of_lt_of_le RJ.out.lt.1 LW.2.2.1) (by omega), LW.2.2.2 _ RJ.out.lt.1]
              · have hLL : seen.flatMap g ++ (g u).take (j + 1) = L ++ [p] := by rw [HT.out, hL.out, List.append_assoc]
                rw [hLL, cntV_more, ← HQ.out]
                exact HM4.out
        · have zl : ¬ (j : Int) < ((g u).length : Int) := by omega
          go_wp2_with fail
          go_roundg cnt2
          case measure => omega
          case rel =>
            have hjl : j = (g u).length := by omega
            refine ⟨seen ++ [u], cnt2, m', Nat.le_refl _, RJ, LJ, ?_, Lib.hid ?_⟩
            · rw [List.flatMap_append, List.length_append]; simp only [List.flatMap_cons, List.flatMap_nil, List.append_nil]; omega
            · have hLL : (seen ++ [u]).flatMap g = L := by rw [hL.out, hjl, List.take_length]; simp [List.flatMap_append]
              rw [hLL]; exact MJ.out
end Go.Proofs.YtnenjgngahipdaaGreat
namespace Go.Proofs.YtnenjgngahipdaaGreat
open Go.RowKit Go.Sort
/-- What few answers. -/
def FewPv (v : V) (d : Int) (w : World) (e : Ending) (w' : World) : Prop := ∃ b : Bool, e = .returned (.bool b) ∧ (b = true → Smv v ∧ (dep v : Int) + d ≤ 61) ∧ Gr w w'
/-- What size answers: some number. -/
def SizePv (w : World) (e : Ending) (w' : World) : Prop := ∃ n : Int, e = .returned (.int .i64 n) ∧ Gr w w'
end Go.Proofs.YtnenjgngahipdaaGreat
namespace Go.Proofs.YtnenjgngahipdaaGreat
open Go.RowKit Go.Sort
/-- .. behind a new block too. -/
theorem cells8a {w : World} {b o : Nat} {h : Hd} {it nm : Value} (hc : CellsAtv w b o (hdc h it nm)) :
    (∀ x, (w.alloc x).cell? ⟨b, o, none⟩ = some (.int .i64 h.k)) ∧ (∀ x, (w.alloc x).cell? ⟨b, o + 1, none⟩ = some (.bool h.b)) ∧ (∀ x, (w.alloc x).cell? ⟨b, o + 2, none⟩ = some (.int .i64 h.n)) ∧
    (∀ x, (w.alloc x).cell? ⟨b, o + 3, none⟩ = some (.string h.s)) ∧ (∀ x, (w.alloc x).cell? ⟨b, o + 4, none⟩ = some (.string h.t)) ∧ (∀ x, (w.alloc x).cell? ⟨b, o + 5, none⟩ = some (.string h.i)) ∧
    (∀ x, (w.alloc x).cell? ⟨b, o + 6, none⟩ = some it) ∧ (∀ x, (w.alloc x).cell? ⟨b, o + 7, none⟩ = some nm) :=
  have k : ∀ x, CellsAtv (w.alloc x) b o (hdc h it nm) := fun x => (Gr.alloc (Gr.refl w) x).low.cells hc
  ⟨fun x => k x 0 _ rfl, fun x => k x 1 _ rfl, fun x => k x 2 _ rfl, fun x => k x 3 _ rfl, fun x => k x 4 _ rfl, fun x => k x 5 _ rfl, fun x => k x 6 _ rfl, fun x => k x 7 _ rfl⟩
/-- A value in memory, wherever. -/
def R (w : World) (v : V) (it nm : Value) : Prop := Rep (fun _ => True) w v it nm
def Ro (w : World) (l : List V) (it : Value) : Prop := RowAt (fun _ => True) w l it
theorem R.low {w w' : World} {v : V} {it nm : Value} (hr : R w v it nm) (h : Low w w') : R w' v it nm := Rep.low hr h
theorem Ro.low {w w' : World} {l : List V} {it : Value} (hr : Ro w l it) (h : Low w w') : Ro w' l it := RowAt.low hr h
theorem Rep.any {A : Nat → Prop} {w : World} {v : V} {it nm : Value} (hr : Rep A w v it nm) : R w v it nm := Rep.to (fun _ _ _ => ⟨trivial, rfl⟩) v hr
theorem RowAt.any {A : Nat → Prop} {w : World} {l : List V} {it : Value} (hr : RowAt A w l it) : Ro w l it := RowAt.to (fun _ _ _ => ⟨trivial, rfl⟩) hr
/-- What an order answers. -/
def OrdC (f : Nat) (x y : V) : Prop := ∀ (w : World) (it nm it' nm' : Value), R w x it nm → R w y it' nm' →
  Calls Tryz.prog f #[avv x.h it nm, avv y.h it' nm'] w fun e w' => e = .returned (.int .i64 (ord x y)) ∧ Gr w w'
theorem retIv {a b : Int} (h : a = b) : Ending.returned (.int .i64 b) = .returned (.int .i64 a) := by rw [h]
theorem drop_consv {α : Type} {l : List α} {i : Nat} (h : i < l.length) : l.drop i = l[i] :: l.drop (i + 1) := List.drop_eq_getElem_cons h
/-- An item's cells, and what they lead to, in whatever world behind. -/
theorem r_slices {w : World} {x : V} {it nm : Value} (h : R w x it nm) : ∃ ai ci an cn, it = .slice ai x.l.length ci ∧ nm = .slice an x.ns.length cn := by
  obtain ⟨-, ⟨an, cn, rfl, -⟩, ai, ci, rfl, -⟩ := rep_v.1 h
  exact ⟨_, _, _, _, rfl, rfl⟩
theorem ro_at {w : World} {l : List V} {ao : Option Addr} {n cap i : Nat} (hr : Ro w l (.slice ao n cap)) (hi : i < l.length) : ∃ b o ai ci an cn, ao = some ⟨b, o, none⟩ ∧
    CellsAtv w b (o + i * 8) (hdc l[i].h (.slice ai l[i].l.length ci) (.slice an l[i].ns.length cn)) ∧ R w l[i] (.slice ai l[i].l.length ci) (.slice an l[i].ns.length cn) := by
  obtain ⟨ai, ci, he, hli, hx⟩ := hr
  simp only [Value.slice.injEq] at he
  obtain ⟨rfl, rfl, rfl⟩ := he
  rcases hx with h0 | ⟨b, o, rfl, ha, hf⟩
  · rw [h0] at hi; exact absurd hi (Nat.not_lt_zero _)
  · obtain ⟨it, nm, hcs, hrx⟩ := repF_at hf i hi
    obtain ⟨ai, ci, an, cn, rfl, rfl⟩ := r_slices hrx
    exact ⟨b, o, ai, ci, an, cn, rfl, hcs, hrx⟩
set_option maxHeartbeats 1600000 in
theorem cmpF_c (l m : List V) (ih : ∀ x ∈ l, ∀ y ∈ m, OrdC 111 x y) (w : World) (it it' : Value) (hl : Ro w l it) (hm : Ro w m it') :
    Calls Tryz.prog 172 #[it, it', .func (.func 111) #[] #[]] w fun e w' => e = .returned (.int .i64 (ordL l m)) ∧ Gr w w' := by
  obtain ⟨al, cl, rfl, ⟨zl, zl'⟩, -⟩ := id hl
  obtain ⟨am, cm, rfl, ⟨zm, zm'⟩, -⟩ := id hm
  have HL := Lib.hid hl
  have HM := Lib.hid hm
  have HI := Lib.hid ih
  clear hl hm ih
  obtain ⟨r, hr⟩ : ∃ r, r = ordL l m := ⟨_, rfl⟩
  have HR := Lib.hid hr
  rw [← hr]
  clear hr
  go_enter Tryz.func172, Tryz.ntmps172
  go_wp2_with fail
  go_loopg [13] l.length (fun gk vi wr => ∃ i : Nat, vi = .int .i64 (i : Int) ∧ i ≤ l.length ∧ i ≤ m.length ∧ l.length - i ≤ gk ∧ Hid (Gr w wr) ∧ Hid (r = ordL (l.drop i) (m.drop i)))
  case atStart => exact ⟨0, rfl, Nat.zero_le _, Nat.zero_le _, Nat.le_refl _, Lib.hid (Gr.refl _), HR⟩
  case round =>
    obtain ⟨i, rfl, hi, hi', hg, G, K⟩ := hrel
    by_cases hlt : i < l.length
    · have z1 : (i : Int) < (l.length : Int) := by omega
      obtain ⟨b, o, ai, ci, an, cn, rfl, hcs, hrx⟩ := ro_at (HL.out.low G.out.low) hlt
      obtain ⟨e0, e1, e2, e3, e4, e5, e6, e7⟩ := cells8 hcs
      have HR := Lib.hid hrx
      clear hcs hrx
      by_cases hlm : i < m.length
      · have z2 : (i : Int) < (m.length : Int) := by omega
        obtain ⟨b', o', ai', ci', an', cn', rfl, hcs', hrx'⟩ := ro_at (HM.out.low G.out.low) hlm
        obtain ⟨d0, d1, d2, d3, d4, d5, d6, d7⟩ := cells8a hcs'
        have HR' := Lib.hid hrx'
        clear hcs' hrx'
        have W2 := Gr.alloc (Gr.alloc G.out (.cells #[.int .i64 l[i].h.k, .bool l[i].h.b, .int .i64 l[i].h.n, .string l[i].h.s, .string l[i].h.t, .string l[i].h.i, .slice ai l[i].l.length ci, .slice an l[i].ns.length cn] 27)) (.cells #[.int .i64 m[i].h.k, .bool m[i].h.b, .int .i64 m[i].h.n, .string m[i].h.s, .string m[i].h.t, .string m[i].h.i, .slice ai' m[i].l.length ci', .slice an' m[i].ns.length cn'] 27)
        have W1 := Gr.alloc (Gr.alloc (Gr.refl wr) (.cells #[.int .i64 l[i].h.k, .bool l[i].h.b, .int .i64 l[i].h.n, .string l[i].h.s, .string l[i].h.t, .string l[i].h.i, .slice ai l[i].l.length ci, .slice an l[i].ns.length cn] 27)) (.cells #[.int .i64 m[i].h.k, .bool m[i].h.b, .int .i64 m[i].h.n, .string m[i].h.s, .string m[i].h.t, .string m[i].h.i, .slice ai' m[i].l.length ci', .slice an' m[i].ns.length cn'] 27)
        have hcon := HI.out l[i] (List.getElem_mem hlt) m[i] (List.getElem_mem hlm) _ _ _ _ _ (HR.out.low W1.low) (HR'.out.low W1.low)
        have HW := Lib.hid W2
        have HC := Lib.hid hcon
        clear W1 W2 hcon
        obtain ⟨c, hc⟩ : ∃ c, c = ord l[i] m[i] := ⟨_, rfl⟩
        rw [← hc] at HC
        have HE := Lib.hid hc
        clear hc
        have hst : r = orI c (ordL (l.drop (i + 1)) (m.drop (i + 1))) := by rw [HE.out, ← ordL_cons, ← drop_consv hlt, ← drop_consv hlm]; exact K.out
        have HS := Lib.hid hst
        clear hst
        go_wp2_with fail
        refine HC.out.mono ?_
        rintro e w' ⟨rfl, g⟩
        by_cases h0 : c = 0
        · subst h0
          have HS' : Hid (r = ordL (l.drop (i + 1)) (m.drop (i + 1))) := HS
          go_wp2_with fail
          go_roundg (l.length - (i + 1))
          case measure => omega
          case rel => exact ⟨i + 1, by go_num, by omega, by omega, by omega, Lib.hid (HW.out.trans g), HS'⟩
        · have hr : r = c := by rw [HS.out, orI, if_neg h0]
          go_wp2_with fail
          go_ret
          exact ⟨retIv hr, HW.out.trans g⟩
      · have z2 : ¬ (i : Int) < (m.length : Int) := by omega
        have W2 := Gr.alloc G.out (.cells #[.int .i64 l[i].h.k, .bool l[i].h.b, .int .i64 l[i].h.n, .string l[i].h.s, .string l[i].h.t, .string l[i].h.i, .slice ai l[i].l.length ci, .slice an l[i].ns.length cn] 27)
        have hr : r = 1 := by
          rw [K.out, drop_consv hlt, List.drop_eq_nil_of_le (show m.length ≤ i by omega), ordL_cons_nil]
        have HW := Lib.hid W2
        have HQ := Lib.hid hr
        clear W2 hr
        go_wp2_with fail
        go_ret
        exact ⟨retIv HQ.out, HW.out⟩
    · have z1 : ¬ (i : Int) < (l.length : Int) := by omega
      by_cases hlm : l.length < m.length
      · have z2 : (l.length : Int) < (m.length : Int) := by omega
        have hr : r = -1 := by
          rw [K.out, List.drop_eq_nil_of_le (show l.length ≤ i by omega), drop_consv (show i < m.length by omega), ordL_nil_cons]
        have HQ := Lib.hid hr
        clear hr
        go_wp2_with fail
        go_ret
        exact ⟨retIv HQ.out, G.out⟩
      · have z2 : ¬ (l.length : Int) < (m.length : Int) := by omega
        have hr : r = 0 := by
          rw [K.out, List.drop_eq_nil_of_le (show l.length ≤ i by omega), List.drop_eq_nil_of_le (show m.length ≤ i by omega), ordL_nil]
        have HQ := Lib.hid hr
        clear hr
        go_wp2_with fail
        go_ret
        exact ⟨retIv HQ.out, G.out⟩
end Go.Proofs.YtnenjgngahipdaaGreat
