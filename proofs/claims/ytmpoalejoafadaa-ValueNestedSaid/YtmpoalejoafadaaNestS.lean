/- A value in any number of sets is that much deeper, and may be just up to the depth that is allowed. No condition. -/
import Derived.Test.YtmpoalejoafadaaOpenV
import Derived.Test.YtmpoalejoafadaaNestP
namespace Go.Proofs.Ytmpoalejoafadaa
open Go.RowKit Go.Sort
theorem low_box {w wr : World} {c0 c1 c2 c3 c4 c5 c6 c7 : Value} {t : TypeId} (h : Low (w.alloc (.cells #[c0, c1, c2, c3, c4, c5, c6, c7] t)) wr) :
    wr.cell? ⟨w.heap.size, 0, none⟩ = some c0 ∧ wr.cell? ⟨w.heap.size, 1, none⟩ = some c1 ∧ wr.cell? ⟨w.heap.size, 2, none⟩ = some c2 ∧ wr.cell? ⟨w.heap.size, 3, none⟩ = some c3 ∧ wr.cell? ⟨w.heap.size, 4, none⟩ = some c4 ∧ wr.cell? ⟨w.heap.size, 5, none⟩ = some c5 ∧ wr.cell? ⟨w.heap.size, 6, none⟩ = some c6 ∧ wr.cell? ⟨w.heap.size, 7, none⟩ = some c7 := by
  obtain ⟨a0, a1, a2, a3, a4, a5, a6, a7⟩ := gr_box (Gr.refl (w.alloc (.cells #[c0, c1, c2, c3, c4, c5, c6, c7] t)))
  exact ⟨h.keep a0, h.keep a1, h.keep a2, h.keep a3, h.keep a4, h.keep a5, h.keep a6, h.keep a7⟩
theorem dep_cn_n (n : Nat) : ∀ v : V, dep v ≤ n → Cn v → dep v = dpt v := by
  induction n with
  | zero => intro v h; rw [dep_v] at h; omega
  | succ n ih =>
    intro v hd h
    have hL : (∀ x ∈ v.l, Cn x) → depL v.l = dptL v.l := fun hx => by
      have key : ∀ l : List V, (∀ x ∈ l, dep x ≤ n ∧ Cn x) → depL l = dptL l := by
        intro l
        induction l with
        | nil => intro _; rfl
        | cons y l ihl => intro hl; rw [depL, dptL, ih y (hl y (by simp)).1 (hl y (by simp)).2, ihl fun x hx => hl x (by simp [hx])]
      exact key v.l fun x hx' => ⟨by have := dep_mem hx'; rw [dep_v] at hd; omega, hx x hx'⟩
    rw [dep_v, dpt_v]
    unfold V.nest
    rw [cn_v] at h
    rcases h with ⟨e, l, _⟩ | ⟨e, l, _⟩ | ⟨e, l, _⟩ | ⟨e, l, _⟩ | ⟨e, _, l⟩ | ⟨e, _, l⟩ <;> have k := kd e
    · rw [l]; simp [depL, dptL]
    · rw [l]; simp [depL, dptL]
    · rw [l]; simp [depL, dptL]
    · rw [l]; simp [depL, dptL]
    · rw [if_pos (.inl k), hL l]
    · rw [if_pos (.inr k), hL l]
theorem dep_cn {v : V} (h : Cn v) : dep v = dpt v := dep_cn_n (dep v) v (Nat.le_refl _) h
theorem put8 {w : World} {r : Nat} {c0 c1 c2 c3 c4 c5 c6 c7 d0 d1 d2 d3 d4 d5 d6 d7 : Value} (h : w.cell? ⟨r, 0, none⟩ = some c0 ∧ w.cell? ⟨r, 1, none⟩ = some c1 ∧ w.cell? ⟨r, 2, none⟩ = some c2 ∧ w.cell? ⟨r, 3, none⟩ = some c3 ∧ w.cell? ⟨r, 4, none⟩ = some c4 ∧ w.cell? ⟨r, 5, none⟩ = some c5 ∧ w.cell? ⟨r, 6, none⟩ = some c6 ∧ w.cell? ⟨r, 7, none⟩ = some c7) :
    ((((((((w.setCell ⟨r, 0, none⟩ d0).setCell ⟨r, 1, none⟩ d1).setCell ⟨r, 2, none⟩ d2).setCell ⟨r, 3, none⟩ d3).setCell ⟨r, 4, none⟩ d4).setCell ⟨r, 5, none⟩ d5).setCell ⟨r, 6, none⟩ d6).setCell ⟨r, 7, none⟩ d7).cell? ⟨r, 0, none⟩ = some d0 ∧ ((((((((w.setCell ⟨r, 0, none⟩ d0).setCell ⟨r, 1, none⟩ d1).setCell ⟨r, 2, none⟩ d2).setCell ⟨r, 3, none⟩ d3).setCell ⟨r, 4, none⟩ d4).setCell ⟨r, 5, none⟩ d5).setCell ⟨r, 6, none⟩ d6).setCell ⟨r, 7, none⟩ d7).cell? ⟨r, 1, none⟩ = some d1 ∧ ((((((((w.setCell ⟨r, 0, none⟩ d0).setCell ⟨r, 1, none⟩ d1).setCell ⟨r, 2, none⟩ d2).setCell ⟨r, 3, none⟩ d3).setCell ⟨r, 4, none⟩ d4).setCell ⟨r, 5, none⟩ d5).setCell ⟨r, 6, none⟩ d6).setCell ⟨r, 7, none⟩ d7).cell? ⟨r, 2, none⟩ = some d2 ∧ ((((((((w.setCell ⟨r, 0, none⟩ d0).setCell ⟨r, 1, none⟩ d1).setCell ⟨r, 2, none⟩ d2).setCell ⟨r, 3, none⟩ d3).setCell ⟨r, 4, none⟩ d4).setCell ⟨r, 5, none⟩ d5).setCell ⟨r, 6, none⟩ d6).setCell ⟨r, 7, none⟩ d7).cell? ⟨r, 3, none⟩ = some d3 ∧ ((((((((w.setCell ⟨r, 0, none⟩ d0).setCell ⟨r, 1, none⟩ d1).setCell ⟨r, 2, none⟩ d2).setCell ⟨r, 3, none⟩ d3).setCell ⟨r, 4, none⟩ d4).setCell ⟨r, 5, none⟩ d5).setCell ⟨r, 6, none⟩ d6).setCell ⟨r, 7, none⟩ d7).cell? ⟨r, 4, none⟩ = some d4 ∧ ((((((((w.setCell ⟨r, 0, none⟩ d0).setCell ⟨r, 1, none⟩ d1).setCell ⟨r, 2, none⟩ d2).setCell ⟨r, 3, none⟩ d3).setCell ⟨r, 4, none⟩ d4).setCell ⟨r, 5, none⟩ d5).setCell ⟨r, 6, none⟩ d6).setCell ⟨r, 7, none⟩ d7).cell? ⟨r, 5, none⟩ = some d5 ∧ ((((((((w.setCell ⟨r, 0, none⟩ d0).setCell ⟨r, 1, none⟩ d1).setCell ⟨r, 2, none⟩ d2).setCell ⟨r, 3, none⟩ d3).setCell ⟨r, 4, none⟩ d4).setCell ⟨r, 5, none⟩ d5).setCell ⟨r, 6, none⟩ d6).setCell ⟨r, 7, none⟩ d7).cell? ⟨r, 6, none⟩ = some d6 ∧ ((((((((w.setCell ⟨r, 0, none⟩ d0).setCell ⟨r, 1, none⟩ d1).setCell ⟨r, 2, none⟩ d2).setCell ⟨r, 3, none⟩ d3).setCell ⟨r, 4, none⟩ d4).setCell ⟨r, 5, none⟩ d5).setCell ⟨r, 6, none⟩ d6).setCell ⟨r, 7, none⟩ d7).cell? ⟨r, 7, none⟩ = some d7 := by
  obtain ⟨e0, e1, e2, e3, e4, e5, e6, e7⟩ := h
  refine ⟨?_, ?_, ?_, ?_, ?_, ?_, ?_, ?_⟩ <;> simp [go_sem, e0, e1, e2, e3, e4, e5, e6, e7]
theorem put8f {w : World} {r : Nat} {d0 d1 d2 d3 d4 d5 d6 d7 : Value} (h : ∀ o, w.frozen? ⟨r, o, none⟩ = false) (o : Nat) :
    ((((((((w.setCell ⟨r, 0, none⟩ d0).setCell ⟨r, 1, none⟩ d1).setCell ⟨r, 2, none⟩ d2).setCell ⟨r, 3, none⟩ d3).setCell ⟨r, 4, none⟩ d4).setCell ⟨r, 5, none⟩ d5).setCell ⟨r, 6, none⟩ d6).setCell ⟨r, 7, none⟩ d7).frozen? ⟨r, o, none⟩ = false := by
  simp [go_sem, h]
/-- A box of the call's own, and the value in it, that doesn't lie in it. -/
structure NestSt (W0 : World) (r : Nat) (w : World) (x : V) (it nm : Value) : Prop where
  lt : r < w.heap.size
  cells : w.cell? ⟨r, 0, none⟩ = some (.int .i64 x.h.k) ∧ w.cell? ⟨r, 1, none⟩ = some (.bool x.h.b) ∧ w.cell? ⟨r, 2, none⟩ = some (.int .i64 x.h.n) ∧ w.cell? ⟨r, 3, none⟩ = some (.string x.h.s) ∧ w.cell? ⟨r, 4, none⟩ = some (.string x.h.t) ∧ w.cell? ⟨r, 5, none⟩ = some (.string x.h.i) ∧ w.cell? ⟨r, 6, none⟩ = some it ∧ w.cell? ⟨r, 7, none⟩ = some nm
  frozen : ∀ o, w.frozen? ⟨r, o, none⟩ = false
  rep : Rep (fun b => b ≠ r) w x it nm
  new : r = W0.heap.size
  low : Low W0 w
theorem NestSt.grown {W0 : World} {r : Nat} {w w' : World} {x : V} {it nm : Value} (h : NestSt W0 r w x it nm) (l : Low w w') (hf : ∀ o, w'.frozen? ⟨r, o, none⟩ = w.frozen? ⟨r, o, none⟩) : NestSt W0 r w' x it nm := by
  obtain ⟨e0, e1, e2, e3, e4, e5, e6, e7⟩ := h.cells
  exact ⟨Nat.lt_of_lt_of_le h.lt l.2.2.1, ⟨l.keep e0, l.keep e1, l.keep e2, l.keep e3, l.keep e4, l.keep e5, l.keep e6, l.keep e7⟩, fun o => (hf o).trans (h.frozen o), h.rep.low l, h.new, h.low.trans l⟩
theorem low_kept {W0 w w' : World} {r : Nat} (h : Low W0 w) (k : KeptBut w w' (some r)) (hr : W0.heap.size ≤ r) : Low W0 w' :=
  ⟨k.1.trans h.1, k.2.1.trans h.2.1, Nat.le_trans h.2.2.1 k.2.2.1, fun b hb => (k.2.2.2 b (Nat.lt_of_lt_of_le hb h.2.2.1) (fun e => by injection e with e; omega)).trans (h.2.2.2 b hb)⟩
theorem nest_step {W0 wr : World} {r : Nat} {x : V} {ai an : Option Addr} {ci cn : Nat} (h : NestSt W0 r wr x (.slice ai x.l.length ci) (.slice an x.ns.length cn)) :
    NestSt W0 r (((((((((wr.alloc (.cells #[.int .i64 x.h.k, .bool x.h.b, .int .i64 x.h.n, .string x.h.s, .string x.h.t, .string x.h.i, (.slice ai x.l.length ci), (.slice an x.ns.length cn)] 27)).setCell ⟨r, 0, none⟩ (.int .i64 5)).setCell ⟨r, 1, none⟩ (.bool false)).setCell ⟨r, 2, none⟩ (.int .i64 0)).setCell ⟨r, 3, none⟩ (.string ⟨#[]⟩)).setCell ⟨r, 4, none⟩ (.string ⟨#[]⟩)).setCell ⟨r, 5, none⟩ (.string ⟨#[]⟩)).setCell ⟨r, 6, none⟩ (.slice (some ⟨wr.heap.size, 0, none⟩) 1 1)).setCell ⟨r, 7, none⟩ (.slice none 0 0)) (wrapV x) (.slice (some ⟨wr.heap.size, 0, none⟩) 1 1) (.slice none 0 0) := by
  have LA : Low wr (wr.alloc (.cells #[.int .i64 x.h.k, .bool x.h.b, .int .i64 x.h.n, .string x.h.s, .string x.h.t, .string x.h.i, (.slice ai x.l.length ci), (.slice an x.ns.length cn)] 27)) := Low.alloc (Low.refl wr) _
  have K := kept8 (wr.alloc (.cells #[.int .i64 x.h.k, .bool x.h.b, .int .i64 x.h.n, .string x.h.s, .string x.h.t, .string x.h.i, (.slice ai x.l.length ci), (.slice an x.ns.length cn)] 27)) r (.int .i64 5) (.bool false) (.int .i64 0) (.string ⟨#[]⟩) (.string ⟨#[]⟩) (.string ⟨#[]⟩) (.slice (some ⟨wr.heap.size, 0, none⟩) 1 1) (.slice none 0 0)
  have g := h.grown LA (fun o => by simp [go_sem, h.lt])
  have hB := low_box (Low.refl (wr.alloc (.cells #[.int .i64 x.h.k, .bool x.h.b, .int .i64 x.h.n, .string x.h.s, .string x.h.t, .string x.h.i, (.slice ai x.l.length ci), (.slice an x.ns.length cn)] 27)))
  have hrs : wr.heap.size ≠ r := fun e => by have := h.lt; omega
  refine ⟨Nat.lt_of_lt_of_le g.lt K.2.2.1, put8 g.cells, put8f g.frozen, ?_, h.new, low_kept g.low K (by rw [h.new]; exact Nat.le_refl _)⟩
  have up : ∀ {o : Nat} {u : Value}, (wr.alloc (.cells #[.int .i64 x.h.k, .bool x.h.b, .int .i64 x.h.n, .string x.h.s, .string x.h.t, .string x.h.i, (.slice ai x.l.length ci), (.slice an x.ns.length cn)] 27)).cell? ⟨wr.heap.size, o, none⟩ = some u → (((((((((wr.alloc (.cells #[.int .i64 x.h.k, .bool x.h.b, .int .i64 x.h.n, .string x.h.s, .string x.h.t, .string x.h.i, (.slice ai x.l.length ci), (.slice an x.ns.length cn)] 27)).setCell ⟨r, 0, none⟩ (.int .i64 5)).setCell ⟨r, 1, none⟩ (.bool false)).setCell ⟨r, 2, none⟩ (.int .i64 0)).setCell ⟨r, 3, none⟩ (.string ⟨#[]⟩)).setCell ⟨r, 4, none⟩ (.string ⟨#[]⟩)).setCell ⟨r, 5, none⟩ (.string ⟨#[]⟩)).setCell ⟨r, 6, none⟩ (.slice (some ⟨wr.heap.size, 0, none⟩) 1 1)).setCell ⟨r, 7, none⟩ (.slice none 0 0)).cell? ⟨wr.heap.size, o, none⟩ = some u := fun hc => cell_to hc fun hb => K.2.2.2 _ hb (fun e => by injection e with e; omega)
  obtain ⟨b0, b1, b2, b3, b4, b5, b6, b7⟩ := hB
  refine rep_v.2 ⟨⟨Nat.zero_le _, Nat.zero_le _, Nat.zero_le _⟩, names_nil _ _, some ⟨wr.heap.size, 0, none⟩, 1, rfl, ⟨Nat.le_refl _, by decide⟩, .inr ⟨wr.heap.size, 0, rfl, hrs, repF_of fun j hj => ?_⟩⟩
  have h0 : j = 0 := by simpa [wrapV, V.l] using hj
  subst h0
  refine ⟨.slice ai x.l.length ci, .slice an x.ns.length cn, fun c u hu => ?_, Rep.to (fun b hb hlt => ⟨hb, K.2.2.2 b hlt (fun e => by injection e with e; exact hb e)⟩) x g.rep⟩
  have hc : c < 8 := by have := (List.getElem?_eq_some_iff.1 hu).1; simpa [hdc] using this
  match c, hc with
  | 0, _ => exact (up b0).trans hu
  | 1, _ => exact (up b1).trans hu
  | 2, _ => exact (up b2).trans hu
  | 3, _ => exact (up b3).trans hu
  | 4, _ => exact (up b4).trans hu
  | 5, _ => exact (up b5).trans hu
  | 6, _ => exact (up b6).trans hu
  | 7, _ => exact (up b7).trans hu
theorem nest_new {w : World} {x : V} {ai an : Option Addr} {ci cn : Nat} (h : R w x (.slice ai x.l.length ci) (.slice an x.ns.length cn)) :
    NestSt w w.heap.size (w.alloc (.cells #[.int .i64 x.h.k, .bool x.h.b, .int .i64 x.h.n, .string x.h.s, .string x.h.t, .string x.h.i, (.slice ai x.l.length ci), (.slice an x.ns.length cn)] 27)) x (.slice ai x.l.length ci) (.slice an x.ns.length cn) :=
  ⟨by simp, low_box (Low.refl _), fun o => by simp [go_sem], Rep.to (fun b _ hb => ⟨Nat.ne_of_lt hb, (Low.alloc (Low.refl w) _).2.2.2 b hb⟩) x h, rfl, Low.alloc (Low.refl w) _⟩
theorem NestSt.behind {W0 w : World} {r : Nat} {x : V} {it nm : Value} (h : NestSt W0 r w x it nm) {w' : World} (l : Low w w') :
    (∀ X, (w'.alloc X).cell? ⟨r, 0, none⟩ = some (.int .i64 x.h.k)) ∧ (∀ X, (w'.alloc X).cell? ⟨r, 1, none⟩ = some (.bool x.h.b)) ∧ (∀ X, (w'.alloc X).cell? ⟨r, 2, none⟩ = some (.int .i64 x.h.n)) ∧ (∀ X, (w'.alloc X).cell? ⟨r, 3, none⟩ = some (.string x.h.s)) ∧ (∀ X, (w'.alloc X).cell? ⟨r, 4, none⟩ = some (.string x.h.t)) ∧ (∀ X, (w'.alloc X).cell? ⟨r, 5, none⟩ = some (.string x.h.i)) ∧ (∀ X, (w'.alloc X).cell? ⟨r, 6, none⟩ = some it) ∧ (∀ X, (w'.alloc X).cell? ⟨r, 7, none⟩ = some nm) := by
  obtain ⟨e0, e1, e2, e3, e4, e5, e6, e7⟩ := h.cells
  exact ⟨fun X => (l.alloc X).keep e0, fun X => (l.alloc X).keep e1, fun X => (l.alloc X).keep e2, fun X => (l.alloc X).keep e3, fun X => (l.alloc X).keep e4, fun X => (l.alloc X).keep e5, fun X => (l.alloc X).keep e6, fun X => (l.alloc X).keep e7⟩
theorem NestSt.free {W0 w : World} {r : Nat} {x : V} {it nm : Value} (h : NestSt W0 r w x it nm) (o : Nat) (X : Obj) : (w.alloc X).frozen? ⟨r, o, none⟩ = false := by
  simp [go_sem, h.lt, h.frozen]
end Go.Proofs.Ytmpoalejoafadaa
