/- What the reference's walk asks of memory. No condition. -/
import Derived.Test.YtnenjgngahipdaaGreatZRCanL
set_option linter.unusedVariables false
set_option linter.unusedSimpArgs false
set_option linter.unnecessarySimpa false
namespace Go.Proofs.YtnenjgngahipdaaGreat
open Go.RowKit Go.Sort
theorem calls_grown {P : Program} {f : FuncId} {args : Array Value} {w : World} {n : Nat} {os : Array Obj} {v : Value}
    (h : Calls P f args (grow (w.drewN n) os) fun e w' => e = .returned v ∧ Gr (grow (w.drewN n) os) w') : Calls P f args (grow (w.drewN n) os) fun e w'' => e = .returned v ∧ ∃ p : GrownBy, w'' = grow (w.drewN p.n) p.os := Calls.grown_of h
theorem outSt_new (w : World) (v : V) (vi vn : Value) (k : Int) (t : TypeId) (ps : List El) (hp : ps = []) :
    OutSt w (((w.alloc (.cells #[.int .i64 v.h.k, .bool v.h.b, .int .i64 v.h.n, .string v.h.s, .string v.h.t, .string v.h.i, vi, vn] t)).alloc (.cells #[.int .i64 0, .bool false, .int .i64 0, .string ⟨#[]⟩, .string ⟨#[]⟩, .string ⟨#[]⟩, .slice none 0 0, .slice none 0 0] t)).alloc (.cells #[.int .i64 k, .bool false, .int .i64 0, .string ⟨#[]⟩, .string ⟨#[]⟩, .string ⟨#[]⟩, .slice none 0 0, .slice none 0 0] t)) v vi vn (.slice none 0 0) ps k (.slice none 0 0) (.slice none 0 0) [] [] := by
  subst hp
  obtain ⟨W1, h1⟩ : ∃ W1, W1 = w.alloc (.cells #[.int .i64 v.h.k, .bool v.h.b, .int .i64 v.h.n, .string v.h.s, .string v.h.t, .string v.h.i, vi, vn] t) := ⟨_, rfl⟩
  have s1 : W1.heap.size = w.heap.size + 1 := by rw [h1]; simp
  have hbox : CellsAtv W1 w.heap.size 0 (hdc v.h vi vn) := by
    intro j u hu
    rw [h1, Nat.zero_add, World.cell?_alloc_mark]
    simpa [hdc] using hu
  have L0 : Low w W1 := h1 ▸ Low.alloc (Low.refl w) _
  rw [← h1]
  obtain ⟨W2, h2⟩ : ∃ W2, W2 = W1.alloc (.cells #[.int .i64 0, .bool false, .int .i64 0, .string ⟨#[]⟩, .string ⟨#[]⟩, .string ⟨#[]⟩, .slice none 0 0, .slice none 0 0] t) := ⟨_, rfl⟩
  have s2 : W2.heap.size = w.heap.size + 2 := by rw [h2]; simp [s1]
  have L1 : Low W1 W2 := h2 ▸ Low.alloc (Low.refl W1) _
  have hres : Res W2 (w.heap.size + 1) := by rw [h2, ← s1]; exact res_new W1 t
  rw [← h2]
  have L2 := Low.alloc (Low.refl W2) (.cells #[.int .i64 k, .bool false, .int .i64 0, .string ⟨#[]⟩, .string ⟨#[]⟩, .string ⟨#[]⟩, .slice none 0 0, .slice none 0 0] t)
  refine ⟨(L1.trans L2).cells hbox, hres.low L2, ?_, OwnR.nil _ _ _ _ _, by simp, OwnR.nil _ _ _ _ _, OwnR.nil _ _ _ _ _, by simp, (L0.trans L1).trans L2⟩
  rw [← s2]
  exact out_new W2 { hd0 with k := k } _ _ t
/-- The items are there: on to the row of them. -/
theorem OutSt.mid {w W W' : World} {v : V} {vi vn a b lv : Value} {ps : List El} {k : Int} {A : Nat → Prop} (h : OutSt w W v vi vn (.slice none 0 0) [] k a b [] []) (l : Low W W') (hs : W.heap.size = w.heap.size + 3) (O : OwnVv W.heap.size W' lv ps)
    (E : ∀ p ∈ ps, ElOk (fun b => W.heap.size ≤ b ∧ A b) W' p) : OutSt w W' v vi vn lv ps k a b [] [] := by
  have g := h.grow l
  exact ⟨g.box, g.res, g.out, hs ▸ O, fun p hp => Rep.to (fun c hc _ => ⟨by have := hc.1; omega, rfl⟩) _ (E p hp), g.its, g.nms, by simp, g.low⟩
theorem own_cells {B : Nat} {w : World} {g cap n : Nat} {l : List El} (h : OwnVv B w (.slice (some ⟨g, 0, none⟩) n cap) l) {j : Nat} (hj : j < l.length) :
    w.cell? ⟨g, j * 8, none⟩ = some (.int .i64 l[j].v.h.k) ∧ w.cell? ⟨g, j * 8 + 1, none⟩ = some (.bool l[j].v.h.b) ∧ w.cell? ⟨g, j * 8 + 2, none⟩ = some (.int .i64 l[j].v.h.n) ∧ w.cell? ⟨g, j * 8 + 3, none⟩ = some (.string l[j].v.h.s) ∧
    w.cell? ⟨g, j * 8 + 4, none⟩ = some (.string l[j].v.h.t) ∧ w.cell? ⟨g, j * 8 + 5, none⟩ = some (.string l[j].v.h.i) ∧ w.cell? ⟨g, j * 8 + 6, none⟩ = some (.slice l[j].ai l[j].v.l.length l[j].ci) ∧ w.cell? ⟨g, j * 8 + 7, none⟩ = some (.slice l[j].an l[j].v.ns.length l[j].cn) := by
  have c := fun q (hq : q < 8) => OwnR.cell encV_lenv h j q hj hq
  exact ⟨c 0 (by decide), c 1 (by decide), c 2 (by decide), c 3 (by decide), c 4 (by decide), c 5 (by decide), c 6 (by decide), c 7 (by decide)⟩
theorem sub_at {ps xs : List El} {p : El} (h : ∀ r ∈ xs, r ∈ ps) (hp : p ∈ ps) (k : Nat) : ∀ r ∈ [] ++ xs.take k ++ [p] ++ xs.drop k, r ∈ ps := fun r hr => by
  rw [List.nil_append] at hr
  rcases List.mem_append.1 hr with hr | hr
  · rcases List.mem_append.1 hr with hr | hr
    · exact h r (List.mem_of_mem_take hr)
    · rw [List.mem_singleton.1 hr]; exact hp
  · exact h r (List.mem_of_mem_drop hr)
theorem sub_at0 {ps xs : List El} {p : El} (h : ∀ r ∈ xs, r ∈ ps) (hp : p ∈ ps) : ∀ r ∈ [] ++ [p] ++ xs.drop 0, r ∈ ps := fun r hr => by
  rcases List.mem_append.1 hr with hr | hr
  · rw [List.nil_append] at hr
    rw [List.mem_singleton.1 hr]; exact hp
  · exact h r (List.mem_of_mem_drop hr)
theorem OwnR.shape2 {α : Type} {e : TypeId} {k : Nat} {enc : α → List Value} {B : Nat} {w : World} {v : Value} {l : List α} (h : OwnR e k enc B w v l) : (v = .slice none 0 0 ∧ l = []) ∨ ∃ g cap, v = .slice (some ⟨g, 0, none⟩) l.length cap ∧ l.length ≤ cap := by
  rcases h.2 with ⟨rfl, hn⟩ | ⟨g, cap, cur, rfl, h1, h2, h3, h4, h5⟩
  · exact .inl ⟨rfl, List.eq_nil_of_length_eq_zero hn⟩
  · exact .inr ⟨g, cap, rfl, h3⟩
section
variable {α : Type} {e : TypeId} {k : Nat} {enc : α → List Value} {B : Nat} {w : World} {g cap n : Nat} {l : List α}
/-- The first ones of a row. -/
theorem src_take (h : OwnR e k enc B w (.slice (some ⟨g, 0, none⟩) n cap) l) (m : Nat) : l.take m = [] ∨ ∃ ad, (some ⟨g, 0, none⟩ : Option Addr) = some ad ∧ ∀ j u, ((l.take m).flatMap enc)[j]? = some u → w.cell? (ad.add j) = some u := by
  refine .inr ⟨_, rfl, fun j u hu => World.ownsRow.cells h (g := g) rfl j u ?_⟩
  have e1 : l.flatMap enc = (l.take m).flatMap enc ++ (l.drop m).flatMap enc := by rw [← List.flatMap_append, List.take_append_drop]
  rw [e1, List.getElem?_append_left (List.getElem?_eq_some_iff.1 hu).1]
  exact hu
/-- .. the others. -/
theorem src_drop (hk : ∀ x, (enc x).length = k) (h : OwnR e k enc B w (.slice (some ⟨g, 0, none⟩) n cap) l) {m : Nat} (hm : m ≤ l.length) (ao : Option Addr) (ho : l.length ≤ m ∨ ao = some ⟨g, m * k, none⟩) : l.drop m = [] ∨ ∃ ad, ao = some ad ∧ ∀ j u, ((l.drop m).flatMap enc)[j]? = some u → w.cell? (ad.add j) = some u := by
  rcases ho with ho | rfl
  · exact .inl (List.drop_eq_nil_of_le ho)
  · refine .inr ⟨_, rfl, fun j u hu => ?_⟩
    have := World.ownsRow.cells h (g := g) rfl (m * k + j) u (by
      have e1 : l.flatMap enc = (l.take m).flatMap enc ++ (l.drop m).flatMap enc := by rw [← List.flatMap_append, List.take_append_drop]
      have e2 : ((l.take m).flatMap enc).length = m * k := by rw [flat_len hk, List.length_take, Nat.min_eq_left hm]
      rw [e1, List.getElem?_append_right (by omega), e2, Nat.add_sub_cancel_left]
      exact hu)
    rw [Addr.add_lit, Nat.zero_add] at this
    rw [Addr.add_lit]
    exact this
end
theorem appRn {α : Type} {e : TypeId} {k : Nat} {enc : α → List Value} {ops : Array Oper} {rest : List Oper} {o : Oper} {a : Act} {w : World} {Q : Exit → Act → World → Prop} (hgd : o.guard = none) (s x : Operand) (t : TypeId)
    (ho : o.op = .call { callee := .builtin .append, args := #[s, x], argTypes := #[t, t] }) (ht : Tryz.prog.underlying t = some (.slice e)) {z : Value} {bytes : Nat}
    (hinfo : (Tryz.prog.info? e).map (fun i => (i.zero, i.size, i.bytes)) = some (some z, k, bytes)) (hz : z.cells.size = k) (hk0 : 0 < k) (hby : bytes ≤ 1000)
    (hk : ∀ x, (enc x).length = k) (h1 : ∀ x, ∀ u ∈ enc x, u.oneCell' = true)
    (B : Nat) (v : Value) (l : List α) (hs : a.eval s = v) (hown : OwnR e k enc B w v l) (ys : List α) (ao : Option Addr) (m c : Nat) (hx : a.eval x = .slice ao m c) (hm : m = ys.length)
    (hsrc : ys = [] ∨ ∃ ad, ao = some ad ∧ ∀ j u, (ys.flatMap enc)[j]? = some u → w.cell? (ad.add j) = some u) (hlen : l.length + ys.length ≤ 1000000) (hb : B ≤ w.heap.size)
    (h : ∀ v' w', OwnR e k enc B w' v' (l ++ ys) → Below B w w' → (∀ b, b < w.heap.size → some b ≠ v.ownBlock → w'.heap[b]? = w.heap[b]?) → wpList Tryz.prog ops Q rest (a.put o.dst v') w') :
    wpList Tryz.prog ops Q (o :: rest) a w := by
  subst hm
  exact appRsv hgd s x t ho ht hinfo hz hk0 hby hk h1 B v l hs hown ys ao c hx hsrc hlen hb h
end Go.Proofs.YtnenjgngahipdaaGreat
