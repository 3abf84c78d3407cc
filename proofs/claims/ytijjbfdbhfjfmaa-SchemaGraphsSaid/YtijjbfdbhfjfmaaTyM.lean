/- How types lie in memory. No condition. -/
import Derived.Test.YtijjbfdbhfjfmaaTyP
import Derived.Test.YtijjbfdbhfjfmaaOwnG
import Derived.Deep.QuietTactic
import Derived.Deep.LoopGhost
import Derived.Lib.Hide
namespace Go.Proofs.Ytijjbfdbhfjfmaa
open Go.RowKit
set_option linter.unusedVariables false
/-! ### Words on worlds -/
theorem low_new {w w' : World} (h : Low w w') (o : Obj) : Low w (w'.alloc o) := h.trans (Low.of_below ((Below.refl _ _).alloc (Nat.le_refl _) o))
theorem low_drew {w w' : World} (h : Low w w') : Low w w'.drew := ⟨h.1, h.2.1, h.2.2.1, h.2.2.2⟩
theorem low_drewN {w w' : World} (h : Low w w') (n : Nat) : Low w (w'.drewN n) := ⟨h.1, h.2.1, h.2.2.1, h.2.2.2⟩
/-- A world that leaves what was there as it was. -/
structure InL (W : World) where
  w : World
  ok : Low W w
theorem wp_region_low {P : Program} {id : Nat} {Q : Exit → Act → World → Prop} {a : Act} {w : World} {l : List Oper} (hm : P.follows .mixedOrders = true) (hB : Region.lexB .any l.toArray = true)
    (h : wpQuiet P l.toArray (fun w' => ∃ p : InL w, w' = p.w) (fun a' => ∀ w', (∃ p : InL w, w' = p.w) → Q .normal a' w') l a) : (Code.region id l.toArray true).wp P Q a w :=
  wp_region_quiet (C := fun w' => ∃ p : InL w, w' = p.w) hm hB ⟨⟨w.drew, low_drew (Low.refl w)⟩, rfl⟩ (by simpa using h)
theorem Calls.low {P : Program} {f : FuncId} {args : Array Value} {W : World} {v : Value} (p : InL W)
    (h : Calls P f args p.w fun e w' => e = .returned v ∧ Low p.w w') : Calls P f args p.w fun e w'' => e = .returned v ∧ ∃ q : InL W, w'' = q.w :=
  h.mono fun _ _ ⟨he, hw⟩ => ⟨he, ⟨⟨_, p.ok.trans hw⟩, rfl⟩⟩
theorem InL.cell {W : World} (p : InL W) {a : Addr} {v : Value} (h : W.cell? a = some v) : p.w.cell? a = some v := p.ok.keep h
theorem mixedT : Try.prog.follows .mixedOrders = true := by kernel_rfl
theorem InL.some (W : World) : Nonempty (InL W) := ⟨⟨W, Low.refl W⟩⟩
theorem retB {a b : Bool} (h : a = b) : Ending.returned (.bool a) = .returned (.bool b) := by rw [h]
theorem retI {a b : Int} (h : a = b) : Ending.returned (.int .i64 a) = .returned (.int .i64 b) := by rw [h]
theorem tl_inj {s t : ByteArray} : s.toList = t.toList ↔ s = t := by
  rw [ByteArray.toList_eq, ByteArray.toList_eq]
  exact ⟨fun h => by
    cases s with
    | mk s => cases t with
      | mk t => simp only [Array.toList_inj] at h; rw [h], fun h => by rw [h]⟩
/-! ### A type's cells -/
def tcs (t : T) (e v : Value) : List Value := [.int .i64 t.k, .string t.n, e, v]
def acs (x : At) (e v : Value) : List Value := [.string (an x), .int .i64 (aty x).k, .string (aty x).n, e, v, .bool (ao x)]
def tv (t : T) (e v : Value) : Value := .agg #[.int .i64 t.k, .string t.n, e, v]
def CellsAt (w : World) (b o : Nat) (cs : List Value) : Prop := ∀ j v, cs[j]? = some v → w.cell? ⟨b, o + j, none⟩ = some v
theorem CellsAt.low {w w' : World} {b o : Nat} {cs : List Value} (hc : CellsAt w b o cs) (h : Low w w') : CellsAt w' b o cs := fun j v hv => h.keep (hc j v hv)
theorem cells4 {w : World} {b o : Nat} {t : T} {e v : Value} (hc : CellsAt w b o (tcs t e v)) :
    w.cell? ⟨b, o, none⟩ = some (.int .i64 t.k) ∧ w.cell? ⟨b, o + 1, none⟩ = some (.string t.n) ∧ w.cell? ⟨b, o + 2, none⟩ = some e ∧ w.cell? ⟨b, o + 3, none⟩ = some v := ⟨hc 0 _ rfl, hc 1 _ rfl, hc 2 _ rfl, hc 3 _ rfl⟩
theorem cells6 {w : World} {b o : Nat} {x : At} {e v : Value} (hc : CellsAt w b o (acs x e v)) :
    w.cell? ⟨b, o, none⟩ = some (.string (an x)) ∧ w.cell? ⟨b, o + 1, none⟩ = some (.int .i64 (aty x).k) ∧ w.cell? ⟨b, o + 2, none⟩ = some (.string (aty x).n) ∧ w.cell? ⟨b, o + 3, none⟩ = some e ∧ w.cell? ⟨b, o + 4, none⟩ = some v ∧ w.cell? ⟨b, o + 5, none⟩ = some (.bool (ao x)) :=
  ⟨hc 0 _ rfl, hc 1 _ rfl, hc 2 _ rfl, hc 3 _ rfl, hc 4 _ rfl, hc 5 _ rfl⟩
/-- A row, in a block that may be. -/
def RowR {α : Type} (A : Nat → Prop) (w : World) (sz : Nat) (enc : α → Value → Value → List Value) (R : α → Value → Value → Prop) (l : List α) (it : Value) : Prop :=
  ∃ p cap, it = .slice p l.length cap ∧ (l.length ≤ cap ∧ cap ≤ 9223372036854775807) ∧ (l = [] ∨ ∃ b o, p = some ⟨b, o, none⟩ ∧ A b ∧ ∀ j (hj : j < l.length), ∃ e v, CellsAt w b (o + j * sz) (enc l[j] e v) ∧ R l[j] e v)
/-- A type's two rows. -/
def RT (A : Nat → Prop) (w : World) : Nat → T → Value → Value → Prop
  | 0, _, _, _ => False
  | n + 1, t, e, v => t.n.size ≤ 9223372036854775807 ∧ RowR A w 4 tcs (RT A w n) t.l e ∧ RowR A w 6 acs (fun x e v => (an x).size ≤ 9223372036854775807 ∧ RT A w n (aty x) e v) t.ats v
def RL (A : Nat → Prop) (w : World) (n : Nat) (l : List T) (e : Value) : Prop := RowR A w 4 tcs (RT A w n) l e
def RAs (A : Nat → Prop) (w : World) (n : Nat) (l : List At) (v : Value) : Prop := RowR A w 6 acs (fun x e v => (an x).size ≤ 9223372036854775807 ∧ RT A w n (aty x) e v) l v
theorem rt_succ {A : Nat → Prop} {w : World} {n : Nat} {t : T} {e v : Value} : RT A w (n + 1) t e v ↔ t.n.size ≤ 9223372036854775807 ∧ RL A w n t.l e ∧ RAs A w n t.ats v := Iff.rfl
theorem cell_to {w w' : World} {b o : Nat} {v : Value} (h : w.cell? ⟨b, o, none⟩ = some v) (hb : b < w.heap.size → w'.heap[b]? = w.heap[b]?) : w'.cell? ⟨b, o, none⟩ = some v := by
  have := World.cell?_of_block (w := w) (w' := w') (a := ⟨b, o, none⟩) (hb (cell_lt h))
  rw [this]; exact h
theorem RowR.to {α : Type} {A A' : Nat → Prop} {w w' : World} {sz : Nat} {enc : α → Value → Value → List Value} {R R' : α → Value → Value → Prop} {l : List α} {it : Value} (he : ∀ x e v, ∃ u, (enc x e v)[0]? = some u)
    (h : ∀ b, A b → b < w.heap.size → A' b ∧ w'.heap[b]? = w.heap[b]?) (hR : ∀ x e v, x ∈ l → R x e v → R' x e v) (hr : RowR A w sz enc R l it) : RowR A' w' sz enc R' l it := by
  obtain ⟨p, cap, rfl, hc, hr⟩ := hr
  refine ⟨p, cap, rfl, hc, ?_⟩
  rcases hr with h0 | ⟨b, o, rfl, ha, hr⟩
  · exact .inl h0
  · rcases Nat.eq_zero_or_pos l.length with h0 | h0
    · exact .inl (List.eq_nil_of_length_eq_zero h0)
    · obtain ⟨e, v, hc0, -⟩ := hr 0 h0
      obtain ⟨u, hu⟩ := he l[0] e v
      have hb := cell_lt (hc0 0 u hu)
      refine .inr ⟨b, o, rfl, (h b ha hb).1, fun j hj => ?_⟩
      obtain ⟨e, v, hc, hr⟩ := hr j hj
      exact ⟨e, v, fun j v hv => cell_to (hc j v hv) fun k => (h b ha k).2, hR _ _ _ (List.getElem_mem hj) hr⟩
theorem tcs_0 (x : T) (e v : Value) : ∃ u, (tcs x e v)[0]? = some u := ⟨_, rfl⟩
theorem acs_0 (x : At) (e v : Value) : ∃ u, (acs x e v)[0]? = some u := ⟨_, rfl⟩
theorem RT.to {A A' : Nat → Prop} {w w' : World} (h : ∀ b, A b → b < w.heap.size → A' b ∧ w'.heap[b]? = w.heap[b]?) : ∀ {n : Nat} {t : T} {e v : Value}, RT A w n t e v → RT A' w' n t e v
  | 0, _, _, _, hr => hr
  | n + 1, t, e, v, hr => ⟨hr.1, RowR.to tcs_0 h (fun _ _ _ _ => RT.to h) hr.2.1, RowR.to acs_0 h (fun _ _ _ _ k => ⟨k.1, RT.to h k.2⟩) hr.2.2⟩
theorem RT.low {A : Nat → Prop} {w w' : World} {n : Nat} {t : T} {e v : Value} (hr : RT A w n t e v) (h : Low w w') : RT A w' n t e v := RT.to (fun b ha hb => ⟨ha, h.2.2.2 b hb⟩) hr
theorem RT.imp {A A' : Nat → Prop} {w : World} {n : Nat} {t : T} {e v : Value} (hr : RT A w n t e v) (h : ∀ b, A b → A' b) : RT A' w n t e v := RT.to (fun b ha _ => ⟨h b ha, rfl⟩) hr
theorem RL.to {A A' : Nat → Prop} {w w' : World} (h : ∀ b, A b → b < w.heap.size → A' b ∧ w'.heap[b]? = w.heap[b]?) {n : Nat} {l : List T} {e : Value} (hr : RL A w n l e) : RL A' w' n l e := RowR.to tcs_0 h (fun _ _ _ _ => RT.to h) hr
theorem RAs.to {A A' : Nat → Prop} {w w' : World} (h : ∀ b, A b → b < w.heap.size → A' b ∧ w'.heap[b]? = w.heap[b]?) {n : Nat} {l : List At} {e : Value} (hr : RAs A w n l e) : RAs A' w' n l e := RowR.to acs_0 h (fun _ _ _ _ k => ⟨k.1, RT.to h k.2⟩) hr
theorem RL.low {A : Nat → Prop} {w w' : World} {n : Nat} {l : List T} {e : Value} (hr : RL A w n l e) (h : Low w w') : RL A w' n l e := RL.to (fun b ha hb => ⟨ha, h.2.2.2 b hb⟩) hr
theorem RAs.low {A : Nat → Prop} {w w' : World} {n : Nat} {l : List At} {e : Value} (hr : RAs A w n l e) (h : Low w w') : RAs A w' n l e := RAs.to (fun b ha hb => ⟨ha, h.2.2.2 b hb⟩) hr
/-- All that is laid lies below the heap's size. -/
theorem RT.lt {A : Nat → Prop} {w : World} {n : Nat} {t : T} {e v : Value} (hr : RT A w n t e v) : RT (fun b => A b ∧ b < w.heap.size) w n t e v := RT.to (fun b ha hb => ⟨⟨ha, hb⟩, rfl⟩) hr
theorem RAs.lt {A : Nat → Prop} {w : World} {n : Nat} {l : List At} {v : Value} (hr : RAs A w n l v) : RAs (fun b => A b ∧ b < w.heap.size) w n l v := RAs.to (fun b ha hb => ⟨⟨ha, hb⟩, rfl⟩) hr
theorem RL.lt {A : Nat → Prop} {w : World} {n : Nat} {l : List T} {v : Value} (hr : RL A w n l v) : RL (fun b => A b ∧ b < w.heap.size) w n l v := RL.to (fun b ha hb => ⟨⟨ha, hb⟩, rfl⟩) hr
theorem RowR.mem {α : Type} {A : Nat → Prop} {w : World} {sz : Nat} {enc : α → Value → Value → List Value} {R : α → Value → Value → Prop} {l : List α} {it : Value} (hr : RowR A w sz enc R l it) {x : α} (hx : x ∈ l) : ∃ e v, R x e v := by
  obtain ⟨p, cap, rfl, hc, hr⟩ := hr
  obtain ⟨j, hj, rfl⟩ := List.getElem_of_mem hx
  rcases hr with h0 | ⟨b, o, rfl, ha, hr⟩
  · rw [h0] at hj; exact absurd hj (Nat.not_lt_zero _)
  · obtain ⟨e, v, -, h⟩ := hr j hj
    exact ⟨e, v, h⟩
theorem RT.dp {A : Nat → Prop} {w : World} : ∀ {n : Nat} {t : T} {e v : Value}, RT A w n t e v → Dp n t
  | 0, _, _, _, h => h
  | n + 1, t, e, v, h => fun x hx => by
    rcases List.mem_append.1 hx with hx | hx
    · obtain ⟨e, v, h⟩ := RowR.mem h.2.1 hx; exact RT.dp h
    · obtain ⟨y, hy, rfl⟩ := List.mem_map.1 hx
      obtain ⟨e, v, h⟩ := RowR.mem h.2.2 hy; exact RT.dp h.2
/-- The same with other fuel. -/
theorem RT.re {A : Nat → Prop} {w : World} : ∀ {m n : Nat} {t : T} {e v : Value}, Dp m t → RT A w n t e v → RT A w m t e v
  | 0, _, _, _, _, h, _ => h.elim
  | _ + 1, 0, _, _, _, _, h => h.elim
  | m + 1, n + 1, t, e, v, hd, h => ⟨h.1, RowR.to tcs_0 (fun b ha _ => ⟨ha, rfl⟩) (fun _ _ _ hx => RT.re (hd _ (ins_l hx))) h.2.1, RowR.to acs_0 (fun b ha _ => ⟨ha, rfl⟩) (fun _ _ _ hx k => ⟨k.1, RT.re (hd _ (ins_as hx)) k.2⟩) h.2.2⟩
/-! ### What a walk reads -/
theorem RowR.sl {α : Type} {A : Nat → Prop} {w : World} {sz : Nat} {enc : α → Value → Value → List Value} {R : α → Value → Value → Prop} {l : List α} {it : Value} (hr : RowR A w sz enc R l it) :
    ∃ p c, it = .slice p l.length c ∧ l.length ≤ c ∧ c ≤ 9223372036854775807 := by
  obtain ⟨p, cap, rfl, ⟨h1, h2⟩, -⟩ := hr
  exact ⟨p, cap, rfl, h1, h2⟩
theorem RT.sl {A : Nat → Prop} {w : World} {n : Nat} {t : T} {e v : Value} (hr : RT A w n t e v) :
    ∃ pe ce pv cv, e = .slice pe t.l.length ce ∧ v = .slice pv t.ats.length cv ∧ t.l.length ≤ ce ∧ ce ≤ 9223372036854775807 ∧ t.ats.length ≤ cv ∧ cv ≤ 9223372036854775807 := by
  cases n with
  | zero => exact hr.elim
  | succ n =>
    obtain ⟨pe, ce, rfl, h1, h2⟩ := hr.2.1.sl
    obtain ⟨pv, cv, rfl, h3, h4⟩ := hr.2.2.sl
    exact ⟨pe, ce, pv, cv, rfl, rfl, h1, h2, h3, h4⟩
theorem RL.at {A : Nat → Prop} {w : World} {n : Nat} {l : List T} {p : Option Addr} {m c : Nat} (h : RL A w n l (.slice p m c)) {j : Nat} (hj : j < l.length) :
    ∃ b o pe ce pv cv, p = some ⟨b, o, none⟩ ∧ A b ∧ w.cell? ⟨b, o + j * 4, none⟩ = some (.int .i64 l[j].k) ∧ w.cell? ⟨b, o + j * 4 + 1, none⟩ = some (.string l[j].n) ∧
      w.cell? ⟨b, o + j * 4 + 2, none⟩ = some (.slice pe l[j].l.length ce) ∧ w.cell? ⟨b, o + j * 4 + 3, none⟩ = some (.slice pv l[j].ats.length cv) ∧ RT A w n l[j] (.slice pe l[j].l.length ce) (.slice pv l[j].ats.length cv) := by
  obtain ⟨q, cap, hq, -, hr⟩ := h
  simp only [Value.slice.injEq] at hq
  obtain ⟨rfl, -, -⟩ := hq
  rcases hr with h0 | ⟨b, o, rfl, ha, hr⟩
  · rw [h0] at hj; exact absurd hj (Nat.not_lt_zero _)
  · obtain ⟨e, v, hc, hx⟩ := hr j hj
    obtain ⟨pe, ce, pv, cv, rfl, rfl, -⟩ := hx.sl
    obtain ⟨c0, c1, c2, c3⟩ := cells4 hc
    exact ⟨b, o, pe, ce, pv, cv, rfl, ha, c0, c1, c2, c3, hx⟩
theorem RAs.at {A : Nat → Prop} {w : World} {n : Nat} {l : List At} {p : Option Addr} {m c : Nat} (h : RAs A w n l (.slice p m c)) {j : Nat} (hj : j < l.length) :
    ∃ b o pe ce pv cv, p = some ⟨b, o, none⟩ ∧ A b ∧ w.cell? ⟨b, o + j * 6, none⟩ = some (.string (an l[j])) ∧ w.cell? ⟨b, o + j * 6 + 1, none⟩ = some (.int .i64 (aty l[j]).k) ∧ w.cell? ⟨b, o + j * 6 + 2, none⟩ = some (.string (aty l[j]).n) ∧
      w.cell? ⟨b, o + j * 6 + 3, none⟩ = some (.slice pe (aty l[j]).l.length ce) ∧ w.cell? ⟨b, o + j * 6 + 4, none⟩ = some (.slice pv (aty l[j]).ats.length cv) ∧ w.cell? ⟨b, o + j * 6 + 5, none⟩ = some (.bool (ao l[j])) ∧
      (an l[j]).size ≤ 9223372036854775807 ∧ RT A w n (aty l[j]) (.slice pe (aty l[j]).l.length ce) (.slice pv (aty l[j]).ats.length cv) := by
  obtain ⟨q, cap, hq, -, hr⟩ := h
  simp only [Value.slice.injEq] at hq
  obtain ⟨rfl, -, -⟩ := hq
  rcases hr with h0 | ⟨b, o, rfl, ha, hr⟩
  · rw [h0] at hj; exact absurd hj (Nat.not_lt_zero _)
  · obtain ⟨e, v, hc, hs, hx⟩ := hr j hj
    obtain ⟨pe, ce, pv, cv, rfl, rfl, -⟩ := hx.sl
    obtain ⟨c0, c1, c2, c3, c4, c5⟩ := cells6 hc
    exact ⟨b, o, pe, ce, pv, cv, rfl, ha, c0, c1, c2, c3, c4, c5, hs, hx⟩
/-- A type's box. -/
theorem low_box {w wr : World} {c0 c1 c2 c3 : Value} {t : TypeId} (h : Low (w.alloc (.cells #[c0, c1, c2, c3] t)) wr) :
    wr.cell? ⟨w.heap.size, 0, none⟩ = some c0 ∧ wr.cell? ⟨w.heap.size, 1, none⟩ = some c1 ∧ wr.cell? ⟨w.heap.size, 2, none⟩ = some c2 ∧ wr.cell? ⟨w.heap.size, 3, none⟩ = some c3 :=
  ⟨h.keep (by rw [World.cell?_alloc_mark]; rfl), h.keep (by rw [World.cell?_alloc_mark]; rfl), h.keep (by rw [World.cell?_alloc_mark]; rfl), h.keep (by rw [World.cell?_alloc_mark]; rfl)⟩
theorem RL.nil (A : Nat → Prop) (w : World) (n : Nat) : RL A w n [] (.slice none 0 0) := ⟨none, 0, rfl, ⟨by simp, by simp⟩, .inl rfl⟩
theorem RAs.nil (A : Nat → Prop) (w : World) (n : Nat) : RAs A w n [] (.slice none 0 0) := ⟨none, 0, rfl, ⟨by simp, by simp⟩, .inl rfl⟩
theorem RT.kind (A : Nat → Prop) (w : World) (n : Nat) (k : Int) : RT A w (n + 1) (.mk k ⟨#[]⟩ [] []) (.slice none 0 0) (.slice none 0 0) := ⟨(by decide : (⟨#[]⟩ : ByteArray).size ≤ 9223372036854775807), RL.nil A w n, RAs.nil A w n⟩
end Go.Proofs.Ytijjbfdbhfjfmaa
