/- How types lie in memory. No condition. Maps that hold any values, by keys of one's own: what is at a key, whether it is there, a store, a deletion, how many there are. Condition: the key's type is one that the library knows. Ranging over a map by keys of one's own, in whatever order. Condition: the key's type is one that the library knows. Maps by keys of one's own, at an operation of a walk. Condition: the key's type is one that the library knows. 'm[k] += x' on a map by keys of one's own: the entry, the look behind it, the store into it. Condition: the key's type is one that the library knows (by its elder law). Names, rows of names, maps of rows, schemas in memory. No condition. -/
import Derived.Test.YtnenjgngahipdaaGreatZg00
import Derived.Deep.QuietTactic
import Derived.Deep.LoopGhost
import Derived.Lib.Hide
import Derived.Maps.OwnSet
import Derived.Maps.RangeWalk
import Derived.WalkKit
import Derived.Maps.OwnOps
import Derived.WideKeyEntry
import Derived.Test.YtnenjgngahipdaaGreatRows
import Derived.StringKeys
set_option linter.unusedVariables false
set_option linter.unusedSimpArgs false
set_option linter.unnecessarySimpa false
namespace Go.Proofs.YtnenjgngahipdaaGreat
open Go.RowKit
set_option linter.unusedVariables false
/-! ### Words on worlds -/
theorem low_new {w w' : World} (h : Low w w') (o : Obj) : Low w (w'.alloc o) := h.trans (Low.of_below ((Below.refl _ _).alloc (Nat.le_refl _) o))
theorem low_drew {w w' : World} (h : Low w w') : Low w w'.drew := ⟨h.1, h.2.1, h.2.2.1, h.2.2.2⟩
theorem low_drewN {w w' : World} (h : Low w w') (n : Nat) : Low w (w'.drewN n) := ⟨h.1, h.2.1, h.2.2.1, h.2.2.2⟩
/-- A world that leaves what was there as it was. -/
structure InL (W : World) where
  w : World
  ok : Low W w
theorem wp_region_low {P : Program} {id : Nat} {Q : Exit → Act → World → Prop} {a : Act} {w : World} {l : List Oper} (hm : P.follows .mixedOrders = true) (hB : Region.lexB .any l.toArray = true)
    (h : wpQuiet P l.toArray (fun w' => ∃ p : InL w, w' = p.w) (fun a' => ∀ w', (∃ p : InL w, w' = p.w) → Q .normal a' w') l a) : (Code.region id l.toArray true).wp P Q a w :=
  wp_region_quiet (C := fun w' => ∃ p : InL w, w' = p.w) hm hB ⟨⟨w.drew, low_drew (Low.refl w)⟩, rfl⟩ (by simpa using h)
theorem Calls.low {P : Program} {f : FuncId} {args : Array Value} {W : World} {v : Value} (p : InL W)
    (h : Calls P f args p.w fun e w' => e = .returned v ∧ Low p.w w') : Calls P f args p.w fun e w'' => e = .returned v ∧ ∃ q : InL W, w'' = q.w :=
  h.mono fun _ _ ⟨he, hw⟩ => ⟨he, ⟨⟨_, p.ok.trans hw⟩, rfl⟩⟩
theorem InL.cell {W : World} (p : InL W) {a : Addr} {v : Value} (h : W.cell? a = some v) : p.w.cell? a = some v := p.ok.keep h
theorem mixedT : Tryz.prog.follows .mixedOrders = true := by kernel_rfl
theorem InL.some (W : World) : Nonempty (InL W) := ⟨⟨W, Low.refl W⟩⟩
theorem retB {a b : Bool} (h : a = b) : Ending.returned (.bool a) = .returned (.bool b) := by rw [h]
theorem retI {a b : Int} (h : a = b) : Ending.returned (.int .i64 a) = .returned (.int .i64 b) := by rw [h]
theorem tl_inj {s t : ByteArray} : s.toList = t.toList ↔ s = t := by
  rw [ByteArray.toList_eq, ByteArray.toList_eq]
  exact ⟨fun h => by
    cases s with
    | mk s => cases t with
      | mk t => simp only [Array.toList_inj] at h; rw [h], fun h => by rw [h]⟩
/-! ### A type's cells -/
def tcs (t : T) (e v : Value) : List Value := [.int .i64 t.k, .string t.n, e, v]
def acs (x : At) (e v : Value) : List Value := [.string (an x), .int .i64 (aty x).k, .string (aty x).n, e, v, .bool (ao x)]
def tv (t : T) (e v : Value) : Value := .agg #[.int .i64 t.k, .string t.n, e, v]
def CellsAt (w : World) (b o : Nat) (cs : List Value) : Prop := ∀ j v, cs[j]? = some v → w.cell? ⟨b, o + j, none⟩ = some v
theorem CellsAt.low {w w' : World} {b o : Nat} {cs : List Value} (hc : CellsAt w b o cs) (h : Low w w') : CellsAt w' b o cs := fun j v hv => h.keep (hc j v hv)
theorem cells4 {w : World} {b o : Nat} {t : T} {e v : Value} (hc : CellsAt w b o (tcs t e v)) :
    w.cell? ⟨b, o, none⟩ = some (.int .i64 t.k) ∧ w.cell? ⟨b, o + 1, none⟩ = some (.string t.n) ∧ w.cell? ⟨b, o + 2, none⟩ = some e ∧ w.cell? ⟨b, o + 3, none⟩ = some v := ⟨hc 0 _ rfl, hc 1 _ rfl, hc 2 _ rfl, hc 3 _ rfl⟩
theorem cells6 {w : World} {b o : Nat} {x : At} {e v : Value} (hc : CellsAt w b o (acs x e v)) :
    w.cell? ⟨b, o, none⟩ = some (.string (an x)) ∧ w.cell? ⟨b, o + 1, none⟩ = some (.int .i64 (aty x).k) ∧ w.cell? ⟨b, o + 2, none⟩ = some (.string (aty x).n) ∧ w.cell? ⟨b, o + 3, none⟩ = some e ∧ w.cell? ⟨b, o + 4, none⟩ = some v ∧ w.cell? ⟨b, o + 5, none⟩ = some (.bool (ao x)) :=
  ⟨hc 0 _ rfl, hc 1 _ rfl, hc 2 _ rfl, hc 3 _ rfl, hc 4 _ rfl, hc 5 _ rfl⟩
/-- A row, in a block that may be. -/
def RowR {α : Type} (A : Nat → Prop) (w : World) (sz : Nat) (enc : α → Value → Value → List Value) (R : α → Value → Value → Prop) (l : List α) (it : Value) : Prop :=
  ∃ p cap, it = .slice p l.length cap ∧ (l.length ≤ cap ∧ cap ≤ 9223372036854775807) ∧ (l = [] ∨ ∃ b o, p = some ⟨b, o, none⟩ ∧ A b ∧ ∀ j (hj : j < l.length), ∃ e v, CellsAt w b (o + j * sz) (enc l[j] e v) ∧ R l[j] e v)
/-- A type's two rows. -/
def RT (A : Nat → Prop) (w : World) : Nat → T → Value → Value → Prop
  | 0, _, _, _ => False
  | n + 1, t, e, v => t.n.size ≤ 9223372036854775807 ∧ RowR A w 4 tcs (RT A w n) t.l e ∧ RowR A w 6 acs (fun x e v => (an x).size ≤ 9223372036854775807 ∧ RT A w n (aty x) e v) t.ats v
def RL (A : Nat → Prop) (w : World) (n : Nat) (l : List T) (e : Value) : Prop := RowR A w 4 tcs (RT A w n) l e
def RAs (A : Nat → Prop) (w : World) (n : Nat) (l : List At) (v : Value) : Prop := RowR A w 6 acs (fun x e v => (an x).size ≤ 9223372036854775807 ∧ RT A w n (aty x) e v) l v
theorem rt_succ {A : Nat → Prop} {w : World} {n : Nat} {t : T} {e v : Value} : RT A w (n + 1) t e v ↔ t.n.size ≤ 9223372036854775807 ∧ RL A w n t.l e ∧ RAs A w n t.ats v := Iff.rfl
theorem cell_to {w w' : World} {b o : Nat} {v : Value} (h : w.cell? ⟨b, o, none⟩ = some v) (hb : b < w.heap.size → w'.heap[b]? = w.heap[b]?) : w'.cell? ⟨b, o, none⟩ = some v := by
  have := World.cell?_of_block (w := w) (w' := w') (a := ⟨b, o, none⟩) (hb (cell_lt h))
  rw [this]; exact h
theorem RowR.to {α : Type} {A A' : Nat → Prop} {w w' : World} {sz : Nat} {enc : α → Value → Value → List Value} {R R' : α → Value → Value → Prop} {l : List α} {it : Value} (he : ∀ x e v, ∃ u, (enc x e v)[0]? = some u)
    (h : ∀ b, A b → b < w.heap.size → A' b ∧ w'.heap[b]? = w.heap[b]?) (hR : ∀ x e v, x ∈ l → R x e v → R' x e v) (hr : RowR A w sz enc R l it) : RowR A' w' sz enc R' l it := by
  obtain ⟨p, cap, rfl, hc, hr⟩ := hr
  refine ⟨p, cap, rfl, hc, ?_⟩
  rcases hr with h0 | ⟨b, o, rfl, ha, hr⟩
  · exact .inl h0
  · rcases Nat.eq_zero_or_pos l.length with h0 | h0
    · exact .inl (List.eq_nil_of_length_eq_zero h0)
    · obtain ⟨e, v, hc0, -⟩ := hr 0 h0
      obtain ⟨u, hu⟩ := he l[0] e v
      have hb := cell_lt (hc0 0 u hu)
      refine .inr ⟨b, o, rfl, (h b ha hb).1, fun j hj => ?_⟩
      obtain ⟨e, v, hc, hr⟩ := hr j hj
      exact ⟨e, v, fun j v hv => cell_to (hc j v hv) fun k => (h b ha k).2, hR _ _ _ (List.getElem_mem hj) hr⟩
theorem tcs_0 (x : T) (e v : Value) : ∃ u, (tcs x e v)[0]? = some u := ⟨_, rfl⟩
theorem acs_0 (x : At) (e v : Value) : ∃ u, (acs x e v)[0]? = some u := ⟨_, rfl⟩
theorem RT.to {A A' : Nat → Prop} {w w' : World} (h : ∀ b, A b → b < w.heap.size → A' b ∧ w'.heap[b]? = w.heap[b]?) : ∀ {n : Nat} {t : T} {e v : Value}, RT A w n t e v → RT A' w' n t e v
  | 0, _, _, _, hr => hr
  | n + 1, t, e, v, hr => ⟨hr.1, RowR.to tcs_0 h (fun _ _ _ _ => RT.to h) hr.2.1, RowR.to acs_0 h (fun _ _ _ _ k => ⟨k.1, RT.to h k.2⟩) hr.2.2⟩
theorem RT.low {A : Nat → Prop} {w w' : World} {n : Nat} {t : T} {e v : Value} (hr : RT A w n t e v) (h : Low w w') : RT A w' n t e v := RT.to (fun b ha hb => ⟨ha, h.2.2.2 b hb⟩) hr
theorem RT.imp {A A' : Nat → Prop} {w : World} {n : Nat} {t : T} {e v : Value} (hr : RT A w n t e v) (h : ∀ b, A b → A' b) : RT A' w n t e v := RT.to (fun b ha _ => ⟨h b ha, rfl⟩) hr
theorem RL.to {A A' : Nat → Prop} {w w' : World} (h : ∀ b, A b → b < w.heap.size → A' b ∧ w'.heap[b]? = w.heap[b]?) {n : Nat} {l : List T} {e : Value} (hr : RL A w n l e) : RL A' w' n l e := RowR.to tcs_0 h (fun _ _ _ _ => RT.to h) hr
theorem RAs.to {A A' : Nat → Prop} {w w' : World} (h : ∀ b, A b → b < w.heap.size → A' b ∧ w'.heap[b]? = w.heap[b]?) {n : Nat} {l : List At} {e : Value} (hr : RAs A w n l e) : RAs A' w' n l e := RowR.to acs_0 h (fun _ _ _ _ k => ⟨k.1, RT.to h k.2⟩) hr
theorem RL.low {A : Nat → Prop} {w w' : World} {n : Nat} {l : List T} {e : Value} (hr : RL A w n l e) (h : Low w w') : RL A w' n l e := RL.to (fun b ha hb => ⟨ha, h.2.2.2 b hb⟩) hr
theorem RAs.low {A : Nat → Prop} {w w' : World} {n : Nat} {l : List At} {e : Value} (hr : RAs A w n l e) (h : Low w w') : RAs A w' n l e := RAs.to (fun b ha hb => ⟨ha, h.2.2.2 b hb⟩) hr
/-- All that is laid lies below the heap's size. -/
theorem RT.lt {A : Nat → Prop} {w : World} {n : Nat} {t : T} {e v : Value} (hr : RT A w n t e v) : RT (fun b => A b ∧ b < w.heap.size) w n t e v := RT.to (fun b ha hb => ⟨⟨ha, hb⟩, rfl⟩) hr
theorem RAs.lt {A : Nat → Prop} {w : World} {n : Nat} {l : List At} {v : Value} (hr : RAs A w n l v) : RAs (fun b => A b ∧ b < w.heap.size) w n l v := RAs.to (fun b ha hb => ⟨⟨ha, hb⟩, rfl⟩) hr
theorem RL.lt {A : Nat → Prop} {w : World} {n : Nat} {l : List T} {v : Value} (hr : RL A w n l v) : RL (fun b => A b ∧ b < w.heap.size) w n l v := RL.to (fun b ha hb => ⟨⟨ha, hb⟩, rfl⟩) hr
theorem RowR.mem {α : Type} {A : Nat → Prop} {w : World} {sz : Nat} {enc : α → Value → Value → List Value} {R : α → Value → Value → Prop} {l : List α} {it : Value} (hr : RowR A w sz enc R l it) {x : α} (hx : x ∈ l) : ∃ e v, R x e v := by
  obtain ⟨p, cap, rfl, hc, hr⟩ := hr
  obtain ⟨j, hj, rfl⟩ := List.getElem_of_mem hx
  rcases hr with h0 | ⟨b, o, rfl, ha, hr⟩
  · rw [h0] at hj; exact absurd hj (Nat.not_lt_zero _)
  · obtain ⟨e, v, -, h⟩ := hr j hj
    exact ⟨e, v, h⟩
theorem RT.dp {A : Nat → Prop} {w : World} : ∀ {n : Nat} {t : T} {e v : Value}, RT A w n t e v → Dp n t
  | 0, _, _, _, h => h
  | n + 1, t, e, v, h => fun x hx => by
    rcases List.mem_append.1 hx with hx | hx
    · obtain ⟨e, v, h⟩ := RowR.mem h.2.1 hx; exact RT.dp h
    · obtain ⟨y, hy, rfl⟩ := List.mem_map.1 hx
      obtain ⟨e, v, h⟩ := RowR.mem h.2.2 hy; exact RT.dp h.2
/-- The same with other fuel. -/
theorem RT.re {A : Nat → Prop} {w : World} : ∀ {m n : Nat} {t : T} {e v : Value}, Dp m t → RT A w n t e v → RT A w m t e v
  | 0, _, _, _, _, h, _ => h.elim
  | _ + 1, 0, _, _, _, _, h => h.elim
  | m + 1, n + 1, t, e, v, hd, h => ⟨h.1, RowR.to tcs_0 (fun b ha _ => ⟨ha, rfl⟩) (fun _ _ _ hx => RT.re (hd _ (ins_l hx))) h.2.1, RowR.to acs_0 (fun b ha _ => ⟨ha, rfl⟩) (fun _ _ _ hx k => ⟨k.1, RT.re (hd _ (ins_as hx)) k.2⟩) h.2.2⟩
/-! ### What a walk reads -/
theorem RowR.sl {α : Type} {A : Nat → Prop} {w : World} {sz : Nat} {enc : α → Value → Value → List Value} {R : α → Value → Value → Prop} {l : List α} {it : Value} (hr : RowR A w sz enc R l it) :
    ∃ p c, it = .slice p l.length c ∧ l.length ≤ c ∧ c ≤ 9223372036854775807 := by
  obtain ⟨p, cap, rfl, ⟨h1, h2⟩, -⟩ := hr
  exact ⟨p, cap, rfl, h1, h2⟩
theorem RT.sl {A : Nat → Prop} {w : World} {n : Nat} {t : T} {e v : Value} (hr : RT A w n t e v) :
    ∃ pe ce pv cv, e = .slice pe t.l.length ce ∧ v = .slice pv t.ats.length cv ∧ t.l.length ≤ ce ∧ ce ≤ 9223372036854775807 ∧ t.ats.length ≤ cv ∧ cv ≤ 9223372036854775807 := by
  cases n with
  | zero => exact hr.elim
  | succ n =>
    obtain ⟨pe, ce, rfl, h1, h2⟩ := hr.2.1.sl
    obtain ⟨pv, cv, rfl, h3, h4⟩ := hr.2.2.sl
    exact ⟨pe, ce, pv, cv, rfl, rfl, h1, h2, h3, h4⟩
theorem RL.at {A : Nat → Prop} {w : World} {n : Nat} {l : List T} {p : Option Addr} {m c : Nat} (h : RL A w n l (.slice p m c)) {j : Nat} (hj : j < l.length) :
    ∃ b o pe ce pv cv, p = some ⟨b, o, none⟩ ∧ A b ∧ w.cell? ⟨b, o + j * 4, none⟩ = some (.int .i64 l[j].k) ∧ w.cell? ⟨b, o + j * 4 + 1, none⟩ = some (.string l[j].n) ∧
      w.cell? ⟨b, o + j * 4 + 2, none⟩ = some (.slice pe l[j].l.length ce) ∧ w.cell? ⟨b, o + j * 4 + 3, none⟩ = some (.slice pv l[j].ats.length cv) ∧ RT A w n l[j] (.slice pe l[j].l.length ce) (.slice pv l[j].ats.length cv) := by
  obtain ⟨q, cap, hq, -, hr⟩ := h
  simp only [Value.slice.injEq] at hq
  obtain ⟨rfl, -, -⟩ := hq
  rcases hr with h0 | ⟨b, o, rfl, ha, hr⟩
  · rw [h0] at hj; exact absurd hj (Nat.not_lt_zero _)
  · obtain ⟨e, v, hc, hx⟩ := hr j hj
    obtain ⟨pe, ce, pv, cv, rfl, rfl, -⟩ := hx.sl
    obtain ⟨c0, c1, c2, c3⟩ := cells4 hc
    exact ⟨b, o, pe, ce, pv, cv, rfl, ha, c0, c1, c2, c3, hx⟩
theorem RAs.at {A : Nat → Prop} {w : World} {n : Nat} {l : List At} {p : Option Addr} {m c : Nat} (h : RAs A w n l (.slice p m c)) {j : Nat} (hj : j < l.length) :
    ∃ b o pe ce pv cv, p = some ⟨b, o, none⟩ ∧ A b ∧ w.cell? ⟨b, o + j * 6, none⟩ = some (.string (an l[j])) ∧ w.cell? ⟨b, o + j * 6 + 1, none⟩ = some (.int .i64 (aty l[j]).k) ∧ w.cell? ⟨b, o + j * 6 + 2, none⟩ = some (.string (aty l[j]).n) ∧
      w.cell? ⟨b, o + j * 6 + 3, none⟩ = some (.slice pe (aty l[j]).l.length ce) ∧ w.cell? ⟨b, o + j * 6 + 4, none⟩ = some (.slice pv (aty l[j]).ats.length cv) ∧ w.cell? ⟨b, o + j * 6 + 5, none⟩ = some (.bool (ao l[j])) ∧
      (an l[j]).size ≤ 9223372036854775807 ∧ RT A w n (aty l[j]) (.slice pe (aty l[j]).l.length ce) (.slice pv (aty l[j]).ats.length cv) := by
  obtain ⟨q, cap, hq, -, hr⟩ := h
  simp only [Value.slice.injEq] at hq
  obtain ⟨rfl, -, -⟩ := hq
  rcases hr with h0 | ⟨b, o, rfl, ha, hr⟩
  · rw [h0] at hj; exact absurd hj (Nat.not_lt_zero _)
  · obtain ⟨e, v, hc, hs, hx⟩ := hr j hj
    obtain ⟨pe, ce, pv, cv, rfl, rfl, -⟩ := hx.sl
    obtain ⟨c0, c1, c2, c3, c4, c5⟩ := cells6 hc
    exact ⟨b, o, pe, ce, pv, cv, rfl, ha, c0, c1, c2, c3, c4, c5, hs, hx⟩
/-- A type's box. -/
theorem low_box {w wr : World} {c0 c1 c2 c3 : Value} {t : TypeId} (h : Low (w.alloc (.cells #[c0, c1, c2, c3] t)) wr) :
    wr.cell? ⟨w.heap.size, 0, none⟩ = some c0 ∧ wr.cell? ⟨w.heap.size, 1, none⟩ = some c1 ∧ wr.cell? ⟨w.heap.size, 2, none⟩ = some c2 ∧ wr.cell? ⟨w.heap.size, 3, none⟩ = some c3 :=
  ⟨h.keep (by rw [World.cell?_alloc_mark]; rfl), h.keep (by rw [World.cell?_alloc_mark]; rfl), h.keep (by rw [World.cell?_alloc_mark]; rfl), h.keep (by rw [World.cell?_alloc_mark]; rfl)⟩
theorem RL.nil (A : Nat → Prop) (w : World) (n : Nat) : RL A w n [] (.slice none 0 0) := ⟨none, 0, rfl, ⟨by simp, by simp⟩, .inl rfl⟩
theorem RAs.nil (A : Nat → Prop) (w : World) (n : Nat) : RAs A w n [] (.slice none 0 0) := ⟨none, 0, rfl, ⟨by simp, by simp⟩, .inl rfl⟩
theorem RT.kind (A : Nat → Prop) (w : World) (n : Nat) (k : Int) : RT A w (n + 1) (.mk k ⟨#[]⟩ [] []) (.slice none 0 0) (.slice none 0 0) := ⟨(by decide : (⟨#[]⟩ : ByteArray).size ≤ 9223372036854775807), RL.nil A w n, RAs.nil A w n⟩
end Go.Proofs.YtnenjgngahipdaaGreat
namespace Go.Proofs.YtnenjgngahipdaaGreat
open Go.RowKit Go.Maps
/-- An element is read as itself. -/
def Rv (v : Value) : Option (DataW Value × List MemPlace) := some (.held v, [])
/-- Keys of one's own: each is laid as a value, and read as a literal. -/
structure KeyF (P : Program) (k : TypeId) (α : Type) where
  kv : α → Value
  kl : α → Lit
  ok : ∀ a, keyOf P k (kv a) = some (kl a)
  inj : ∀ a b, kv a = kv b → a = b
variable {P : Program} {k : TypeId} {α : Type}
theorem KeyF.ne (F : KeyF P k α) (K : Keyed P k) {a b : α} (h : a ≠ b) : F.kl a ≠ F.kl b := fun e => h (F.inj a b (K.inj (F.ok a) (by rw [e]; exact F.ok b)))
/-- Block b is a map of no more than n entries that holds just what f says. -/
structure MapD (F : KeyF P k α) (w : World) (b n : Nat) (D : DataW Value) (f : α → Option Value) : Prop where
  owns : w.ownsMap P k Rv b n D
  has : ∀ a, Maps.has D (F.kl a) = (f a).isSome
  at' : ∀ a v, f a = some v → ∀ z, D.atKey (F.kl a) z = .held v
  key : ∀ l, Maps.has D l = true → ∃ a, l = F.kl a
  num : ∃ ks : List α, ks.Nodup ∧ (∀ a, a ∈ ks ↔ (f a).isSome = true) ∧ Maps.size D = ks.length
def MapAt (F : KeyF P k α) (w : World) (b n : Nat) (f : α → Option Value) : Prop := ∃ D, MapD F w b n D f
theorem MapAt.made (F : KeyF P k α) (w : World) : MapAt F (w.alloc (.map #[] 0)) w.heap.size 0 fun _ => none :=
  ⟨.map [], ⟨World.ownsMap_made _ _ _ _, fun _ => rfl, (by intro _ _ h; cases h), (by intro l h; simp [Maps.has] at h), ⟨[], List.nodup_nil, (by intro a; simp), rfl⟩⟩⟩
theorem MapAt.kept {F : KeyF P k α} {w w' : World} {b n : Nat} {f : α → Option Value} {row : Option Nat} (h : MapAt F w b n f) (hg : w.grownBy w' row) (hne : some b ≠ row) : MapAt F w' b n f := by
  obtain ⟨D, h⟩ := h
  exact ⟨D, h.owns.kept hg hne, h.has, h.at', h.key, h.num⟩
theorem MapAt.lt {F : KeyF P k α} {w : World} {b n : Nat} {f : α → Option Value} (h : MapAt F w b n f) : b < w.heap.size := by
  obtain ⟨D, h⟩ := h
  exact h.owns.lt
theorem MapAt.block {F : KeyF P k α} {w w' : World} {b n : Nat} {f : α → Option Value} (h : MapAt F w b n f) (e : w'.heap[b]? = w.heap[b]?) : MapAt F w' b n f := by
  obtain ⟨D, h⟩ := h
  obtain ⟨es, clock, hb, r⟩ := h.owns
  exact ⟨D, ⟨es, clock, e.trans hb, r⟩, h.has, h.at', h.key, h.num⟩
theorem MapAt.congr {F : KeyF P k α} {w : World} {b n : Nat} {f g : α → Option Value} (h : MapAt F w b n f) (e : ∀ a, f a = g a) : MapAt F w b n g := by
  have : f = g := funext e
  rw [← this]; exact h
theorem MapAt.mono {F : KeyF P k α} {w : World} {b n m : Nat} {f : α → Option Value} (h : MapAt F w b n f) (hn : n ≤ m) : MapAt F w b m f := by
  obtain ⟨D, h⟩ := h
  exact ⟨D, h.owns.mono hn, h.has, h.at', h.key, h.num⟩
/-- 'm[k]'. -/
theorem MapAt.look {F : KeyF P k α} {w : World} {b n : Nat} {f : α → Option Value} (h : MapAt F w b n f) (K : Keyed P k) {t e : TypeId} (ht : P.underlying t = some (.map k e)) {z : Value} (hz : (zeroValue e).run P w = .ok z w) (a : α) :
    (Instr.lookup t (.map (some b)) (F.kv a) false).run P w = .ok ((f a).getD z) w := by
  obtain ⟨D, h⟩ := h
  obtain ⟨v, ps, hrun, hv⟩ := h.owns.lookup K ht hz (zd := .held z) (zp := []) rfl (F.ok a)
  rw [hrun]
  have hv2 : (DataW.held v : DataW Value) = D.atKey (F.kl a) (.held z) := by
    have h9 : (DataW.held v : DataW Value) = D.atKey (F.kl a) (.held z) ∧ ps = [] := by simpa [Rv] using hv
    exact h9.1
  cases hf : f a with
  | none =>
    have := h.has a
    rw [hf] at this
    rw [Maps.atKey_of_not_has this] at hv2
    simp at hv2
    rw [hv2]; rfl
  | some u =>
    rw [h.at' a u hf] at hv2
    simp at hv2
    rw [hv2]; rfl
/-- 'v, ok := m[k]'. -/
theorem MapAt.lookOk {F : KeyF P k α} {w : World} {b n : Nat} {f : α → Option Value} (h : MapAt F w b n f) (K : Keyed P k) {t e : TypeId} (ht : P.underlying t = some (.map k e)) {z : Value} (hz : (zeroValue e).run P w = .ok z w) (a : α) :
    (Instr.lookup t (.map (some b)) (F.kv a) true).run P w = .ok (.tuple #[(f a).getD z, .bool (f a).isSome]) w := by
  obtain ⟨D, h⟩ := h
  obtain ⟨v, ps, hrun, hv⟩ := h.owns.look_ok K ht hz (zd := .held z) (zp := []) rfl (F.ok a)
  rw [hrun, h.has]
  have hv2 : (DataW.held v : DataW Value) = D.atKey (F.kl a) (.held z) := by
    have h9 : (DataW.held v : DataW Value) = D.atKey (F.kl a) (.held z) ∧ ps = [] := by simpa [Rv] using hv
    exact h9.1
  cases hf : f a with
  | none =>
    have := h.has a
    rw [hf] at this
    rw [Maps.atKey_of_not_has this] at hv2
    simp at hv2
    rw [hv2]; rfl
  | some u =>
    rw [h.at' a u hf] at hv2
    simp at hv2
    rw [hv2]; rfl
section
variable [DecidableEq α]
def updF (f : α → Option Value) (a : α) (v : Option Value) : α → Option Value := fun x => if x = a then v else f x
/-- 'm[k] = v'. -/
theorem MapAt.store {F : KeyF P k α} {w : World} {b n : Nat} {f : α → Option Value} (h : MapAt F w b n f) (K : Keyed P k) {t e : TypeId} (ht : P.underlying t = some (.map k e)) (hn : n < maxLen) (a : α) (v : Value) :
    ∃ w', (Instr.mapUpdate t (.map (some b)) (F.kv a) v).run P w = .ok () w' ∧ MapAt F w' b (n + 1) (updF f a (some v)) ∧ w.mapTurned w' b := by
  obtain ⟨D, h⟩ := h
  obtain ⟨w', hrun, hown, ht'⟩ := h.owns.store K ht hn (F.ok a) (val := v) (d := .held v) (ps := []) rfl
  have hD := h.owns.isMap
  have hk := K.key (F.ok a)
  refine ⟨w', hrun, ⟨_, hown, fun x => ?_, fun x u hu z => ?_, fun l hl => ?_, ?_⟩, ht'⟩
  · unfold updF
    by_cases e : x = a
    · rw [if_pos e, e, Maps.has_put_same hD hk]; rfl
    · rw [if_neg e, Maps.has_put_other (F.ne K e), h.has]
  · unfold updF at hu
    by_cases e : x = a
    · rw [if_pos e] at hu
      cases hu
      rw [e, Maps.atKey_put_same hD hk]
    · rw [if_neg e] at hu
      rw [Maps.atKey_put_other (F.ne K e), h.at' x u hu]
  · by_cases e : l = F.kl a
    · exact ⟨a, e⟩
    · rw [Maps.has_put_other e] at hl
      exact h.key l hl
  · obtain ⟨ks, hnd, hm, hs⟩ := h.num
    have hsz := Maps.size_put (k := F.kl a) (h.owns.tidy K) (.held v)
    rw [h.has, hs] at hsz
    by_cases hf : (f a).isSome = true
    · refine ⟨ks, hnd, fun x => ?_, by rw [hsz, if_pos hf]⟩
      unfold updF
      by_cases e : x = a
      · rw [if_pos e, e]; simp [(hm a).2 hf]
      · rw [if_neg e]; exact hm x
    · refine ⟨a :: ks, List.nodup_cons.2 ⟨fun hx => hf ((hm a).1 hx), hnd⟩, fun x => ?_, by rw [hsz, if_neg hf]; rfl⟩
      unfold updF
      by_cases e : x = a
      · rw [if_pos e, e]; simp
      · rw [if_neg e, List.mem_cons]
        exact ⟨fun h1 => (hm x).1 (h1.resolve_left e), fun h1 => .inr ((hm x).2 h1)⟩
/-- 'delete(m, k)'. -/
theorem MapAt.drop {F : KeyF P k α} {w : World} {b n : Nat} {f : α → Option Value} (h : MapAt F w b n f) (K : Keyed P k) {t e : TypeId} (ht : P.underlying t = some (.map k e)) (a : α) (ty : TypeId) :
    ∃ w', (Builtin.delete_ #[t, k] ty #[.map (some b), F.kv a]).run P w = .ok (.tuple #[]) w' ∧ MapAt F w' b n (updF f a none) ∧ w.mapTurned w' b := by
  obtain ⟨D, h⟩ := h
  obtain ⟨w', hrun, hown, ht'⟩ := h.owns.drop K ht (F.ok a) ty
  refine ⟨w', hrun, ⟨_, hown, fun x => ?_, fun x u hu z => ?_, fun l hl => ?_, ?_⟩, ht'⟩
  · unfold updF
    by_cases e : x = a
    · rw [if_pos e, e, Maps.has_del_same]; rfl
    · rw [if_neg e, Maps.has_del_other (F.ne K e), h.has]
  · unfold updF at hu
    by_cases e : x = a
    · rw [if_pos e] at hu; cases hu
    · rw [if_neg e] at hu
      rw [Maps.atKey_del_other (F.ne K e), h.at' x u hu]
  · by_cases e : l = F.kl a
    · exact ⟨a, e⟩
    · rw [Maps.has_del_other e] at hl
      exact h.key l hl
  · obtain ⟨ks, hnd, hm, hs⟩ := h.num
    have hsz := Maps.size_del (k := F.kl a) (h.owns.tidy K)
    rw [h.has, hs] at hsz
    refine ⟨ks.erase a, hnd.erase a, fun x => ?_, ?_⟩
    · rw [hnd.mem_erase_iff]
      unfold updF
      by_cases e : x = a
      · rw [if_pos e]; simp [e]
      · rw [if_neg e]
        exact ⟨fun h1 => (hm x).1 h1.2, fun h1 => ⟨e, (hm x).2 h1⟩⟩
    · rw [List.length_erase]
      by_cases hf : (f a).isSome = true
      · rw [if_pos ((hm a).2 hf)]
        rw [if_pos hf] at hsz
        omega
      · rw [if_neg fun hx => hf ((hm a).1 hx)]
        rw [if_neg hf] at hsz
        omega
end
/-- 'len(m)'. -/
theorem MapAt.len {F : KeyF P k α} {w : World} {b n : Nat} {f : α → Option Value} (h : MapAt F w b n f) {t e : TypeId} (ht : P.underlying t = some (.map k e)) (ty : TypeId) :
    ∃ ks : List α, ks.Nodup ∧ (∀ a, a ∈ ks ↔ (f a).isSome = true) ∧ (Builtin.len_ #[t] ty #[.map (some b)]).run P w = .ok (.int .i64 (ks.length : Int)) w := by
  obtain ⟨D, h⟩ := h
  obtain ⟨ks, hnd, hm, hs⟩ := h.num
  refine ⟨ks, hnd, hm, ?_⟩
  rw [h.owns.len ht ty, hs]
end Go.Proofs.YtnenjgngahipdaaGreat
namespace Go.Proofs.YtnenjgngahipdaaGreat
open Go.RowKit Go.Maps
section
variable {P : Program} {k : TypeId} {α : Type}
/-- Those of 'seen' are behind the range, one by one. -/
def RangeAt (F : KeyF P k α) (w : World) (b r n : Nat) (f : α → Option Value) (seen : List α) (cnt : Nat) : Prop :=
  ∃ D left, MapD F w b n D f ∧ w.ranges P k Rv b r n D left cnt ∧ seen.Nodup ∧ (∀ a ∈ seen, (f a).isSome = true) ∧ (∀ a, left (F.kl a) = true ↔ ((f a).isSome = true ∧ a ∉ seen)) ∧ ∀ l, left l = true → ∃ a, l = F.kl a
theorem MapAt.range {F : KeyF P k α} {w : World} {b n : Nat} {f : α → Option Value} (h : MapAt F w b n f) (K : Keyed P k) {t e : TypeId} (ht : P.underlying t = some (.map k e)) :
    ∃ w' cnt, (Instr.range t (.map (some b))).run P w = .ok (.pointer (some ⟨w.heap.size, 0, none⟩)) w' ∧ RangeAt F w' b w.heap.size n f [] cnt ∧ w.grownBy w' none ∧ w'.heap.size = w.heap.size + 1 := by
  obtain ⟨D, h⟩ := h
  obtain ⟨w', hrun, hr, hg, hs⟩ := h.owns.range K ht
  refine ⟨w', _, hrun, ⟨D, _, ⟨hr.owns, h.has, h.at', h.key, h.num⟩, hr, List.nodup_nil, by simp, fun a => ?_, h.key⟩, hg, hs⟩
  rw [h.has]; simp
theorem RangeAt.map {F : KeyF P k α} {w : World} {b r n : Nat} {f : α → Option Value} {seen : List α} {cnt : Nat} (h : RangeAt F w b r n f seen cnt) : MapAt F w b n f := by
  obtain ⟨D, left, h, _⟩ := h
  exact ⟨D, h⟩
theorem RangeAt.lt {F : KeyF P k α} {w : World} {b r n : Nat} {f : α → Option Value} {seen : List α} {cnt : Nat} (h : RangeAt F w b r n f seen cnt) : r < w.heap.size ∧ b < w.heap.size ∧ r ≠ b := by
  obtain ⟨D, left, h, hr, _⟩ := h
  exact ⟨hr.lt, h.owns.lt, hr.ne⟩
theorem RangeAt.kept {F : KeyF P k α} {w w' : World} {b r n : Nat} {f : α → Option Value} {seen : List α} {cnt : Nat} {row : Option Nat} (h : RangeAt F w b r n f seen cnt) (hg : w.grownBy w' row) (hb : some b ≠ row) (hr : some r ≠ row) : RangeAt F w' b r n f seen cnt := by
  obtain ⟨D, left, h, hr', h1⟩ := h
  exact ⟨D, left, ⟨h.owns.kept hg hb, h.has, h.at', h.key, h.num⟩, hr'.kept hg hb hr, h1⟩
/-- The step: nothing is left, or some key that is left, and what is at it, comes. -/
theorem RangeAt.next {F : KeyF P k α} {w : World} {b r n : Nat} {f : α → Option Value} {seen : List α} {cnt : Nat} (h : RangeAt F w b r n f seen cnt) (K : Keyed P k) (ty : TypeId) :
    ((∀ a, (f a).isSome = true → a ∈ seen) ∧ (Instr.next (.pointer (some ⟨r, 0, none⟩)) false ty).run P w = .ok (.tuple #[.bool false]) w) ∨
    ∃ a v w' cnt', f a = some v ∧ a ∉ seen ∧ (Instr.next (.pointer (some ⟨r, 0, none⟩)) false ty).run P w = .ok (.tuple #[.bool true, F.kv a, v]) w' ∧ RangeAt F w' b r n f (seen ++ [a]) cnt' ∧ cnt' < cnt ∧
      w.grownBy w' (some r) ∧ w'.heap.size = w.heap.size ∧ (Instr.entry (.pointer (some ⟨r, 0, none⟩))).run P w' = .ok (.tuple #[F.kv a, v]) w' := by
  obtain ⟨D, left, h, hr, hnd, hsn, hl, hk⟩ := h
  rcases hr.next K ty with ⟨h0, hl0, hrun⟩ | ⟨key, v, kl, y, w', cnt', hkey, hlk, hv, hat, hrun, hrg, hlt, hgr, hsz, hen⟩
  · refine .inl ⟨fun a ha => ?_, hrun⟩
    apply Classical.byContradiction
    intro hn
    have := (hl a).2 ⟨ha, hn⟩
    rw [hl0] at this; cases this
  · obtain ⟨a, rfl⟩ := hk kl hlk
    obtain rfl : key = F.kv a := K.inj hkey (F.ok a)
    have hla := (hl a).1 hlk
    obtain ⟨u, hu⟩ := Option.isSome_iff_exists.1 hla.1
    have h1 := h.at' a u hu (.held u)
    rw [hat] at h1
    have h2 : y = (.held v, []) := by simpa [Rv] using hv.symm
    rw [h2] at h1
    have huv : v = u := by simpa using h1
    subst huv
    refine .inr ⟨a, v, w', cnt', hu, hla.2, hrun, ⟨D, _, ⟨hrg.owns, h.has, h.at', h.key, h.num⟩, hrg, ?_, fun x hx => ?_, fun x => ?_, fun l hl' => ?_⟩, hlt, hgr, hsz, hen⟩
    · rw [List.nodup_append]
      refine ⟨hnd, by simp, fun x hx z hz => ?_⟩
      simp at hz
      intro e
      rw [e, hz] at hx
      exact hla.2 hx
    · rcases List.mem_append.1 hx with hx | hx
      · exact hsn x hx
      · simp at hx
        rw [hx]; exact hla.1
    · by_cases e : x = a
      · subst e
        rw [WideAt.sameKey_self (K.key hkey)]
        simp
      · rw [Maps.sameKey_ne (F.ne K e)]
        simp only [Bool.not_false, Bool.and_true, List.mem_append, List.mem_singleton, not_or]
        rw [hl x]
        exact ⟨fun ⟨p, q⟩ => ⟨p, q, e⟩, fun ⟨p, q, _⟩ => ⟨p, q⟩⟩
    · rw [Bool.and_eq_true] at hl'
      exact hk l hl'.1
end
end Go.Proofs.YtnenjgngahipdaaGreat
namespace Go.Proofs.YtnenjgngahipdaaGreat
open Go.RowKit Go.Maps
section
variable {P : Program} {k : TypeId} {α : Type} {ops : Array Oper} {rest : List Oper} {o : Oper} {a : Act} {w : World} {Q : Exit → Act → World → Prop}
theorem at_look (hg : o.guard = none) (m x : Operand) (t : TypeId) (hop : o.op = Op.lookup t m x false) {F : KeyF P k α} (K : Keyed P k) {e : TypeId} (ht : P.underlying t = some (.map k e)) {z : Value} (hz : (zeroValue e).run P w = .ok z w) {b n : Nat} {f : α → Option Value}
    (hm : a.eval m = .map (some b)) (h : MapAt F w b n f) (u : α) (hx : a.eval x = F.kv u) (v : Value) (hv : (f u).getD z = v) (hK : wpList P ops Q rest (a.put o.dst v) w) : wpList P ops Q (o :: rest) a w := by
  refine wpList_plain hg fun K' hK' => ?_
  have hrun := h.look K ht hz u
  rw [hv] at hrun
  unfold Oper.wp
  simp [execOp, hop, hm, hx, hrun, Result.andThen]
  exact hK' _ _ hK
theorem at_lookOk (hg : o.guard = none) (m x : Operand) (t : TypeId) (hop : o.op = Op.lookup t m x true) {F : KeyF P k α} (K : Keyed P k) {e : TypeId} (ht : P.underlying t = some (.map k e)) {z : Value} (hz : (zeroValue e).run P w = .ok z w) {b n : Nat} {f : α → Option Value}
    (hm : a.eval m = .map (some b)) (h : MapAt F w b n f) (u : α) (hx : a.eval x = F.kv u) (v : Value) (q : Bool) (hv : (f u).getD z = v) (hq : (f u).isSome = q) (hK : wpList P ops Q rest (a.put o.dst (.tuple #[v, .bool q])) w) : wpList P ops Q (o :: rest) a w := by
  refine wpList_plain hg fun K' hK' => ?_
  have hrun := h.lookOk K ht hz u
  rw [hv, hq] at hrun
  unfold Oper.wp
  simp [execOp, hop, hm, hx, hrun, Result.andThen]
  exact hK' _ _ hK
theorem at_store [DecidableEq α] (hg : o.guard = none) (m x v : Operand) (t : TypeId) (hop : o.op = Op.mapUpdate t m x v) {F : KeyF P k α} (K : Keyed P k) {e : TypeId} (ht : P.underlying t = some (.map k e)) {b n : Nat} {f : α → Option Value}
    (hm : a.eval m = .map (some b)) (h : MapAt F w b n f) (hn : n < maxLen) (u : α) (hx : a.eval x = F.kv u) (val : Value) (hv : a.eval v = val)
    (hK : ∀ w', MapAt F w' b (n + 1) (updF f u (some val)) → w.mapTurned w' b → wpList P ops Q rest (a.put o.dst undef) w') : wpList P ops Q (o :: rest) a w := by
  refine wpList_plain hg fun K' hK' => ?_
  obtain ⟨w', hrun, r1, r2⟩ := h.store K ht hn u val
  unfold Oper.wp
  simp [execOp, hop, hm, hx, hv, hrun, Result.andThen]
  exact hK' _ _ (hK w' r1 r2)
theorem at_drop [DecidableEq α] (hg : o.guard = none) (m x : Operand) (t : TypeId) (hop : o.op = Op.call { callee := Callee.builtin Builtin.delete, args := #[m, x], argTypes := #[t, k] }) {F : KeyF P k α} (K : Keyed P k) {e : TypeId} (ht : P.underlying t = some (.map k e)) {b n : Nat} {f : α → Option Value}
    (hm : a.eval m = .map (some b)) (h : MapAt F w b n f) (u : α) (hx : a.eval x = F.kv u)
    (hK : ∀ w', MapAt F w' b n (updF f u none) → w.mapTurned w' b → wpList P ops Q rest (a.put o.dst (.tuple #[])) w') : wpList P ops Q (o :: rest) a w := by
  refine wpList_plain hg fun K' hK' => ?_
  obtain ⟨w', hrun, r1, r2⟩ := h.drop K ht u o.type
  unfold Oper.wp
  simp [execOp, hop, resolve, invoke, builtin, hm, hx, hrun, Result.andThen]
  exact hK' _ _ (hK w' r1 r2)
theorem at_size (hg : o.guard = none) (m : Operand) (t : TypeId) (hop : o.op = Op.call { callee := Callee.builtin Builtin.len, args := #[m], argTypes := #[t] }) {F : KeyF P k α} {e : TypeId} (ht : P.underlying t = some (.map k e)) {b n : Nat} {f : α → Option Value}
    (hm : a.eval m = .map (some b)) (h : MapAt F w b n f)
    (hK : ∀ ks : List α, ks.Nodup → (∀ x, x ∈ ks ↔ (f x).isSome = true) → wpList P ops Q rest (a.put o.dst (.int .i64 (ks.length : Int))) w) : wpList P ops Q (o :: rest) a w := by
  refine wpList_plain hg fun K' hK' => ?_
  obtain ⟨ks, h1, h2, hrun⟩ := h.len ht o.type
  unfold Oper.wp
  simp [execOp, hop, resolve, invoke, builtin, hm, hrun, Result.andThen]
  exact hK' _ _ (hK ks h1 h2)
theorem at_rangeM (hg : o.guard = none) (m : Operand) (t : TypeId) (hop : o.op = Op.range t m) {F : KeyF P k α} (K : Keyed P k) {e : TypeId} (ht : P.underlying t = some (.map k e)) {b n : Nat} {f : α → Option Value}
    (hm : a.eval m = .map (some b)) (h : MapAt F w b n f)
    (hK : ∀ w' cnt, RangeAt F w' b w.heap.size n f [] cnt → w.grownBy w' none → w'.heap.size = w.heap.size + 1 → wpList P ops Q rest (a.put o.dst (.pointer (some ⟨w.heap.size, 0, none⟩))) w') : wpList P ops Q (o :: rest) a w := by
  refine wpList_plain hg fun K' hK' => ?_
  obtain ⟨w', cnt, hrun, r1, r2, r3⟩ := h.range K ht
  unfold Oper.wp
  simp [execOp, hop, hm, hrun, Result.andThen]
  exact hK' _ _ (hK w' cnt r1 r2 r3)
/-- The step of a range: what comes is a key of one's own, and a value 'mk c' (invV: each value is one such). -/
theorem at_nextM {β : Type} (hg : o.guard = none) (it : Operand) (hop : o.op = Op.next it false) {F : KeyF P k α} (K : Keyed P k) (mk : β → Value) {b r n cnt : Nat} {f : α → Option Value} {seen : List α} (invV : ∀ u v, f u = some v → ∃ c, v = mk c)
    (hit : a.eval it = .pointer (some ⟨r, 0, none⟩)) (h : RangeAt F w b r n f seen cnt)
    (hDone : (∀ x, (f x).isSome = true → x ∈ seen) → wpList P ops Q rest (a.put o.dst (.tuple #[.bool false])) w)
    (hMore : ∀ (u : α) (c : β) (w' : World) (cnt' : Nat), f u = some (mk c) → u ∉ seen → RangeAt F w' b r n f (seen ++ [u]) cnt' → cnt' < cnt → w.grownBy w' (some r) → w'.heap.size = w.heap.size →
      (Instr.entry (.pointer (some ⟨r, 0, none⟩))).run P w' = .ok (.tuple #[F.kv u, mk c]) w' → wpList P ops Q rest (a.put o.dst (.tuple #[.bool true, F.kv u, mk c])) w') : wpList P ops Q (o :: rest) a w := by
  refine wpList_plain hg fun K' hK' => ?_
  unfold Oper.wp
  rcases h.next K o.type with ⟨hl, hrun⟩ | ⟨u, v, w', cnt', hu, hns, hrun, hr, hlt, hgr, hsz, hen⟩
  · simp [execOp, hop, hit, hrun, Result.andThen]
    exact hK' _ _ (hDone hl)
  · obtain ⟨c, rfl⟩ := invV u v hu
    simp [execOp, hop, hit, hrun, Result.andThen]
    exact hK' _ _ (hMore u c w' cnt' hu hns hr hlt hgr hsz hen)
end
end Go.Proofs.YtnenjgngahipdaaGreat
namespace Go.Proofs.YtnenjgngahipdaaGreat
open Go.RowKit Go.Maps Go.ChangeShapes Go.WideShapes Go.MapKept Go.ChangeMaps Go.WideElems
open Go.WideMaps (KeyLaw)
section
variable {P : Program} {k : TypeId} {α : Type}
theorem entry_runs {w : World} {t e : TypeId} {R : Value → Option (DataW Value × List MemPlace)} {b : Nat} {es : Array MapEntry} {clock : Nat} (K : KeyLaw P k) (ht : P.underlying t = some (.map k e)) {z : Value} (hz : ∀ u : World, (zeroValue e).run P u = .ok z u) (hb : w.heap[b]? = some (.map es clock)) (F : Fit P k R es clock)
    {key : Value} {kl : Lit} (hkey : keyOf P k key = some kl) :
    (∃ v1, (Instr.mapEntry t (.map (some b)) key).run P w = .ok v1 (setBlock w b (.map (es.push ⟨key, z, clock⟩) (clock + 1))) ∧ (Instr.mapUpdate t (.map (some b)) key z).run P w = .ok () (setBlock w b (.map (es.push ⟨key, z, clock⟩) (clock + 1))) ∧ (Instr.lookup t (.map (some b)) key false).run P w = .ok z w) ∨
    (∃ v1, (Instr.mapEntry t (.map (some b)) key).run P w = .ok v1 (setBlock w b (.map es clock))) := by
  rcases K.find w hkey es.toList F.keys with ⟨h1, h2⟩ | ⟨j, e0, h1, h2, h3⟩
  · refine .inl ⟨.tuple #[z, goInt clock], ?_, ?_, ?_⟩
    · simp [Instr.mapEntry, run_underlying ht, MapKept.run_getObj_map hb, K.check w false hkey, h1, hz, MapKept.run_setObj_map _ hb, Result.andThen, setBlock]
    · simp [Instr.mapUpdate, run_underlying ht, MapKept.run_getObj_map hb, K.check w false hkey, h1, MapKept.run_setObj_map _ hb, Result.andThen, setBlock]
    · simp [Instr.lookup, run_underlying ht, MapKept.run_getObj_map hb, K.check w es.isEmpty hkey, h1, hz, Result.andThen]
  · have hj : es[j]? = some e0 := by simpa using h2
    have hsame : es.modify j (fun e => { e with key := key }) = es := by
      apply Array.ext'
      rw [Array.toList_modify, modify_eq_set _ _ _ _ h2]
      have : ({ e0 with key := key } : MapEntry) = e0 := by rw [← h3]
      rw [this]
      exact set_self _ _ _ h2
    exact .inr ⟨.tuple #[e0.val, goInt e0.born], by simp [Instr.mapEntry, run_underlying ht, MapKept.run_getObj_map hb, K.check w false hkey, h1, hj, h3, K.stays w hkey, hsame, MapKept.run_setObj_map _ hb, Result.andThen, setBlock]⟩
theorem MapAt.entry [DecidableEq α] {F : KeyF P k α} {w : World} {b n : Nat} {f : α → Option Value} (h : MapAt F w b n f) (KL : KeyLaw P k) {t e : TypeId} (ht : P.underlying t = some (.map k e)) {z : Value} (hz : ∀ u : World, (zeroValue e).run P u = .ok z u) (hn : n < maxLen) (a : α) :
    ∃ (v0 : Value) (st : Nat) (w1 : World), (Instr.mapEntry t (.map (some b)) (F.kv a)).run P w = .ok (.tuple #[v0, goInt st]) w1 ∧ (Instr.lookup t (.map (some b)) (F.kv a) false).run P w1 = .ok ((f a).getD z) w1 ∧ w.mapTurned w1 b ∧
      ∀ val, ∃ w2, (Instr.entryStore t (.map (some b)) (goInt st) val).run P w1 = .ok () w2 ∧ MapAt F w2 b (n + 1) (updF f a (some val)) ∧ w.mapTurned w2 b := by
  have K : Keyed P k := Keyed.of_law KL
  have h0 := h
  obtain ⟨D, hD⟩ := h
  obtain ⟨es, clock, hb, Fi, _⟩ := hD.owns
  obtain ⟨v0, st, es1, clock1, hent, _, hst⟩ := entry_then_store KL ht hz hb Fi (F.ok a)
  have hb1 : (setBlock w b (.map es1 clock1)).heap[b]? = some (.map es1 clock1) := heap_setBlock_same hb _
  have t1 : w.mapTurned (setBlock w b (.map es1 clock1)) b := ⟨es, clock, es1, clock1, hb, rfl⟩
  refine ⟨v0, st, _, hent, ?_, t1, fun val => ?_⟩
  · rcases entry_runs KL ht hz hb Fi (F.ok a) with ⟨v1, g1, g2, g3⟩ | ⟨v1, g1⟩
    · rw [hent] at g1
      simp only [Result.ok.injEq] at g1
      obtain ⟨w', hrun, hm, _⟩ := h0.store K ht hn a z
      rw [g2] at hrun
      simp only [Result.ok.injEq, true_and] at hrun
      have h3 := h0.look K ht (hz w) a
      rw [g3] at h3
      simp only [Result.ok.injEq, and_true] at h3
      rw [g1.2, hrun, hm.look K ht (hz _) a, ← h3]
      unfold updF
      simp
    · rw [hent] at g1
      simp only [Result.ok.injEq] at g1
      have hm : MapAt F (setBlock w b (.map es1 clock1)) b n f := by
        rw [g1.2]
        exact h0.block (by rw [heap_setBlock_same hb, hb])
      exact hm.look K ht (hz _) a
  · obtain ⟨es', clock', r1, r2⟩ := hst _ val hb1
    obtain ⟨w', hrun, hm, _⟩ := h0.store K ht hn a val
    rw [r2] at hrun
    simp only [Result.ok.injEq, true_and] at hrun
    refine ⟨_, r1, hm.block ?_, t1.trans ⟨es1, clock1, es', clock', hb1, rfl⟩⟩
    rw [← hrun, heap_setBlock_same hb1, heap_setBlock_same hb]
end
end Go.Proofs.YtnenjgngahipdaaGreat
namespace Go.Proofs.YtnenjgngahipdaaGreat
open Go.RowKit Go.Maps
set_option linter.unusedVariables false
def keyNm : KeyF Tryz.prog 9 Nm := ⟨fun x => .string x.s, fun x => .string x.s.data.toList, fun x => WideMaps.keyOf_string_mk Tryz.underlying9 (by have := x.hs; unfold maxLen; omega), fun a b h => Nm.ext' (by simpa using h)⟩
/-- A row, each with what belongs to it. -/
def RowB {α β : Type} (w : World) (sz : Nat) (enc : α → β → List Value) (R : World → α → β → Prop) (l : List α) (it : Value) : Prop :=
  ∃ p cap, it = .slice p l.length cap ∧ (l.length ≤ cap ∧ cap ≤ 9223372036854775807) ∧ ∀ j (hj : j < l.length), ∃ b o e, p = some ⟨b, o, none⟩ ∧ CellsAt w b (o + j * sz) (enc l[j] e) ∧ R w l[j] e
theorem RowB.low {α β : Type} {w w' : World} {sz : Nat} {enc : α → β → List Value} {R : World → α → β → Prop} {l : List α} {it : Value} (h : RowB w sz enc R l it) (hl : Low w w') (hR : ∀ x e, R w x e → R w' x e) : RowB w' sz enc R l it := by
  obtain ⟨p, cap, rfl, hc, hx⟩ := h
  refine ⟨p, cap, rfl, hc, fun j hj => ?_⟩
  obtain ⟨b, o, e, rfl, h1, h2⟩ := hx j hj
  exact ⟨b, o, e, rfl, h1.low hl, hR _ _ h2⟩
theorem RowB.sl {α β : Type} {w : World} {sz : Nat} {enc : α → β → List Value} {R : World → α → β → Prop} {l : List α} {it : Value} (h : RowB w sz enc R l it) : ∃ p c, it = .slice p l.length c ∧ l.length ≤ c ∧ c ≤ 9223372036854775807 := by
  obtain ⟨p, cap, rfl, ⟨h1, h2⟩, -⟩ := h
  exact ⟨p, cap, rfl, h1, h2⟩
theorem RowB.at {α β : Type} {w : World} {sz : Nat} {enc : α → β → List Value} {R : World → α → β → Prop} {l : List α} {p : Option Addr} {m c : Nat} (h : RowB w sz enc R l (.slice p m c)) {j : Nat} (hj : j < l.length) :
    ∃ b o e, p = some ⟨b, o, none⟩ ∧ CellsAt w b (o + j * sz) (enc l[j] e) ∧ R w l[j] e := by
  obtain ⟨q, cap, hq, -, hr⟩ := h
  simp only [Value.slice.injEq] at hq
  obtain ⟨rfl, -, -⟩ := hq
  exact hr j hj
theorem RowB.nil {α β : Type} (w : World) (sz : Nat) (enc : α → β → List Value) (R : World → α → β → Prop) : RowB w sz enc R [] (.slice none 0 0) := ⟨none, 0, rfl, ⟨by simp, by simp⟩, fun j hj => absurd hj (Nat.not_lt_zero _)⟩
/-! ### Names -/
def encNm (x : Nm) (_ : Unit) : List Value := [.string x.s]
def NsAt (w : World) (l : List Nm) (v : Value) : Prop := RowB w 1 encNm (fun _ _ _ => True) l v
theorem NsAt.low {w w' : World} {l : List Nm} {v : Value} (h : NsAt w l v) (hl : Low w w') : NsAt w' l v := RowB.low h hl fun _ _ _ => trivial
theorem NsAt.at {w : World} {l : List Nm} {p : Option Addr} {m c : Nat} (h : NsAt w l (.slice p m c)) {j : Nat} (hj : j < l.length) : ∃ b o, p = some ⟨b, o, none⟩ ∧ w.cell? ⟨b, o + j, none⟩ = some (.string l[j].s) := by
  obtain ⟨b, o, e, rfl, h1, h2⟩ := RowB.at h hj
  refine ⟨b, o, rfl, ?_⟩
  have := h1 0 _ rfl
  rwa [Nat.mul_one, Nat.add_zero] at this
theorem NsAt.nil (w : World) : NsAt w [] (.slice none 0 0) := RowB.nil _ _ _ _
/-! ### Types of entities, actions -/
structure Et where
  nm : Nm
  ins : List Nm
  ats : List At
structure Ac where
  nm : Nm
  ins : List Nm
  ps : List Nm
  rs : List Nm
  ats : List At
def Et.r (x : Et) : Nm × List Nm := (x.nm, x.ins)
def Ac.r (x : Ac) : Nm × List Nm := (x.nm, x.ins)
def encEt (x : Et) (e : Value × Value) : List Value := [.string x.nm.s, e.1, e.2]
def encAc (x : Ac) (e : (Value × Value) × Value × Value) : List Value := [.string x.nm.s, e.1.1, e.1.2, e.2.1, e.2.2]
def EtOk (n : Nat) (w : World) (x : Et) (e : Value × Value) : Prop := NsAt w x.ins e.1 ∧ RAs (fun _ => True) w n x.ats e.2
def AcOk (n : Nat) (w : World) (x : Ac) (e : (Value × Value) × Value × Value) : Prop := NsAt w x.ins e.1.1 ∧ NsAt w x.ps e.1.2 ∧ NsAt w x.rs e.2.1 ∧ RAs (fun _ => True) w n x.ats e.2.2
theorem EtOk.low {n : Nat} {w w' : World} {x : Et} {e : Value × Value} (h : EtOk n w x e) (hl : Low w w') : EtOk n w' x e := ⟨h.1.low hl, RAs.low h.2 hl⟩
theorem AcOk.low {n : Nat} {w w' : World} {x : Ac} {e : (Value × Value) × Value × Value} (h : AcOk n w x e) (hl : Low w w') : AcOk n w' x e := ⟨h.1.low hl, h.2.1.low hl, h.2.2.1.low hl, RAs.low h.2.2.2 hl⟩
def EtsAt (n : Nat) (w : World) (l : List Et) (v : Value) : Prop := RowB w 3 encEt (EtOk n) l v
def AcsAt (n : Nat) (w : World) (l : List Ac) (v : Value) : Prop := RowB w 5 encAc (AcOk n) l v
theorem EtsAt.low {n : Nat} {w w' : World} {l : List Et} {v : Value} (h : EtsAt n w l v) (hl : Low w w') : EtsAt n w' l v := RowB.low h hl fun _ _ k => k.low hl
theorem AcsAt.low {n : Nat} {w w' : World} {l : List Ac} {v : Value} (h : AcsAt n w l v) (hl : Low w w') : AcsAt n w' l v := RowB.low h hl fun _ _ k => k.low hl
theorem RAs.sl {A : Nat → Prop} {w : World} {n : Nat} {l : List At} {v : Value} (h : RAs A w n l v) : ∃ p c, v = .slice p l.length c ∧ l.length ≤ c ∧ c ≤ 9223372036854775807 := RowR.sl h
theorem EtsAt.at {n : Nat} {w : World} {l : List Et} {p : Option Addr} {m c : Nat} (h : EtsAt n w l (.slice p m c)) {j : Nat} (hj : j < l.length) :
    ∃ b o pi ci pa ca, p = some ⟨b, o, none⟩ ∧ w.cell? ⟨b, o + j * 3, none⟩ = some (.string l[j].nm.s) ∧ w.cell? ⟨b, o + j * 3 + 1, none⟩ = some (.slice pi l[j].ins.length ci) ∧ w.cell? ⟨b, o + j * 3 + 2, none⟩ = some (.slice pa l[j].ats.length ca) ∧
      NsAt w l[j].ins (.slice pi l[j].ins.length ci) ∧ RAs (fun _ => True) w n l[j].ats (.slice pa l[j].ats.length ca) ∧ l[j].ins.length ≤ ci ∧ ci ≤ 9223372036854775807 ∧ l[j].ats.length ≤ ca ∧ ca ≤ 9223372036854775807 := by
  obtain ⟨b, o, ⟨e1, e2⟩, rfl, h1, h2, h3⟩ := RowB.at h hj
  obtain ⟨pi, ci, hi, z1, z2⟩ := RowB.sl h2
  obtain ⟨pa, ca, ha, z3, z4⟩ := RowR.sl h3
  simp only at hi ha h2 h3
  subst hi ha
  exact ⟨b, o, pi, ci, pa, ca, rfl, h1 0 _ rfl, h1 1 _ rfl, h1 2 _ rfl, h2, h3, z1, z2, z3, z4⟩
theorem AcsAt.at {n : Nat} {w : World} {l : List Ac} {p : Option Addr} {m c : Nat} (h : AcsAt n w l (.slice p m c)) {j : Nat} (hj : j < l.length) :
    ∃ b o pi ci pp cp pr cr pa ca, p = some ⟨b, o, none⟩ ∧ w.cell? ⟨b, o + j * 5, none⟩ = some (.string l[j].nm.s) ∧ w.cell? ⟨b, o + j * 5 + 1, none⟩ = some (.slice pi l[j].ins.length ci) ∧ w.cell? ⟨b, o + j * 5 + 2, none⟩ = some (.slice pp l[j].ps.length cp) ∧
      w.cell? ⟨b, o + j * 5 + 3, none⟩ = some (.slice pr l[j].rs.length cr) ∧ w.cell? ⟨b, o + j * 5 + 4, none⟩ = some (.slice pa l[j].ats.length ca) ∧
      NsAt w l[j].ins (.slice pi l[j].ins.length ci) ∧ NsAt w l[j].ps (.slice pp l[j].ps.length cp) ∧ NsAt w l[j].rs (.slice pr l[j].rs.length cr) ∧ RAs (fun _ => True) w n l[j].ats (.slice pa l[j].ats.length ca) ∧
      (l[j].ins.length ≤ ci ∧ ci ≤ 9223372036854775807) ∧ (l[j].ps.length ≤ cp ∧ cp ≤ 9223372036854775807) ∧ (l[j].rs.length ≤ cr ∧ cr ≤ 9223372036854775807) ∧ (l[j].ats.length ≤ ca ∧ ca ≤ 9223372036854775807) := by
  obtain ⟨b, o, ⟨⟨e1, e2⟩, e3, e4⟩, rfl, h1, h2, h3, h4, h5⟩ := RowB.at h hj
  obtain ⟨pi, ci, hi, z1, z2⟩ := RowB.sl h2
  obtain ⟨pp, cp, hp, z5, z6⟩ := RowB.sl h3
  obtain ⟨pr, cr, hr, z7, z8⟩ := RowB.sl h4
  obtain ⟨pa, ca, ha, z3, z4⟩ := RowR.sl h5
  simp only at hi ha hp hr h2 h3 h4 h5
  subst hi ha hp hr
  exact ⟨b, o, pi, ci, pp, cp, pr, cr, pa, ca, rfl, h1 0 _ rfl, h1 1 _ rfl, h1 2 _ rfl, h1 3 _ rfl, h1 4 _ rfl, h2, h3, h4, h5, ⟨z1, z2⟩, ⟨z5, z6⟩, ⟨z7, z8⟩, ⟨z3, z4⟩⟩
/-! ### Maps of rows -/
/-- Block b is a map of the first row of each name. -/
def InsAt (w : World) (b n : Nat) (g : Gra) : Prop := ∃ f, MapAt keyNm w b n f ∧ (∀ x, (f x).isSome = (look g x).isSome) ∧ ∀ x v, f x = some v → NsAt w (nxt g x) v
theorem InsAt.low {w w' : World} {b n : Nat} {g : Gra} (h : InsAt w b n g) (hl : Low w w') : InsAt w' b n g := by
  obtain ⟨f, h1, h2, h3⟩ := h
  exact ⟨f, h1.block (hl.2.2.2 _ h1.lt), h2, fun x v hv => (h3 x v hv).low hl⟩
theorem InsAt.lt {w : World} {b n : Nat} {g : Gra} (h : InsAt w b n g) : b < w.heap.size := by
  obtain ⟨f, h1, -⟩ := h
  exact h1.lt
theorem InsAt.made (w : World) : InsAt (w.alloc (.map #[] 0)) w.heap.size 0 [] := ⟨_, MapAt.made keyNm w, fun x => rfl, by intro x v hv; cases hv⟩
theorem InsAt.mono {w : World} {b n m : Nat} {g : Gra} (h : InsAt w b n g) (hm : n ≤ m) : InsAt w b m g := by
  obtain ⟨f, h1, h2⟩ := h
  exact ⟨f, h1.mono hm, h2⟩
/-- A row that is looked up. -/
theorem InsAt.get {w : World} {b n : Nat} {g : Gra} (h : InsAt w b n g) (x : Nm) : ∃ f p c, MapAt keyNm w b n f ∧ (f x).getD (.slice none 0 0) = .slice p (nxt g x).length c ∧ NsAt w (nxt g x) (.slice p (nxt g x).length c) ∧ (f x).isSome = (look g x).isSome ∧ (nxt g x).length ≤ c ∧ c ≤ 9223372036854775807 := by
  obtain ⟨f, h1, h2, h3⟩ := h
  cases hf : f x with
  | none =>
    have hl : look g x = none := by
      have := h2 x
      rw [hf] at this
      cases e : look g x with
      | none => rfl
      | some v => rw [e] at this; simp at this
    have hn : nxt g x = [] := by unfold nxt; rw [hl]; rfl
    refine ⟨f, none, 0, h1, by rw [hf, hn]; rfl, by rw [hn]; exact NsAt.nil w, h2 x, by rw [hn]; simp, by omega⟩
  | some v =>
    have h4 := h3 x v hf
    obtain ⟨p, c, rfl, z1, z2⟩ := RowB.sl h4
    exact ⟨f, p, c, h1, by rw [hf]; rfl, h4, h2 x, z1, z2⟩
theorem Low.turned {w a b : World} {k : Nat} (h : Low w a) (ht : a.mapTurned b k) (hk : w.heap.size ≤ k) : Low w b := by
  obtain ⟨es, cl, es', cl', hb, rfl⟩ := ht
  refine ⟨h.1, h.2.1, ?_, fun j hj => ?_⟩
  · have := h.2.2.1
    simp [ChangeMaps.setBlock]
    exact this
  · rw [← h.2.2.2 j hj]
    exact ChangeMaps.heap_setBlock_other hb _ (by omega)
end Go.Proofs.YtnenjgngahipdaaGreat
