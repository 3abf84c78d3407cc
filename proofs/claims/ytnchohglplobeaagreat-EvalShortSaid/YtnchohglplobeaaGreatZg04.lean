/- How types lie in memory. No condition. 'm[k] += x' on a map by keys of one's own: the entry, the look behind it, the store into it. Condition: the key's type is one that the library knows (by its elder law). Names, rows of names, maps of rows, schemas in memory. No condition. What a call that only reads may leave of memory: draws, and blocks of its own behind what was there; how a value lies in memory. No condition. Entities in memory by their names and their parents' slices; entity.parentsByName: the parents under each name, those of the first entity with it. No condition. A square table of bools in a block: its cells, a store, what was there and what is kept. No condition. The reference's Find: the first entity with a name. No condition. Plain: names to which no step leads are taken away in a list that grows while it is gone through. No condition. schema.stepsTo: how many steps lead to each name. Condition: not too many names. entity.stepsTo: how many steps lead to each name. Condition: no more than 100000 steps in all. Plain: a table of ways, filled name by name. No condition. The reference's Above: the table of ways between entities by number. Condition: no more than 1000 entities, rows no longer. Plain numbers: a whole number that 64 bits hold, and what stands in the place of one that they do not. No condition. ints.Add and ints.Sub: the sum and the difference, or 14. No condition but that the arguments are 64-bit numbers. few and size answer: few's yes says that all rows are short and the depth is small. No condition. The order of rows of values, item by item. No condition. The order of truths, of entities' names, of rows of names. No condition. -/
import Derived.Test.YtnchohglplobeaaGreatZg03
import Derived.Test.YtnchohglplobeaaGreatShelf
import Derived.Deep.QuietTactic
import Derived.Deep.LoopGhost
import Derived.Lib.Hide
import Derived.WideKeyEntry
import Derived.StringKeys
import Derived.Shelf.SlSortCmp.QuietGrown
import Derived.Shelf.SlicesQ.Load
import Derived.OwnWalk
import Derived.Handy
import Derived.Outline
import Derived.Deep.RegionHeld3
import Derived.Deep.RegionWith
set_option linter.unusedVariables false
set_option linter.unusedSimpArgs false
set_option linter.unnecessarySimpa false
namespace Go.Proofs.YtnchohglplobeaaGreat
open Go.RowKit
theorem low_drew {w w' : World} (h : Low w w') : Low w w'.drew := ⟨h.1, h.2.1, h.2.2.1, h.2.2.2⟩
structure InL (W : World) where
 w : World
 ok : Low W w
theorem Calls.low {P : Program} {f : FuncId} {args : Array Value} {W : World} {v : Value} (p : InL W)
  (h : Calls P f args p.w fun e w' => e = .returned v ∧ Low p.w w') : Calls P f args p.w fun e w'' => e = .returned v ∧ ∃ q : InL W, w'' = q.w :=
 h.mono fun _ _ ⟨he, hw⟩ => ⟨he, ⟨⟨_, p.ok.trans hw⟩, rfl⟩⟩
theorem InL.cell {W : World} (p : InL W) {a : Addr} {v : Value} (h : W.cell? a = some v) : p.w.cell? a = some v := p.ok.keep h
theorem InL.some (W : World) : Nonempty (InL W) := ⟨⟨W, Low.refl W⟩⟩
theorem retI {a b : Int} (h : a = b) : Ending.returned (.int .i64 a) = .returned (.int .i64 b) := by rw [h]
def tcs (t : T) (e v : Value) : List Value := [.int .i64 t.k, .string t.n, e, v]
def acs (x : At) (e v : Value) : List Value := [.string (an x), .int .i64 (aty x).k, .string (aty x).n, e, v, .bool (ao x)]
def CellsAt (w : World) (b o : Nat) (cs : List Value) : Prop := ∀ j v, cs[j]? = some v → w.cell? ⟨b, o + j, none⟩ = some v
theorem CellsAt.low {w w' : World} {b o : Nat} {cs : List Value} (hc : CellsAt w b o cs) (h : Low w w') : CellsAt w' b o cs := fun j v hv => h.keep (hc j v hv)
theorem cells4 {w : World} {b o : Nat} {t : T} {e v : Value} (hc : CellsAt w b o (tcs t e v)) :
  w.cell? ⟨b, o, none⟩ = some (.int .i64 t.k) ∧ w.cell? ⟨b, o + 1, none⟩ = some (.string t.n) ∧ w.cell? ⟨b, o + 2, none⟩ = some e ∧ w.cell? ⟨b, o + 3, none⟩ = some v := ⟨hc 0 _ rfl, hc 1 _ rfl, hc 2 _ rfl, hc 3 _ rfl⟩
theorem cells6 {w : World} {b o : Nat} {x : At} {e v : Value} (hc : CellsAt w b o (acs x e v)) :
  w.cell? ⟨b, o, none⟩ = some (.string (an x)) ∧ w.cell? ⟨b, o + 1, none⟩ = some (.int .i64 (aty x).k) ∧ w.cell? ⟨b, o + 2, none⟩ = some (.string (aty x).n) ∧ w.cell? ⟨b, o + 3, none⟩ = some e ∧ w.cell? ⟨b, o + 4, none⟩ = some v ∧ w.cell? ⟨b, o + 5, none⟩ = some (.bool (ao x)) :=
 ⟨hc 0 _ rfl, hc 1 _ rfl, hc 2 _ rfl, hc 3 _ rfl, hc 4 _ rfl, hc 5 _ rfl⟩
def RowR {α : Type} (A : Nat → Prop) (w : World) (sz : Nat) (enc : α → Value → Value → List Value) (R : α → Value → Value → Prop) (l : List α) (it : Value) : Prop :=
 ∃ p cap, it = .slice p l.length cap ∧ (l.length ≤ cap ∧ cap ≤ 9223372036854775807) ∧ (l = [] ∨ ∃ b o, p = some ⟨b, o, none⟩ ∧ A b ∧ ∀ j (hj : j < l.length), ∃ e v, CellsAt w b (o + j * sz) (enc l[j] e v) ∧ R l[j] e v)
def RT (A : Nat → Prop) (w : World) : Nat → T → Value → Value → Prop
 | 0, _, _, _ => False
 | n + 1, t, e, v => t.n.size ≤ 9223372036854775807 ∧ RowR A w 4 tcs (RT A w n) t.l e ∧ RowR A w 6 acs (fun x e v => (an x).size ≤ 9223372036854775807 ∧ RT A w n (aty x) e v) t.ats v
def RL (A : Nat → Prop) (w : World) (n : Nat) (l : List T) (e : Value) : Prop := RowR A w 4 tcs (RT A w n) l e
def RAs (A : Nat → Prop) (w : World) (n : Nat) (l : List At) (v : Value) : Prop := RowR A w 6 acs (fun x e v => (an x).size ≤ 9223372036854775807 ∧ RT A w n (aty x) e v) l v
theorem cell_to {w w' : World} {b o : Nat} {v : Value} (h : w.cell? ⟨b, o, none⟩ = some v) (hb : b < w.heap.size → w'.heap[b]? = w.heap[b]?) : w'.cell? ⟨b, o, none⟩ = some v := by
 have := World.cell?_of_block (w := w) (w' := w') (a := ⟨b, o, none⟩) (hb (cell_lt h))
 rw [this]; exact h
theorem RowR.to {α : Type} {A A' : Nat → Prop} {w w' : World} {sz : Nat} {enc : α → Value → Value → List Value} {R R' : α → Value → Value → Prop} {l : List α} {it : Value} (he : ∀ x e v, ∃ u, (enc x e v)[0]? = some u)
  (h : ∀ b, A b → b < w.heap.size → A' b ∧ w'.heap[b]? = w.heap[b]?) (hR : ∀ x e v, x ∈ l → R x e v → R' x e v) (hr : RowR A w sz enc R l it) : RowR A' w' sz enc R' l it := by
 obtain ⟨p, cap, rfl, hc, hr⟩ := hr
 refine ⟨p, cap, rfl, hc, ?_⟩
 rcases hr with h0 | ⟨b, o, rfl, ha, hr⟩
 ·exact .inl h0
 ·rcases Nat.eq_zero_or_pos l.length with h0 | h0
  ·exact .inl (List.eq_nil_of_length_eq_zero h0)
  ·obtain ⟨e, v, hc0, -⟩ := hr 0 h0
   obtain ⟨u, hu⟩ := he l[0] e v
   have hb := cell_lt (hc0 0 u hu)
   refine .inr ⟨b, o, rfl, (h b ha hb).1, fun j hj => ?_⟩
   obtain ⟨e, v, hc, hr⟩ := hr j hj
   exact ⟨e, v, fun j v hv => cell_to (hc j v hv) fun k => (h b ha k).2, hR _ _ _ (List.getElem_mem hj) hr⟩
theorem tcs_0 (x : T) (e v : Value) : ∃ u, (tcs x e v)[0]? = some u := ⟨_, rfl⟩
theorem acs_0 (x : At) (e v : Value) : ∃ u, (acs x e v)[0]? = some u := ⟨_, rfl⟩
theorem RT.to {A A' : Nat → Prop} {w w' : World} (h : ∀ b, A b → b < w.heap.size → A' b ∧ w'.heap[b]? = w.heap[b]?) : ∀ {n : Nat} {t : T} {e v : Value}, RT A w n t e v → RT A' w' n t e v
 | 0, _, _, _, hr => hr
 | n + 1, t, e, v, hr => ⟨hr.1, RowR.to tcs_0 h (fun _ _ _ _ => RT.to h) hr.2.1, RowR.to acs_0 h (fun _ _ _ _ k => ⟨k.1, RT.to h k.2⟩) hr.2.2⟩
theorem RT.low {A : Nat → Prop} {w w' : World} {n : Nat} {t : T} {e v : Value} (hr : RT A w n t e v) (h : Low w w') : RT A w' n t e v := RT.to (fun b ha hb => ⟨ha, h.2.2.2 b hb⟩) hr
theorem RT.imp {A A' : Nat → Prop} {w : World} {n : Nat} {t : T} {e v : Value} (hr : RT A w n t e v) (h : ∀ b, A b → A' b) : RT A' w n t e v := RT.to (fun b ha _ => ⟨h b ha, rfl⟩) hr
theorem RL.to {A A' : Nat → Prop} {w w' : World} (h : ∀ b, A b → b < w.heap.size → A' b ∧ w'.heap[b]? = w.heap[b]?) {n : Nat} {l : List T} {e : Value} (hr : RL A w n l e) : RL A' w' n l e := RowR.to tcs_0 h (fun _ _ _ _ => RT.to h) hr
theorem RAs.to {A A' : Nat → Prop} {w w' : World} (h : ∀ b, A b → b < w.heap.size → A' b ∧ w'.heap[b]? = w.heap[b]?) {n : Nat} {l : List At} {e : Value} (hr : RAs A w n l e) : RAs A' w' n l e := RowR.to acs_0 h (fun _ _ _ _ k => ⟨k.1, RT.to h k.2⟩) hr
theorem RL.low {A : Nat → Prop} {w w' : World} {n : Nat} {l : List T} {e : Value} (hr : RL A w n l e) (h : Low w w') : RL A w' n l e := RL.to (fun b ha hb => ⟨ha, h.2.2.2 b hb⟩) hr
theorem RAs.low {A : Nat → Prop} {w w' : World} {n : Nat} {l : List At} {e : Value} (hr : RAs A w n l e) (h : Low w w') : RAs A w' n l e := RAs.to (fun b ha hb => ⟨ha, h.2.2.2 b hb⟩) hr
theorem RT.lt {A : Nat → Prop} {w : World} {n : Nat} {t : T} {e v : Value} (hr : RT A w n t e v) : RT (fun b => A b ∧ b < w.heap.size) w n t e v := RT.to (fun b ha hb => ⟨⟨ha, hb⟩, rfl⟩) hr
theorem RAs.lt {A : Nat → Prop} {w : World} {n : Nat} {l : List At} {v : Value} (hr : RAs A w n l v) : RAs (fun b => A b ∧ b < w.heap.size) w n l v := RAs.to (fun b ha hb => ⟨⟨ha, hb⟩, rfl⟩) hr
theorem RL.lt {A : Nat → Prop} {w : World} {n : Nat} {l : List T} {v : Value} (hr : RL A w n l v) : RL (fun b => A b ∧ b < w.heap.size) w n l v := RL.to (fun b ha hb => ⟨⟨ha, hb⟩, rfl⟩) hr
theorem RowR.mem {α : Type} {A : Nat → Prop} {w : World} {sz : Nat} {enc : α → Value → Value → List Value} {R : α → Value → Value → Prop} {l : List α} {it : Value} (hr : RowR A w sz enc R l it) {x : α} (hx : x ∈ l) : ∃ e v, R x e v := by
 obtain ⟨p, cap, rfl, hc, hr⟩ := hr
 obtain ⟨j, hj, rfl⟩ := List.getElem_of_mem hx
 rcases hr with h0 | ⟨b, o, rfl, ha, hr⟩
 ·rw [h0] at hj; exact absurd hj (Nat.not_lt_zero _)
 ·obtain ⟨e, v, -, h⟩ := hr j hj
  exact ⟨e, v, h⟩
theorem RT.dp {A : Nat → Prop} {w : World} : ∀ {n : Nat} {t : T} {e v : Value}, RT A w n t e v → Dp n t
 | 0, _, _, _, h => h
 | n + 1, t, e, v, h => fun x hx => by
  rcases List.mem_append.1 hx with hx | hx
  ·obtain ⟨e, v, h⟩ := RowR.mem h.2.1 hx; exact RT.dp h
  ·obtain ⟨y, hy, rfl⟩ := List.mem_map.1 hx
   obtain ⟨e, v, h⟩ := RowR.mem h.2.2 hy; exact RT.dp h.2
theorem RT.re {A : Nat → Prop} {w : World} : ∀ {m n : Nat} {t : T} {e v : Value}, Dp m t → RT A w n t e v → RT A w m t e v
 | 0, _, _, _, _, h, _ => h.elim
 | _ + 1, 0, _, _, _, _, h => h.elim
 | m + 1, n + 1, t, e, v, hd, h => ⟨h.1, RowR.to tcs_0 (fun b ha _ => ⟨ha, rfl⟩) (fun _ _ _ hx => RT.re (hd _ (ins_l hx))) h.2.1, RowR.to acs_0 (fun b ha _ => ⟨ha, rfl⟩) (fun _ _ _ hx k => ⟨k.1, RT.re (hd _ (ins_as hx)) k.2⟩) h.2.2⟩
theorem RowR.sl {α : Type} {A : Nat → Prop} {w : World} {sz : Nat} {enc : α → Value → Value → List Value} {R : α → Value → Value → Prop} {l : List α} {it : Value} (hr : RowR A w sz enc R l it) :
  ∃ p c, it = .slice p l.length c ∧ l.length ≤ c ∧ c ≤ 9223372036854775807 := by
 obtain ⟨p, cap, rfl, ⟨h1, h2⟩, -⟩ := hr
 exact ⟨p, cap, rfl, h1, h2⟩
theorem RT.sl {A : Nat → Prop} {w : World} {n : Nat} {t : T} {e v : Value} (hr : RT A w n t e v) :
  ∃ pe ce pv cv, e = .slice pe t.l.length ce ∧ v = .slice pv t.ats.length cv ∧ t.l.length ≤ ce ∧ ce ≤ 9223372036854775807 ∧ t.ats.length ≤ cv ∧ cv ≤ 9223372036854775807 := by
 cases n with
 | zero => exact hr.elim
 | succ n =>
  obtain ⟨pe, ce, rfl, h1, h2⟩ := hr.2.1.sl
  obtain ⟨pv, cv, rfl, h3, h4⟩ := hr.2.2.sl
  exact ⟨pe, ce, pv, cv, rfl, rfl, h1, h2, h3, h4⟩
theorem RL.at {A : Nat → Prop} {w : World} {n : Nat} {l : List T} {p : Option Addr} {m c : Nat} (h : RL A w n l (.slice p m c)) {j : Nat} (hj : j < l.length) :
  ∃ b o pe ce pv cv, p = some ⟨b, o, none⟩ ∧ A b ∧ w.cell? ⟨b, o + j * 4, none⟩ = some (.int .i64 l[j].k) ∧ w.cell? ⟨b, o + j * 4 + 1, none⟩ = some (.string l[j].n) ∧
   w.cell? ⟨b, o + j * 4 + 2, none⟩ = some (.slice pe l[j].l.length ce) ∧ w.cell? ⟨b, o + j * 4 + 3, none⟩ = some (.slice pv l[j].ats.length cv) ∧ RT A w n l[j] (.slice pe l[j].l.length ce) (.slice pv l[j].ats.length cv) := by
 obtain ⟨q, cap, hq, -, hr⟩ := h
 simp only [Value.slice.injEq] at hq
 obtain ⟨rfl, -, -⟩ := hq
 rcases hr with h0 | ⟨b, o, rfl, ha, hr⟩
 ·rw [h0] at hj; exact absurd hj (Nat.not_lt_zero _)
 ·obtain ⟨e, v, hc, hx⟩ := hr j hj
  obtain ⟨pe, ce, pv, cv, rfl, rfl, -⟩ := hx.sl
  obtain ⟨c0, c1, c2, c3⟩ := cells4 hc
  exact ⟨b, o, pe, ce, pv, cv, rfl, ha, c0, c1, c2, c3, hx⟩
theorem RAs.at {A : Nat → Prop} {w : World} {n : Nat} {l : List At} {p : Option Addr} {m c : Nat} (h : RAs A w n l (.slice p m c)) {j : Nat} (hj : j < l.length) :
  ∃ b o pe ce pv cv, p = some ⟨b, o, none⟩ ∧ A b ∧ w.cell? ⟨b, o + j * 6, none⟩ = some (.string (an l[j])) ∧ w.cell? ⟨b, o + j * 6 + 1, none⟩ = some (.int .i64 (aty l[j]).k) ∧ w.cell? ⟨b, o + j * 6 + 2, none⟩ = some (.string (aty l[j]).n) ∧
   w.cell? ⟨b, o + j * 6 + 3, none⟩ = some (.slice pe (aty l[j]).l.length ce) ∧ w.cell? ⟨b, o + j * 6 + 4, none⟩ = some (.slice pv (aty l[j]).ats.length cv) ∧ w.cell? ⟨b, o + j * 6 + 5, none⟩ = some (.bool (ao l[j])) ∧
   (an l[j]).size ≤ 9223372036854775807 ∧ RT A w n (aty l[j]) (.slice pe (aty l[j]).l.length ce) (.slice pv (aty l[j]).ats.length cv) := by
 obtain ⟨q, cap, hq, -, hr⟩ := h
 simp only [Value.slice.injEq] at hq
 obtain ⟨rfl, -, -⟩ := hq
 rcases hr with h0 | ⟨b, o, rfl, ha, hr⟩
 ·rw [h0] at hj; exact absurd hj (Nat.not_lt_zero _)
 ·obtain ⟨e, v, hc, hs, hx⟩ := hr j hj
  obtain ⟨pe, ce, pv, cv, rfl, rfl, -⟩ := hx.sl
  obtain ⟨c0, c1, c2, c3, c4, c5⟩ := cells6 hc
  exact ⟨b, o, pe, ce, pv, cv, rfl, ha, c0, c1, c2, c3, c4, c5, hs, hx⟩
theorem RL.nil (A : Nat → Prop) (w : World) (n : Nat) : RL A w n [] (.slice none 0 0) := ⟨none, 0, rfl, ⟨by simp, by simp⟩, .inl rfl⟩
theorem RAs.nil (A : Nat → Prop) (w : World) (n : Nat) : RAs A w n [] (.slice none 0 0) := ⟨none, 0, rfl, ⟨by simp, by simp⟩, .inl rfl⟩
theorem RT.kind (A : Nat → Prop) (w : World) (n : Nat) (k : Int) : RT A w (n + 1) (.mk k ⟨#[]⟩ [] []) (.slice none 0 0) (.slice none 0 0) := ⟨(by decide : (⟨#[]⟩ : ByteArray).size ≤ 9223372036854775807), RL.nil A w n, RAs.nil A w n⟩
end Go.Proofs.YtnchohglplobeaaGreat
namespace Go.Proofs.YtnchohglplobeaaGreat
open Go.RowKit Go.Maps Go.ChangeShapes Go.WideShapes Go.MapKept Go.ChangeMaps Go.WideElems
open Go.WideMaps (KeyLaw)
section
variable {P : Program} {k : TypeId} {α : Type}
theorem entry_runs {w : World} {t e : TypeId} {R : Value → Option (DataW Value × List MemPlace)} {b : Nat} {es : Array MapEntry} {clock : Nat} (K : KeyLaw P k) (ht : P.underlying t = some (.map k e)) {z : Value} (hz : ∀ u : World, (zeroValue e).run P u = .ok z u) (hb : w.heap[b]? = some (.map es clock)) (F : Fit P k R es clock)
  {key : Value} {kl : Lit} (hkey : keyOf P k key = some kl) :
  (∃ v1, (Instr.mapEntry t (.map (some b)) key).run P w = .ok v1 (setBlock w b (.map (es.push ⟨key, z, clock⟩) (clock + 1))) ∧ (Instr.mapUpdate t (.map (some b)) key z).run P w = .ok () (setBlock w b (.map (es.push ⟨key, z, clock⟩) (clock + 1))) ∧ (Instr.lookup t (.map (some b)) key false).run P w = .ok z w) ∨
  (∃ v1, (Instr.mapEntry t (.map (some b)) key).run P w = .ok v1 (setBlock w b (.map es clock))) := by
 rcases K.find w hkey es.toList F.keys with ⟨h1, h2⟩ | ⟨j, e0, h1, h2, h3⟩
 ·refine .inl ⟨.tuple #[z, goInt clock], ?_, ?_, ?_⟩
  ·simp [Instr.mapEntry, run_underlying ht, MapKept.run_getObj_map hb, K.check w false hkey, h1, hz, MapKept.run_setObj_map _ hb, Result.andThen, setBlock]
  ·simp [Instr.mapUpdate, run_underlying ht, MapKept.run_getObj_map hb, K.check w false hkey, h1, MapKept.run_setObj_map _ hb, Result.andThen, setBlock]
  ·simp [Instr.lookup, run_underlying ht, MapKept.run_getObj_map hb, K.check w es.isEmpty hkey, h1, hz, Result.andThen]
 ·have hj : es[j]? = some e0 := by simpa using h2
  have hsame : es.modify j (fun e => { e with key := key }) = es := by
   apply Array.ext'
   rw [Array.toList_modify, modify_eq_set _ _ _ _ h2]
   have : ({ e0 with key := key } : MapEntry) = e0 := by rw [← h3]
   rw [this]
   exact set_self _ _ _ h2
  exact .inr ⟨.tuple #[e0.val, goInt e0.born], by simp [Instr.mapEntry, run_underlying ht, MapKept.run_getObj_map hb, K.check w false hkey, h1, hj, h3, K.stays w hkey, hsame, MapKept.run_setObj_map _ hb, Result.andThen, setBlock]⟩
theorem MapAt.entry [DecidableEq α] {F : KeyF P k α} {w : World} {b n : Nat} {f : α → Option Value} (h : MapAt F w b n f) (KL : KeyLaw P k) {t e : TypeId} (ht : P.underlying t = some (.map k e)) {z : Value} (hz : ∀ u : World, (zeroValue e).run P u = .ok z u) (hn : n < maxLen) (a : α) :
  ∃ (v0 : Value) (st : Nat) (w1 : World), (Instr.mapEntry t (.map (some b)) (F.kv a)).run P w = .ok (.tuple #[v0, goInt st]) w1 ∧ (Instr.lookup t (.map (some b)) (F.kv a) false).run P w1 = .ok ((f a).getD z) w1 ∧ w.mapTurned w1 b ∧
   ∀ val, ∃ w2, (Instr.entryStore t (.map (some b)) (goInt st) val).run P w1 = .ok () w2 ∧ MapAt F w2 b (n + 1) (updF f a (some val)) ∧ w.mapTurned w2 b := by
 have K : Keyed P k := Keyed.of_law KL
 have h0 := h
 obtain ⟨D, hD⟩ := h
 obtain ⟨es, clock, hb, Fi, _⟩ := hD.owns
 obtain ⟨v0, st, es1, clock1, hent, _, hst⟩ := entry_then_store KL ht hz hb Fi (F.ok a)
 have hb1 : (setBlock w b (.map es1 clock1)).heap[b]? = some (.map es1 clock1) := heap_setBlock_same hb _
 have t1 : w.mapTurned (setBlock w b (.map es1 clock1)) b := ⟨es, clock, es1, clock1, hb, rfl⟩
 refine ⟨v0, st, _, hent, ?_, t1, fun val => ?_⟩
 ·rcases entry_runs KL ht hz hb Fi (F.ok a) with ⟨v1, g1, g2, g3⟩ | ⟨v1, g1⟩
  ·rw [hent] at g1
   simp only [Result.ok.injEq] at g1
   obtain ⟨w', hrun, hm, _⟩ := h0.store K ht hn a z
   rw [g2] at hrun
   simp only [Result.ok.injEq, true_and] at hrun
   have h3 := h0.look K ht (hz w) a
   rw [g3] at h3
   simp only [Result.ok.injEq, and_true] at h3
   rw [g1.2, hrun, hm.look K ht (hz _) a, ← h3]
   unfold updF
   simp
  ·rw [hent] at g1
   simp only [Result.ok.injEq] at g1
   have hm : MapAt F (setBlock w b (.map es1 clock1)) b n f := by
    rw [g1.2]
    exact h0.block (by rw [heap_setBlock_same hb, hb])
   exact hm.look K ht (hz _) a
 ·obtain ⟨es', clock', r1, r2⟩ := hst _ val hb1
  obtain ⟨w', hrun, hm, _⟩ := h0.store K ht hn a val
  rw [r2] at hrun
  simp only [Result.ok.injEq, true_and] at hrun
  refine ⟨_, r1, hm.block ?_, t1.trans ⟨es1, clock1, es', clock', hb1, rfl⟩⟩
  rw [← hrun, heap_setBlock_same hb1, heap_setBlock_same hb]
end
end Go.Proofs.YtnchohglplobeaaGreat
namespace Go.Proofs.YtnchohglplobeaaGreat
open Go.RowKit Go.Maps
def keyNm : KeyF Tryz.prog 9 Nm := ⟨fun x => .string x.s, fun x => .string x.s.data.toList, fun x => WideMaps.keyOf_string_mk Tryz.underlying9 (by have := x.hs; unfold maxLen; omega), fun a b h => Nm.ext' (by simpa using h)⟩
def RowB {α β : Type} (w : World) (sz : Nat) (enc : α → β → List Value) (R : World → α → β → Prop) (l : List α) (it : Value) : Prop :=
 ∃ p cap, it = .slice p l.length cap ∧ (l.length ≤ cap ∧ cap ≤ 9223372036854775807) ∧ ∀ j (hj : j < l.length), ∃ b o e, p = some ⟨b, o, none⟩ ∧ CellsAt w b (o + j * sz) (enc l[j] e) ∧ R w l[j] e
theorem RowB.low {α β : Type} {w w' : World} {sz : Nat} {enc : α → β → List Value} {R : World → α → β → Prop} {l : List α} {it : Value} (h : RowB w sz enc R l it) (hl : Low w w') (hR : ∀ x e, R w x e → R w' x e) : RowB w' sz enc R l it := by
 obtain ⟨p, cap, rfl, hc, hx⟩ := h
 refine ⟨p, cap, rfl, hc, fun j hj => ?_⟩
 obtain ⟨b, o, e, rfl, h1, h2⟩ := hx j hj
 exact ⟨b, o, e, rfl, h1.low hl, hR _ _ h2⟩
theorem RowB.sl {α β : Type} {w : World} {sz : Nat} {enc : α → β → List Value} {R : World → α → β → Prop} {l : List α} {it : Value} (h : RowB w sz enc R l it) : ∃ p c, it = .slice p l.length c ∧ l.length ≤ c ∧ c ≤ 9223372036854775807 := by
 obtain ⟨p, cap, rfl, ⟨h1, h2⟩, -⟩ := h
 exact ⟨p, cap, rfl, h1, h2⟩
theorem RowB.at {α β : Type} {w : World} {sz : Nat} {enc : α → β → List Value} {R : World → α → β → Prop} {l : List α} {p : Option Addr} {m c : Nat} (h : RowB w sz enc R l (.slice p m c)) {j : Nat} (hj : j < l.length) :
  ∃ b o e, p = some ⟨b, o, none⟩ ∧ CellsAt w b (o + j * sz) (enc l[j] e) ∧ R w l[j] e := by
 obtain ⟨q, cap, hq, -, hr⟩ := h
 simp only [Value.slice.injEq] at hq
 obtain ⟨rfl, -, -⟩ := hq
 exact hr j hj
theorem RowB.nil {α β : Type} (w : World) (sz : Nat) (enc : α → β → List Value) (R : World → α → β → Prop) : RowB w sz enc R [] (.slice none 0 0) := ⟨none, 0, rfl, ⟨by simp, by simp⟩, fun j hj => absurd hj (Nat.not_lt_zero _)⟩
def encNm (x : Nm) (_ : Unit) : List Value := [.string x.s]
def NsAt (w : World) (l : List Nm) (v : Value) : Prop := RowB w 1 encNm (fun _ _ _ => True) l v
theorem NsAt.low {w w' : World} {l : List Nm} {v : Value} (h : NsAt w l v) (hl : Low w w') : NsAt w' l v := RowB.low h hl fun _ _ _ => trivial
theorem NsAt.at {w : World} {l : List Nm} {p : Option Addr} {m c : Nat} (h : NsAt w l (.slice p m c)) {j : Nat} (hj : j < l.length) : ∃ b o, p = some ⟨b, o, none⟩ ∧ w.cell? ⟨b, o + j, none⟩ = some (.string l[j].s) := by
 obtain ⟨b, o, e, rfl, h1, h2⟩ := RowB.at h hj
 refine ⟨b, o, rfl, ?_⟩
 have := h1 0 _ rfl
 rwa [Nat.mul_one, Nat.add_zero] at this
theorem NsAt.nil (w : World) : NsAt w [] (.slice none 0 0) := RowB.nil _ _ _ _
structure Et where
 nm : Nm
 ins : List Nm
 ats : List At
structure Ac where
 nm : Nm
 ins : List Nm
 ps : List Nm
 rs : List Nm
 ats : List At
def Et.r (x : Et) : Nm × List Nm := (x.nm, x.ins)
def Ac.r (x : Ac) : Nm × List Nm := (x.nm, x.ins)
def encEt (x : Et) (e : Value × Value) : List Value := [.string x.nm.s, e.1, e.2]
def encAc (x : Ac) (e : (Value × Value) × Value × Value) : List Value := [.string x.nm.s, e.1.1, e.1.2, e.2.1, e.2.2]
def EtOk (n : Nat) (w : World) (x : Et) (e : Value × Value) : Prop := NsAt w x.ins e.1 ∧ RAs (fun _ => True) w n x.ats e.2
def AcOk (n : Nat) (w : World) (x : Ac) (e : (Value × Value) × Value × Value) : Prop := NsAt w x.ins e.1.1 ∧ NsAt w x.ps e.1.2 ∧ NsAt w x.rs e.2.1 ∧ RAs (fun _ => True) w n x.ats e.2.2
theorem EtOk.low {n : Nat} {w w' : World} {x : Et} {e : Value × Value} (h : EtOk n w x e) (hl : Low w w') : EtOk n w' x e := ⟨h.1.low hl, RAs.low h.2 hl⟩
theorem AcOk.low {n : Nat} {w w' : World} {x : Ac} {e : (Value × Value) × Value × Value} (h : AcOk n w x e) (hl : Low w w') : AcOk n w' x e := ⟨h.1.low hl, h.2.1.low hl, h.2.2.1.low hl, RAs.low h.2.2.2 hl⟩
def EtsAt (n : Nat) (w : World) (l : List Et) (v : Value) : Prop := RowB w 3 encEt (EtOk n) l v
def AcsAt (n : Nat) (w : World) (l : List Ac) (v : Value) : Prop := RowB w 5 encAc (AcOk n) l v
theorem EtsAt.low {n : Nat} {w w' : World} {l : List Et} {v : Value} (h : EtsAt n w l v) (hl : Low w w') : EtsAt n w' l v := RowB.low h hl fun _ _ k => k.low hl
theorem AcsAt.low {n : Nat} {w w' : World} {l : List Ac} {v : Value} (h : AcsAt n w l v) (hl : Low w w') : AcsAt n w' l v := RowB.low h hl fun _ _ k => k.low hl
theorem RAs.sl {A : Nat → Prop} {w : World} {n : Nat} {l : List At} {v : Value} (h : RAs A w n l v) : ∃ p c, v = .slice p l.length c ∧ l.length ≤ c ∧ c ≤ 9223372036854775807 := RowR.sl h
theorem EtsAt.at {n : Nat} {w : World} {l : List Et} {p : Option Addr} {m c : Nat} (h : EtsAt n w l (.slice p m c)) {j : Nat} (hj : j < l.length) :
  ∃ b o pi ci pa ca, p = some ⟨b, o, none⟩ ∧ w.cell? ⟨b, o + j * 3, none⟩ = some (.string l[j].nm.s) ∧ w.cell? ⟨b, o + j * 3 + 1, none⟩ = some (.slice pi l[j].ins.length ci) ∧ w.cell? ⟨b, o + j * 3 + 2, none⟩ = some (.slice pa l[j].ats.length ca) ∧
   NsAt w l[j].ins (.slice pi l[j].ins.length ci) ∧ RAs (fun _ => True) w n l[j].ats (.slice pa l[j].ats.length ca) ∧ l[j].ins.length ≤ ci ∧ ci ≤ 9223372036854775807 ∧ l[j].ats.length ≤ ca ∧ ca ≤ 9223372036854775807 := by
 obtain ⟨b, o, ⟨e1, e2⟩, rfl, h1, h2, h3⟩ := RowB.at h hj
 obtain ⟨pi, ci, hi, z1, z2⟩ := RowB.sl h2
 obtain ⟨pa, ca, ha, z3, z4⟩ := RowR.sl h3
 simp only at hi ha h2 h3
 subst hi ha
 exact ⟨b, o, pi, ci, pa, ca, rfl, h1 0 _ rfl, h1 1 _ rfl, h1 2 _ rfl, h2, h3, z1, z2, z3, z4⟩
theorem AcsAt.at {n : Nat} {w : World} {l : List Ac} {p : Option Addr} {m c : Nat} (h : AcsAt n w l (.slice p m c)) {j : Nat} (hj : j < l.length) :
  ∃ b o pi ci pp cp pr cr pa ca, p = some ⟨b, o, none⟩ ∧ w.cell? ⟨b, o + j * 5, none⟩ = some (.string l[j].nm.s) ∧ w.cell? ⟨b, o + j * 5 + 1, none⟩ = some (.slice pi l[j].ins.length ci) ∧ w.cell? ⟨b, o + j * 5 + 2, none⟩ = some (.slice pp l[j].ps.length cp) ∧
   w.cell? ⟨b, o + j * 5 + 3, none⟩ = some (.slice pr l[j].rs.length cr) ∧ w.cell? ⟨b, o + j * 5 + 4, none⟩ = some (.slice pa l[j].ats.length ca) ∧
   NsAt w l[j].ins (.slice pi l[j].ins.length ci) ∧ NsAt w l[j].ps (.slice pp l[j].ps.length cp) ∧ NsAt w l[j].rs (.slice pr l[j].rs.length cr) ∧ RAs (fun _ => True) w n l[j].ats (.slice pa l[j].ats.length ca) ∧
   (l[j].ins.length ≤ ci ∧ ci ≤ 9223372036854775807) ∧ (l[j].ps.length ≤ cp ∧ cp ≤ 9223372036854775807) ∧ (l[j].rs.length ≤ cr ∧ cr ≤ 9223372036854775807) ∧ (l[j].ats.length ≤ ca ∧ ca ≤ 9223372036854775807) := by
 obtain ⟨b, o, ⟨⟨e1, e2⟩, e3, e4⟩, rfl, h1, h2, h3, h4, h5⟩ := RowB.at h hj
 obtain ⟨pi, ci, hi, z1, z2⟩ := RowB.sl h2
 obtain ⟨pp, cp, hp, z5, z6⟩ := RowB.sl h3
 obtain ⟨pr, cr, hr, z7, z8⟩ := RowB.sl h4
 obtain ⟨pa, ca, ha, z3, z4⟩ := RowR.sl h5
 simp only at hi ha hp hr h2 h3 h4 h5
 subst hi ha hp hr
 exact ⟨b, o, pi, ci, pp, cp, pr, cr, pa, ca, rfl, h1 0 _ rfl, h1 1 _ rfl, h1 2 _ rfl, h1 3 _ rfl, h1 4 _ rfl, h2, h3, h4, h5, ⟨z1, z2⟩, ⟨z5, z6⟩, ⟨z7, z8⟩, ⟨z3, z4⟩⟩
def InsAt (w : World) (b n : Nat) (g : Gra) : Prop := ∃ f, MapAt keyNm w b n f ∧ (∀ x, (f x).isSome = (look g x).isSome) ∧ ∀ x v, f x = some v → NsAt w (nxt g x) v
theorem InsAt.low {w w' : World} {b n : Nat} {g : Gra} (h : InsAt w b n g) (hl : Low w w') : InsAt w' b n g := by
 obtain ⟨f, h1, h2, h3⟩ := h
 exact ⟨f, h1.block (hl.2.2.2 _ h1.lt), h2, fun x v hv => (h3 x v hv).low hl⟩
theorem InsAt.lt {w : World} {b n : Nat} {g : Gra} (h : InsAt w b n g) : b < w.heap.size := by
 obtain ⟨f, h1, -⟩ := h
 exact h1.lt
theorem InsAt.made (w : World) : InsAt (w.alloc (.map #[] 0)) w.heap.size 0 [] := ⟨_, MapAt.made keyNm w, fun x => rfl, by intro x v hv; cases hv⟩
theorem InsAt.mono {w : World} {b n m : Nat} {g : Gra} (h : InsAt w b n g) (hm : n ≤ m) : InsAt w b m g := by
 obtain ⟨f, h1, h2⟩ := h
 exact ⟨f, h1.mono hm, h2⟩
theorem InsAt.get {w : World} {b n : Nat} {g : Gra} (h : InsAt w b n g) (x : Nm) : ∃ f p c, MapAt keyNm w b n f ∧ (f x).getD (.slice none 0 0) = .slice p (nxt g x).length c ∧ NsAt w (nxt g x) (.slice p (nxt g x).length c) ∧ (f x).isSome = (look g x).isSome ∧ (nxt g x).length ≤ c ∧ c ≤ 9223372036854775807 := by
 obtain ⟨f, h1, h2, h3⟩ := h
 cases hf : f x with
 | none =>
  have hl : look g x = none := by
   have := h2 x
   rw [hf] at this
   cases e : look g x with
   | none => rfl
   | some v => rw [e] at this; simp at this
  have hn : nxt g x = [] := by unfold nxt; rw [hl]; rfl
  refine ⟨f, none, 0, h1, by rw [hf, hn]; rfl, by rw [hn]; exact NsAt.nil w, h2 x, by rw [hn]; simp, by omega⟩
 | some v =>
  have h4 := h3 x v hf
  obtain ⟨p, c, rfl, z1, z2⟩ := RowB.sl h4
  exact ⟨f, p, c, h1, by rw [hf]; rfl, h4, h2 x, z1, z2⟩
theorem Low.turned {w a b : World} {k : Nat} (h : Low w a) (ht : a.mapTurned b k) (hk : w.heap.size ≤ k) : Low w b := by
 obtain ⟨es, cl, es', cl', hb, rfl⟩ := ht
 refine ⟨h.1, h.2.1, ?_, fun j hj => ?_⟩
 ·have := h.2.2.1
  simp [ChangeMaps.setBlock]
  exact this
 ·rw [← h.2.2.2 j hj]
  exact ChangeMaps.heap_setBlock_other hb _ (by omega)
end Go.Proofs.YtnchohglplobeaaGreat
namespace Go.Proofs.YtnchohglplobeaaGreat
open Go.RowKit Go.Sort
def Gr (w w' : World) : Prop := ∃ q os, w' = grow (w.drewN q) os
theorem Gr.refl (w : World) : Gr w w := ⟨0, #[], by rw [grow_empty]; rfl⟩
theorem Gr.trans {a b c : World} (h : Gr a b) (k : Gr b c) : Gr a c := by
 obtain ⟨q, os, rfl⟩ := h
 obtain ⟨q', os', rfl⟩ := k
 exact ⟨q + q', os ++ os', by show grow (grow ((a.drewN q).drewN q') os) os' = _; rw [grow_grow, World.drewN_drewN]⟩
theorem Gr.alloc {a b : World} (h : Gr a b) (o : Obj) : Gr a (b.alloc o) := h.trans ⟨0, #[o], by rw [alloc_eq_grow]; rfl⟩
theorem Gr.drewN {a b : World} (h : Gr a b) (n : Nat) : Gr a (b.drewN n) := h.trans ⟨n, #[], by rw [grow_empty]⟩
theorem Gr.drew {a b : World} (h : Gr a b) : Gr a b.drew := h.trans ⟨1, #[], by rw [grow_empty]; rfl⟩
theorem Gr.grow {a b : World} (h : Gr a b) (n : Nat) (os : Array Obj) : Gr a (Sort.grow (b.drewN n) os) := h.trans ⟨n, os, rfl⟩
theorem Gr.size {a b : World} (h : Gr a b) : a.heap.size ≤ b.heap.size := by
 obtain ⟨q, os, rfl⟩ := h
 rw [size_grow]; exact Nat.le_add_right _ _
theorem Gr.setCell {a b : World} (h : Gr a b) (k o : Nat) (v : Value) (hk : a.heap.size ≤ k) : Gr a (b.setCell ⟨k, o, none⟩ v) := by
 obtain ⟨q, os, rfl⟩ := h
 exact ⟨q, _, by rw [setCell_eq, mapBlock_grow_new _ _ _ _ (by exact hk)]⟩
theorem Gr.low {w w' : World} (h : Gr w w') : Low w w' := by
 obtain ⟨q, os, rfl⟩ := h
 exact ⟨rfl, rfl, by rw [size_grow]; exact Nat.le_add_right _ _, fun k hk => heap_grow_old _ _ hk⟩
theorem Gr.cell {w w' : World} (h : Gr w w') {p : Addr} {v : Value} (hc : w.cell? p = some v) : w'.cell? p = some v := h.low.keep hc
def hdc (h : Hd) (it nm : Value) : List Value := [.int .i64 h.k, .bool h.b, .int .i64 h.n, .string h.s, .string h.t, .string h.i, it, nm]
def avv (h : Hd) (it nm : Value) : Value := .agg #[.int .i64 h.k, .bool h.b, .int .i64 h.n, .string h.s, .string h.t, .string h.i, it, nm]
def Bh (h : Hd) : Prop := h.s.size ≤ 9223372036854775807 ∧ h.t.size ≤ 9223372036854775807 ∧ h.i.size ≤ 9223372036854775807
def NamesAt (A : Nat → Prop) (w : World) (ns : List ByteArray) (nm : Value) : Prop :=
 ∃ ao cap, nm = .slice ao ns.length cap ∧ ns.length ≤ 9223372036854775807 ∧ (∀ x ∈ ns, x.size ≤ 9223372036854775807) ∧
  (ns = [] ∨ ∃ b o, ao = some ⟨b, o, none⟩ ∧ A b ∧ ∀ j (hj : j < ns.length), w.cell? ⟨b, o + j, none⟩ = some (.string ns[j]))
def CellsAtv (w : World) (b o : Nat) (cs : List Value) : Prop := ∀ j v, cs[j]? = some v → w.cell? ⟨b, o + j, none⟩ = some v
mutual
def Rep (A : Nat → Prop) (w : World) : V → Value → Value → Prop
 | .mk h l ns, it, nm => Bh h ∧ NamesAt A w ns nm ∧ ∃ ao cap, it = .slice ao l.length cap ∧ (l.length ≤ cap ∧ cap ≤ 9223372036854775807) ∧ (l = [] ∨ ∃ b o, ao = some ⟨b, o, none⟩ ∧ A b ∧ RepF A w b o l)
def RepF (A : Nat → Prop) (w : World) (b : Nat) : Nat → List V → Prop
 | _, [] => True
 | o, x :: l => (∃ it nm, CellsAtv w b o (hdc x.h it nm) ∧ Rep A w x it nm) ∧ RepF A w b (o + 8) l
end
def RowAt (A : Nat → Prop) (w : World) (l : List V) (it : Value) : Prop :=
 ∃ ao cap, it = .slice ao l.length cap ∧ (l.length ≤ cap ∧ cap ≤ 9223372036854775807) ∧ (l = [] ∨ ∃ b o, ao = some ⟨b, o, none⟩ ∧ A b ∧ RepF A w b o l)
theorem rep_v {A : Nat → Prop} {w : World} {v : V} {it nm : Value} : Rep A w v it nm ↔ Bh v.h ∧ NamesAt A w v.ns nm ∧ RowAt A w v.l it := by
 cases v; rw [Rep]; rfl
theorem repF_at {A : Nat → Prop} {w : World} {b : Nat} : ∀ {l : List V} {o : Nat}, RepF A w b o l → ∀ j (hj : j < l.length), ∃ it nm, CellsAtv w b (o + j * 8) (hdc l[j].h it nm) ∧ Rep A w l[j] it nm
 | [], _, _, j, hj => absurd hj (Nat.not_lt_zero _)
 | x :: l, o, h, 0, _ => by rw [RepF] at h; simpa using h.1
 | x :: l, o, h, j + 1, hj => by
  rw [RepF] at h
  obtain ⟨it, nm, hc, hr⟩ := repF_at h.2 j (by simpa using hj)
  exact ⟨it, nm, by rwa [show o + (j + 1) * 8 = o + 8 + j * 8 by omega], hr⟩
theorem repF_of {A : Nat → Prop} {w : World} {b : Nat} : ∀ {l : List V} {o : Nat}, (∀ j (hj : j < l.length), ∃ it nm, CellsAtv w b (o + j * 8) (hdc l[j].h it nm) ∧ Rep A w l[j] it nm) → RepF A w b o l
 | [], _, _ => by rw [RepF]; trivial
 | x :: l, o, h => by
  rw [RepF]
  refine ⟨by have h0 := h 0 (by simp); rwa [Nat.zero_mul, Nat.add_zero] at h0, repF_of fun j hj => ?_⟩
  obtain ⟨it, nm, hc, hr⟩ := h (j + 1) (by simpa using hj)
  exact ⟨it, nm, by rwa [show o + 8 + j * 8 = o + (j + 1) * 8 by omega], hr⟩
theorem cell_tov {w w' : World} {b o : Nat} {v : Value} (h : w.cell? ⟨b, o, none⟩ = some v) (hb : b < w.heap.size → w'.heap[b]? = w.heap[b]?) : w'.cell? ⟨b, o, none⟩ = some v := by
 have := World.cell?_of_block (w := w) (w' := w') (a := ⟨b, o, none⟩) (hb (cell_lt h))
 rw [this]; exact h
theorem NamesAt.to {A A' : Nat → Prop} {w w' : World} (h : ∀ b, A b → b < w.heap.size → A' b ∧ w'.heap[b]? = w.heap[b]?) {ns : List ByteArray} {nm : Value} (hn : NamesAt A w ns nm) : NamesAt A' w' ns nm := by
 obtain ⟨ao, cap, rfl, hl, hs, hn⟩ := hn
 refine ⟨ao, cap, rfl, hl, hs, ?_⟩
 rcases hn with h0 | ⟨b, o, rfl, ha, hc⟩
 ·exact .inl h0
 ·cases ns with
  | nil => exact .inl rfl
  | cons x ns =>
   have hb := cell_lt (hc 0 (by simp))
   exact .inr ⟨b, o, rfl, (h b ha hb).1, fun j hj => cell_tov (hc j hj) fun k => (h b ha k).2⟩
mutual
theorem Rep.to {A A' : Nat → Prop} {w w' : World} (h : ∀ b, A b → b < w.heap.size → A' b ∧ w'.heap[b]? = w.heap[b]?) : ∀ (v : V) {it nm : Value}, Rep A w v it nm → Rep A' w' v it nm
 | .mk hd l ns, it, nm, hr => by
  rw [Rep] at hr ⊢
  obtain ⟨hb, hn, ao, cap, rfl, hl, hr⟩ := hr
  refine ⟨hb, hn.to h, ao, cap, rfl, hl, ?_⟩
  rcases hr with h0 | ⟨b, o, rfl, ha, hf⟩
  ·exact .inl h0
  ·cases hl0 : l with
   | nil => exact .inl rfl
   | cons x l' =>
    have hx := hf
    rw [hl0, RepF] at hx
    obtain ⟨⟨it, nm, hc, _⟩, _⟩ := hx
    have hlt := cell_lt (hc 0 _ rfl)
    rw [← hl0]
    exact .inr ⟨b, o, rfl, (h b ha hlt).1, RepF.to h b (fun k => (h b ha k).2) l hf⟩
theorem RepF.to {A A' : Nat → Prop} {w w' : World} (h : ∀ b, A b → b < w.heap.size → A' b ∧ w'.heap[b]? = w.heap[b]?) (b : Nat) (hb : b < w.heap.size → w'.heap[b]? = w.heap[b]?) : ∀ (l : List V) {o : Nat}, RepF A w b o l → RepF A' w' b o l
 | [], _, _ => by rw [RepF]; trivial
 | x :: l, o, hf => by
  rw [RepF] at hf ⊢
  obtain ⟨⟨it, nm, hc, hr⟩, hf⟩ := hf
  exact ⟨⟨it, nm, fun j v hv => cell_tov (hc j v hv) hb, Rep.to h x hr⟩, RepF.to h b hb l hf⟩
end
theorem RowAt.to {A A' : Nat → Prop} {w w' : World} (h : ∀ b, A b → b < w.heap.size → A' b ∧ w'.heap[b]? = w.heap[b]?) {l : List V} {it : Value} (hr : RowAt A w l it) : RowAt A' w' l it := by
 have hx : Rep A w (.mk ⟨0, false, 0, ⟨#[]⟩, ⟨#[]⟩, ⟨#[]⟩⟩ l []) it (.slice none 0 0) := by
  rw [Rep]; exact ⟨⟨by decide, by decide, by decide⟩, ⟨none, 0, rfl, by simp, by simp, .inl rfl⟩, hr⟩
 have := Rep.to h _ hx
 rw [Rep] at this
 exact this.2.2
theorem Rep.low {A : Nat → Prop} {w w' : World} {v : V} {it nm : Value} (hr : Rep A w v it nm) (h : Low w w') : Rep A w' v it nm := Rep.to (fun b ha hb => ⟨ha, h.2.2.2 b hb⟩) v hr
theorem RowAt.low {A : Nat → Prop} {w w' : World} {l : List V} {it : Value} (hr : RowAt A w l it) (h : Low w w') : RowAt A w' l it := RowAt.to (fun b ha hb => ⟨ha, h.2.2.2 b hb⟩) hr
theorem NamesAt.low {A : Nat → Prop} {w w' : World} {l : List ByteArray} {it : Value} (hr : NamesAt A w l it) (h : Low w w') : NamesAt A w' l it := NamesAt.to (fun b ha hb => ⟨ha, h.2.2.2 b hb⟩) hr
theorem cells8 {w : World} {b o : Nat} {h : Hd} {it nm : Value} (hc : CellsAtv w b o (hdc h it nm)) :
  w.cell? ⟨b, o, none⟩ = some (.int .i64 h.k) ∧ w.cell? ⟨b, o + 1, none⟩ = some (.bool h.b) ∧ w.cell? ⟨b, o + 2, none⟩ = some (.int .i64 h.n) ∧ w.cell? ⟨b, o + 3, none⟩ = some (.string h.s) ∧
  w.cell? ⟨b, o + 4, none⟩ = some (.string h.t) ∧ w.cell? ⟨b, o + 5, none⟩ = some (.string h.i) ∧ w.cell? ⟨b, o + 6, none⟩ = some it ∧ w.cell? ⟨b, o + 7, none⟩ = some nm :=
 ⟨hc 0 _ rfl, hc 1 _ rfl, hc 2 _ rfl, hc 3 _ rfl, hc 4 _ rfl, hc 5 _ rfl, hc 6 _ rfl, hc 7 _ rfl⟩
theorem gr_cells {w wr : World} {k : Nat} {c : Array Value} {t : TypeId} (h : Gr (w.alloc (.cells c t)) wr) {v : Value} (hv : c[k]? = some v) : wr.cell? ⟨w.heap.size, k, none⟩ = some v :=
 h.cell (by rw [World.cell?_alloc_mark]; exact hv)
theorem gr_box {w wr : World} {c0 c1 c2 c3 c4 c5 c6 c7 : Value} {t : TypeId} (h : Gr (w.alloc (.cells #[c0, c1, c2, c3, c4, c5, c6, c7] t)) wr) :
  wr.cell? ⟨w.heap.size, 0, none⟩ = some c0 ∧ wr.cell? ⟨w.heap.size, 1, none⟩ = some c1 ∧ wr.cell? ⟨w.heap.size, 2, none⟩ = some c2 ∧ wr.cell? ⟨w.heap.size, 3, none⟩ = some c3 ∧
  wr.cell? ⟨w.heap.size, 4, none⟩ = some c4 ∧ wr.cell? ⟨w.heap.size, 5, none⟩ = some c5 ∧ wr.cell? ⟨w.heap.size, 6, none⟩ = some c6 ∧ wr.cell? ⟨w.heap.size, 7, none⟩ = some c7 :=
 ⟨gr_cells h (by simp), gr_cells h (by simp), gr_cells h (by simp), gr_cells h (by simp), gr_cells h (by simp), gr_cells h (by simp), gr_cells h (by simp), gr_cells h (by simp)⟩
theorem Low.cells {w w' : World} (h : Low w w') {b o : Nat} {cs : List Value} (hc : CellsAtv w b o cs) : CellsAtv w' b o cs := fun j v hv => h.keep (hc j v hv)
end Go.Proofs.YtnchohglplobeaaGreat
namespace Go.Proofs.YtnchohglplobeaaGreat
open Go.RowKit Go.Maps Go.Sort
structure Sh where
 u : Us
 ap : Option Addr
 np : Nat
 cp : Nat
 h : Hd
 ai : Option Addr
 ni : Nat
 ci : Nat
 an : Option Addr
 nn : Nat
 cn : Nat
def Sh.p (s : Sh) : Value := .slice s.ap s.np s.cp
def Sh.cs (s : Sh) : List Value := [.string s.u.t, .string s.u.i, .slice s.ap s.np s.cp, .int .i64 s.h.k, .bool s.h.b, .int .i64 s.h.n, .string s.h.s, .string s.h.t, .string s.h.i, .slice s.ai s.ni s.ci, .slice s.an s.nn s.cn]
def EsAt (w : World) (r : Value) (l : List Sh) : Prop :=
 ∃ ao c, r = .slice ao l.length c ∧ (l.length ≤ c ∧ c ≤ 9223372036854775807) ∧ ∀ j (hj : j < l.length), ∃ b o, ao = some ⟨b, o, none⟩ ∧ CellsAtv w b (o + j * 11) l[j].cs
theorem EsAt.low {w w' : World} {r : Value} {l : List Sh} (h : EsAt w r l) (hl : Low w w') : EsAt w' r l := by
 obtain ⟨ao, c, rfl, hc, hx⟩ := h
 refine ⟨ao, c, rfl, hc, fun j hj => ?_⟩
 obtain ⟨b, o, rfl, hs⟩ := hx j hj
 exact ⟨b, o, rfl, hl.cells hs⟩
theorem cells11 {w : World} {b o : Nat} {s : Sh} (hc : CellsAtv w b o s.cs) :
  w.cell? ⟨b, o, none⟩ = some (.string s.u.t) ∧ w.cell? ⟨b, o + 1, none⟩ = some (.string s.u.i) ∧ w.cell? ⟨b, o + 2, none⟩ = some (.slice s.ap s.np s.cp) ∧ w.cell? ⟨b, o + 3, none⟩ = some (.int .i64 s.h.k) ∧
  w.cell? ⟨b, o + 4, none⟩ = some (.bool s.h.b) ∧ w.cell? ⟨b, o + 5, none⟩ = some (.int .i64 s.h.n) ∧ w.cell? ⟨b, o + 6, none⟩ = some (.string s.h.s) ∧ w.cell? ⟨b, o + 7, none⟩ = some (.string s.h.t) ∧
  w.cell? ⟨b, o + 8, none⟩ = some (.string s.h.i) ∧ w.cell? ⟨b, o + 9, none⟩ = some (.slice s.ai s.ni s.ci) ∧ w.cell? ⟨b, o + 10, none⟩ = some (.slice s.an s.nn s.cn) :=
 ⟨hc 0 _ rfl, hc 1 _ rfl, hc 2 _ rfl, hc 3 _ rfl, hc 4 _ rfl, hc 5 _ rfl, hc 6 _ rfl, hc 7 _ rfl, hc 8 _ rfl, hc 9 _ rfl, hc 10 _ rfl⟩
end Go.Proofs.YtnchohglplobeaaGreat
namespace Go.Proofs.YtnchohglplobeaaGreat
open Go.RowKit Go.Maps Go.Sort
structure TabAt (w : World) (b n : Nat) (T : Nat → Nat → Bool) : Prop where
 cell : ∀ a c, a < n → c < n → w.cell? ⟨b, a * n + c, none⟩ = some (.bool (T a c))
 free : ∀ o, w.frozen? ⟨b, o, none⟩ = false
 lt : b < w.heap.size
theorem TabAt.block {w w' : World} {b n : Nat} {T : Nat → Nat → Bool} (h : TabAt w b n T) (e : w'.heap[b]? = w.heap[b]?) (hs : w.heap.size ≤ w'.heap.size) : TabAt w' b n T where
 cell a c ha hc := by rw [World.cell?_of_block (w := w) (by exact e)]; exact h.cell a c ha hc
 free o := by rw [World.frozen?_of_block (w := w) (by exact e)]; exact h.free o
 lt := Nat.lt_of_lt_of_le h.lt hs
theorem TabAt.low {w w' : World} {b n : Nat} {T : Nat → Nat → Bool} (h : TabAt w b n T) (hl : Low w w') : TabAt w' b n T := h.block (hl.2.2.2 _ h.lt) hl.size
theorem sq_inj {n a c i j : Nat} (hc : c < n) (hj : j < n) (h : a * n + c = i * n + j) : a = i ∧ c = j := by
 have h1 : (a * n + c) / n = a := by rw [Nat.mul_comm, Nat.mul_add_div (by omega), Nat.div_eq_of_lt hc, Nat.add_zero]
 have h2 : (i * n + j) / n = i := by rw [Nat.mul_comm, Nat.mul_add_div (by omega), Nat.div_eq_of_lt hj, Nat.add_zero]
 have : a = i := by rw [← h1, ← h2, h]
 subst this
 exact ⟨rfl, by omega⟩
theorem sq_lt {n a c : Nat} (ha : a < n) (hc : c < n) : a * n + c < n * n := by
 have := Nat.mul_le_mul_right n (show a + 1 ≤ n by omega)
 rw [Nat.add_mul] at this
 omega
def updT (T : Nat → Nat → Bool) (i j : Nat) (v : Bool) : Nat → Nat → Bool := fun a c => if a = i ∧ c = j then v else T a c
theorem TabAt.store {w : World} {b n i j : Nat} {T : Nat → Nat → Bool} (h : TabAt w b n T) (hi : i < n) (hj : j < n) (v : Bool) : TabAt (w.setCell ⟨b, i * n + j, none⟩ (.bool v)) b n (updT T i j v) where
 cell a c ha hc := by
  unfold updT
  by_cases e : a = i ∧ c = j
  ·rw [if_pos e, e.1, e.2]
   exact World.cell?_setCell_same' _ _ _ (by rw [h.cell i j hi hj]; rfl)
  ·rw [if_neg e, World.cell?_setCell_other _ _ _ _ (fun h2 => e (by simp at h2; exact sq_inj hc hj h2.symm))]
   exact h.cell a c ha hc
 free o := by rw [World.frozen?_setCell]; exact h.free o
 lt := by
  have := h.lt
  simpa using this
theorem TabAt.made {w : World} {base b n m : Nat} (h : w.ownsRow base 4 1 (.slice (some ⟨b, 0, none⟩) (n * n) m) (n * n) (List.replicate (n * n) (Value.bool false))) : TabAt w b n fun _ _ => false where
 cell a c ha hc := by
  have h1 := World.ownsRow.cells h (g := b) rfl (a * n + c) (.bool false) (by rw [List.getElem?_replicate, if_pos (sq_lt ha hc)])
  rw [Addr.add_lit, Nat.zero_add] at h1
  exact h1
 free o := by
  rcases h.2 with ⟨hv, _⟩ | ⟨g', cap', cur, hv, h1, h2, _⟩
  ·simp at hv
  ·simp only [Value.slice.injEq, Option.some.injEq, Addr.mk.injEq] at hv
   obtain ⟨⟨rfl, -, -⟩, -, -⟩ := hv
   simp [World.frozen?, h2]
 lt := (World.ownsRow.lt h b rfl).2
end Go.Proofs.YtnchohglplobeaaGreat
namespace Go.Proofs.YtnchohglplobeaaGreat
open Go.RowKit Go.Maps Go.Sort
theorem tl_injE {s t : ByteArray} (h : s.toList = t.toList) : s = t := by
 rw [ByteArray.toList_eq, ByteArray.toList_eq] at h
 cases s; cases t
 congr 1
 exact Array.ext' h
end Go.Proofs.YtnchohglplobeaaGreat
namespace Go.Proofs.YtnchohglplobeaaGreat
section
variable {α : Type} [DecidableEq α]
theorem Kahn.re {P : α → List α} {K M L L' : List α} {c : α → Int} (h : Kahn P K M L c) (e : ∀ n, n ∈ L ↔ n ∈ L') : Kahn P K M L' c :=
 ⟨h.cnt, fun n hn h0 => (e n).1 (h.low n hn h0), fun n hn => h.nil n ((e n).2 hn), h.rnd, h.sub⟩
structure KQ (P : α → List α) (K M L : List α) (i : Nat) (c : α → Int) : Prop where
 k : Kahn P K M (L.drop i) c
 nil : ∀ n ∈ L, c n = 0
 nd : L.Nodup
 pm : (L.take i ++ M).Perm K
 sub : ∀ n ∈ L, n ∈ K
structure KQi (P : α → List α) (K M L : List α) (i : Nat) (c : α → Int) (x : α) (j : Nat) : Prop where
 k : KahnIn P K M (L.drop (i + 1)) c x j
 nil : ∀ n ∈ L, c n = 0
 nd : L.Nodup
 pm : (L.take (i + 1) ++ M.erase x).Perm K
 sub : ∀ n ∈ L, n ∈ K
 xm : x ∈ M
 lx : i < L.length
theorem KQ.take {P : α → List α} {K M L : List α} {i : Nat} {c : α → Int} {x : α} (h : KQ P K M L i c) (hM : M.Nodup) (hx : L[i]? = some x) : KQi P K M L i c x 0 := by
 obtain ⟨hi, e⟩ := List.getElem?_eq_some_iff.1 hx
 have hd : L.drop i = x :: L.drop (i + 1) := by rw [List.drop_eq_getElem_cons hi, e]
 have hxK : x ∈ K := h.sub x (e ▸ List.getElem_mem hi)
 have hxt : x ∉ L.take i := fun hm => by
  obtain ⟨k, hk, e2⟩ := List.getElem_of_mem hm
  have hk2 : k < i := by simp at hk; omega
  rw [List.getElem_take] at e2
  have := (List.nodup_iff_pairwise_ne.1 h.nd)
  rw [List.pairwise_iff_getElem] at this
  exact this k i (by omega) hi hk2 (e2.trans e.symm)
 have hxM : x ∈ M := by
  rcases List.mem_append.1 (h.pm.symm.subset hxK) with h1 | h1
  ·exact absurd h1 hxt
  ·exact h1
 refine ⟨Kahn.take hM (h.k.re (L' := L.drop (i + 1) ++ [x]) fun n => ?_), h.nil, h.nd, ?_, h.sub, hxM, hi⟩
 ·rw [hd]; simp [or_comm]
 ·rw [List.take_succ_eq_append_getElem hi, e, List.append_assoc]
  exact ((List.perm_cons_erase hxM).symm.append_left _).trans h.pm
theorem KQi.pos {P : α → List α} {K M L : List α} {i j : Nat} {c : α → Int} {x : α} (h : KQi P K M L i c x j) (hj : j < (P x).length) : 0 < c (P x)[j] := by
 have := h.k.cnt (P x)[j]
 rw [if_pos h.xm, List.drop_eq_getElem_cons hj, List.count_cons] at this
 simp at this
 omega
def lowC (c : α → Int) (p : α) : α → Int := fun n => if n = p then c n - 1 else c n
theorem KQi.keep {P : α → List α} {K M L : List α} {i j : Nat} {c : α → Int} {x p : α} (h : KQi P K M L i c x j) (hj : j < (P x).length) (hp : (P x)[j] = p) (h0 : ¬ c p - 1 = 0) : KQi P K M L i (lowC c p) x (j + 1) := by
 have hs := h.k.step h.xm hj
 have hpos := h.pos hj
 rw [hp] at hs hpos
 rw [if_neg h0] at hs
 refine ⟨hs, fun n hn => ?_, h.nd, h.pm, h.sub, h.xm, h.lx⟩
 unfold lowC
 by_cases e : n = p
 ·have := h.nil n hn
  rw [e] at this; omega
 ·rw [if_neg e]; exact h.nil n hn
theorem KQi.zero {P : α → List α} {K M L : List α} {i j : Nat} {c : α → Int} {x p : α} (h : KQi P K M L i c x j) (hj : j < (P x).length) (hp : (P x)[j] = p) (hK : p ∈ K) (h0 : c p - 1 = 0) : KQi P K M (L ++ [p]) i (lowC c p) x (j + 1) := by
 have hs := h.k.step h.xm hj
 have hpos := h.pos hj
 rw [hp] at hs hpos
 rw [if_pos h0] at hs
 have hpL : p ∉ L := fun hm => by have := h.nil p hm; omega
 have hd : (L ++ [p]).drop (i + 1) = L.drop (i + 1) ++ [p] := List.drop_append_of_le_length (by have := h.lx; omega)
 have ht : (L ++ [p]).take (i + 1) = L.take (i + 1) := List.take_append_of_le_length (by have := h.lx; omega)
 refine ⟨by rw [hd]; exact hs, fun n hn => ?_, ?_, by rw [ht]; exact h.pm, fun n hn => ?_, h.xm, by have := h.lx; simp; omega⟩
 ·unfold lowC
  rcases List.mem_append.1 hn with hn | hn
  ·rw [if_neg (fun e : n = p => hpL (e ▸ hn))]; exact h.nil n hn
  ·simp at hn
   rw [if_pos hn, hn]; exact h0
 ·rw [List.nodup_append]
  refine ⟨h.nd, by simp, fun a ha b hb => ?_⟩
  simp at hb
  rw [hb]
  exact fun e => hpL (e ▸ ha)
 ·rcases List.mem_append.1 hn with hn | hn
  ·exact h.sub n hn
  ·simp at hn; rw [hn]; exact hK
theorem KQi.done {P : α → List α} {K M L : List α} {i j : Nat} {c : α → Int} {x : α} (h : KQi P K M L i c x j) (hj : (P x).length ≤ j) : KQ P K (M.erase x) L (i + 1) c :=
 ⟨h.k.done fun _ => hj, h.nil, h.nd, h.pm, h.sub⟩
theorem KQ.len {P : α → List α} {K M L : List α} {i : Nat} {c : α → Int} (h : KQ P K M L i c) : L.length ≤ K.length := len_sub L K h.nd h.sub
theorem KQ.fin {P : α → List α} {K M L : List α} {i : Nat} {c : α → Int} (h : KQ P K M L i c) (hi : L.length ≤ i) : L.length < K.length ↔ ∃ a, Way (fun x y => x ∈ K ∧ y ∈ P x ∧ y ∈ K) a a := by
 have hk := h.k
 rw [List.drop_eq_nil_of_le hi] at hk
 rw [← hk.fin]
 have hl := h.pm.length_eq
 rw [List.take_of_length_le hi, List.length_append] at hl
 constructor
 ·intro h1 e
  rw [e] at hl; simp at hl; omega
 ·intro h1
  have := List.length_pos_iff.2 h1
  omega
theorem KQ.start {P : α → List α} {K L : List α} {c : α → Int} (h1 : ∀ n, c n = (occ P K n : Int)) (h2 : ∀ n, n ∈ L ↔ n ∈ K ∧ c n = 0) (hn : L.Nodup) : KQ P K K L 0 c :=
 ⟨by rw [List.drop_zero]; exact Kahn.start h1 h2, fun n hn => ((h2 n).1 hn).2, hn, by rw [List.take_zero]; exact List.Perm.refl _, fun n hn => ((h2 n).1 hn).1⟩
end
end Go.Proofs.YtnchohglplobeaaGreat
namespace Go.Proofs.YtnchohglplobeaaGreat
open Go.RowKit Go.Maps
def Cnt (w : World) (b n : Nat) (c : Nm → Int) : Prop := ∃ fc, MapAt keyNm w b n fc ∧ ∀ x, (fc x).getD (.int .i64 0) = .int .i64 (c x)
theorem Cnt.block {w w' : World} {b n : Nat} {c : Nm → Int} (h : Cnt w b n c) (e : w'.heap[b]? = w.heap[b]?) : Cnt w' b n c := by
 obtain ⟨fc, h1, h2⟩ := h
 exact ⟨fc, h1.block e, h2⟩
theorem Cnt.lt {w : World} {b n : Nat} {c : Nm → Int} (h : Cnt w b n c) : b < w.heap.size := by
 obtain ⟨fc, h1, h2⟩ := h
 exact h1.lt
theorem Cnt.store {w : World} {b n : Nat} {c c' : Nm → Int} {y : Nm} {fc : Nm → Option Value} {v : Int} (h2 : ∀ x, (fc x).getD (.int .i64 0) = .int .i64 (c x)) (hM : MapAt keyNm w b n (updF fc y (some (.int .i64 v)))) (hc : ∀ x, c' x = if x = y then v else c x) : Cnt w b n c' := by
 refine ⟨_, hM, fun x => ?_⟩
 rw [hc]
 unfold updF
 by_cases e : x = y
 ·rw [if_pos e, if_pos e]; rfl
 ·rw [if_neg e, if_neg e]; exact h2 x
theorem RangeAt.block {P : Program} {k : TypeId} {α : Type} {F : KeyF P k α} {w w' : World} {b r n : Nat} {f : α → Option Value} {seen : List α} {cnt : Nat} (h : RangeAt F w b r n f seen cnt) (eb : w'.heap[b]? = w.heap[b]?) (er : w'.heap[r]? = w.heap[r]?) : RangeAt F w' b r n f seen cnt := by
 obtain ⟨D, left, hD, hr, rest⟩ := h
 obtain ⟨es, clock, hb, q⟩ := hD.owns
 obtain ⟨es2, clock2, since, sn, c0, hb2, F2, hs2, hD2, hr2, rest2⟩ := hr
 exact ⟨D, left, ⟨⟨es, clock, eb.trans hb, q⟩, hD.has, hD.at', hD.key, hD.num⟩, ⟨es2, clock2, since, sn, c0, eb.trans hb2, F2, hs2, hD2, er.trans hr2, rest2⟩, rest⟩
end Go.Proofs.YtnchohglplobeaaGreat
namespace Go.Proofs.YtnchohglplobeaaGreat
open Go.RowKit Go.Maps Go.Sort
def Us.cs (u : Us) : List Value := [.string u.t, .string u.i]
def UsAt (w : World) (r : Value) (l : List Us) : Prop :=
 ∃ ao c, r = .slice ao l.length c ∧ (l.length ≤ c ∧ c ≤ 9223372036854775807) ∧ ∀ j (hj : j < l.length), ∃ b o, ao = some ⟨b, o, none⟩ ∧ CellsAtv w b (o + j * 2) l[j].cs
theorem UsAt.low {w w' : World} {r : Value} {l : List Us} (h : UsAt w r l) (hl : Low w w') : UsAt w' r l := by
 obtain ⟨ao, c, rfl, hc, hx⟩ := h
 refine ⟨ao, c, rfl, hc, fun j hj => ?_⟩
 obtain ⟨b, o, rfl, hs⟩ := hx j hj
 exact ⟨b, o, rfl, hl.cells hs⟩
theorem cells2 {w : World} {b o : Nat} {u : Us} (hc : CellsAtv w b o u.cs) : w.cell? ⟨b, o, none⟩ = some (.string u.t) ∧ w.cell? ⟨b, o + 1, none⟩ = some (.string u.i) := ⟨hc 0 _ rfl, hc 1 _ rfl⟩
structure RowsAt (w : World) (f : Us → Option Value) (g : Us → List Us) : Prop where
 row : ∀ u v, f u = some v → UsAt w v (g u)
 few : ∀ seen : List Us, seen.Nodup → (∀ a ∈ seen, (f a).isSome = true) → (seen.flatMap g).length ≤ 100000
def Butv (w w' : World) (m : Nat) : Prop := ∀ k, k < w.heap.size → k ≠ m → w'.heap[k]? = w.heap[k]?
theorem Butv.of {w a b : World} {m : Nat} (h : Low w a) (ht : a.mapTurned b m) : Butv w b m := by
 obtain ⟨es, cl, es', cl', hb, rfl⟩ := ht
 intro k hk hne
 rw [← h.2.2.2 k hk]
 exact ChangeMaps.heap_setBlock_other hb _ hne
end Go.Proofs.YtnchohglplobeaaGreat
namespace Go.Proofs.YtnchohglplobeaaGreat
theorem Thru.within {S : Nat → Nat → Prop} {n k a b : Nat} (hS : ∀ a b, S a b → a < n ∧ b < n) (h : Thru S k a b) : a < n ∧ b < n := by
 induction h with
 | one s => exact hS _ _ s
 | more _ _ _ i1 i2 => exact ⟨i1.1, i2.2⟩
structure War (S : Nat → Nat → Prop) (k i j : Nat) (T : Nat → Nat → Bool) : Prop where
 old : ∀ a b, Thru S k a b → T a b = true
 new : ∀ a b, T a b = true → Thru S (k + 1) a b
 done : ∀ a b, (a < i ∨ (a = i ∧ b < j)) → Thru S (k + 1) a b → T a b = true
theorem War.start {S : Nat → Nat → Prop} {T : Nat → Nat → Bool} (h : ∀ a b, T a b = true ↔ S a b) : War S 0 0 0 T where
 old := fun a b t => by
  cases t with
  | one s => exact (h a b).2 s
  | more _ hb _ => exact absurd hb (Nat.not_lt_zero _)
 new := fun a b t => .one ((h a b).1 t)
 done := fun a b hd _ => by omega
theorem War.step {S : Nat → Nat → Prop} {k i j : Nat} {T : Nat → Nat → Bool} (h : War S k i j T) (T' : Nat → Nat → Bool) (hT : ∀ a b, T' a b = if a = i ∧ b = j then (T i j || (T i k && T k j)) else T a b) : War S k i (j + 1) T' where
 old := fun a b t => by
  have := h.old a b t
  rw [hT]
  split
  ·rename_i e
   rw [← e.1, ← e.2, this]; rfl
  ·exact this
 new := fun a b t => by
  rw [hT] at t
  split at t
  ·rename_i e
   obtain ⟨rfl, rfl⟩ := e
   rw [Bool.or_eq_true, Bool.and_eq_true] at t
   rcases t with t | ⟨t1, t2⟩
   ·exact h.new _ _ t
   ·exact .more (h.new _ _ t1) (Nat.lt_succ_self k) (h.new _ _ t2)
  ·exact h.new _ _ t
 done := fun a b hd t => by
  rw [hT]
  split
  ·rename_i e
   obtain ⟨rfl, rfl⟩ := e
   rcases t.split with t | ⟨t1, t2⟩
   ·rw [h.old _ _ t]; rfl
   ·rw [h.old _ _ t1, h.old _ _ t2]; simp
  ·rename_i e
   refine h.done a b ?_ t
   rcases hd with hd | ⟨rfl, hb⟩
   ·exact .inl hd
   ·refine .inr ⟨rfl, ?_⟩
    rcases Nat.lt_or_ge b j with h1 | h1
    ·exact h1
    ·exact absurd ⟨rfl, by omega⟩ e
theorem War.row {S : Nat → Nat → Prop} {n k i j : Nat} {T : Nat → Nat → Bool} (hS : ∀ a b, S a b → a < n ∧ b < n) (h : War S k i j T) (hj : n ≤ j) : War S k (i + 1) 0 T where
 old := h.old
 new := h.new
 done := fun a b hd t => h.done a b (by
  have := (t.within hS).2
  rcases hd with hd | hd
  ·rcases Nat.lt_or_ge a i with h1 | h1
   ·exact .inl h1
   ·exact .inr ⟨by omega, by omega⟩
  ·omega) t
theorem War.next {S : Nat → Nat → Prop} {n k i j : Nat} {T : Nat → Nat → Bool} (hS : ∀ a b, S a b → a < n ∧ b < n) (h : War S k i j T) (hi : n ≤ i) : War S (k + 1) 0 0 T where
 old := fun a b t => h.done a b (.inl (by have := (t.within hS).1; omega)) t
 new := fun a b t => (h.new a b t).up (by omega)
 done := fun a b hd _ => by omega
theorem War.fin {S : Nat → Nat → Prop} {n k : Nat} {T : Nat → Nat → Bool} (hS : ∀ a b, S a b → a < n ∧ b < n) (h : War S k 0 0 T) (hk : n ≤ k) (a b : Nat) : T a b = true ↔ Way S a b :=
 ⟨fun t => (h.new a b t).way, fun w => h.old a b ((Thru.of_way hS w).up hk)⟩
end Go.Proofs.YtnchohglplobeaaGreat
namespace Go.Proofs.YtnchohglplobeaaGreat
open Go.RowKit Go.Maps Go.Sort
theorem Low.set {w a : World} (h : Low w a) (x : Addr) (v : Value) (hb : w.heap.size ≤ x.block) : Low w (a.setCell x v) :=
 ⟨by exact h.1, by exact h.2.1, by have := h.2.2.1; simpa using this, fun k hk => (Below.heap_setCell a x v k (by omega)).trans (h.2.2.2 k hk)⟩
end Go.Proofs.YtnchohglplobeaaGreat
namespace Go.Proofs.YtnchohglplobeaaGreat
def InR (n : Int) : Prop := -9223372036854775808 ≤ n ∧ n ≤ 9223372036854775807
def fitV (n : Int) : Int := if -9223372036854775808 ≤ n ∧ n ≤ 9223372036854775807 then n else 0
def fitE (n : Int) : Int := if -9223372036854775808 ≤ n ∧ n ≤ 9223372036854775807 then 0 else 14
theorem fitV_in {n : Int} (h : InR n) : fitV n = n := if_pos h
theorem fitE_in {n : Int} (h : InR n) : fitE n = 0 := if_pos h
theorem fitV_out {n : Int} (h : ¬ InR n) : fitV n = 0 := if_neg h
theorem fitE_out {n : Int} (h : ¬ InR n) : fitE n = 14 := if_neg h
theorem wrap_up {n : Int} (h : 9223372036854775807 < n) (h2 : n ≤ 18446744073709551615) : Go.RowKit.wrap64 n = n - 18446744073709551616 := by
 unfold Go.RowKit.wrap64; omega
theorem wrap_dn {n : Int} (h : n < -9223372036854775808) (h2 : -18446744073709551616 ≤ n) : Go.RowKit.wrap64 n = n + 18446744073709551616 := by
 unfold Go.RowKit.wrap64; omega
end Go.Proofs.YtnchohglplobeaaGreat
namespace Go.Proofs.YtnchohglplobeaaGreat
open Go.RowKit
theorem fit_out {n : Int} (h : n < -9223372036854775808 ∨ 9223372036854775807 < n) : fitV n = 0 ∧ fitE n = 14 :=
 ⟨fitV_out (fun k => by unfold InR at k; omega), fitE_out (fun k => by unfold InR at k; omega)⟩
theorem fit_in {n : Int} (h1 : -9223372036854775808 ≤ n) (h2 : n ≤ 9223372036854775807) : fitV n = n ∧ fitE n = 0 := ⟨fitV_in ⟨h1, h2⟩, fitE_in ⟨h1, h2⟩⟩
set_option maxHeartbeats 400000 in
theorem add_c (a b : Int) (ha : InR a) (hb : InR b) (w : World) :
  Calls Tryz.prog 57 #[.int .i64 a, .int .i64 b] w fun e w' => e = .returned (.tuple #[.int .i64 (fitV (a + b)), .int .i64 (fitE (a + b))]) ∧ w' = w := by
 obtain ⟨ha1, ha2⟩ := ha
 obtain ⟨hb1, hb2⟩ := hb
 by_cases h1 : 9223372036854775807 < a + b
 ·have hw := wrap_up h1 (by omega)
  rw [(fit_out (.inr h1)).1, (fit_out (.inr h1)).2]
  have q1 : decide (a < 0) = false := decide_eq_false (by omega)
  have q2 : decide (b < 0) = false := decide_eq_false (by omega)
  have q3 : a + b - 18446744073709551616 < 0 := by omega
  go_enter Tryz.func57, Tryz.ntmps57
  go_wp2
  go_ret2
  exact ⟨rfl, rfl⟩
 ·by_cases h2 : a + b < -9223372036854775808
  ·have hw := wrap_dn h2 (by omega)
   rw [(fit_out (.inl h2)).1, (fit_out (.inl h2)).2]
   have q1 : a < 0 := by omega
   have q2 : b < 0 := by omega
   have q3 : decide (a + b + 18446744073709551616 < 0) = false := decide_eq_false (by omega)
   go_enter Tryz.func57, Tryz.ntmps57
   go_wp2
   go_ret2
   exact ⟨rfl, rfl⟩
  ·have g1 : -9223372036854775808 ≤ a + b := by omega
   have g2 : a + b ≤ 9223372036854775807 := by omega
   clear h1 h2
   rw [(fit_in g1 g2).1, (fit_in g1 g2).2]
   by_cases q1 : a < 0 <;> by_cases q2 : b < 0 <;> by_cases q3 : a + b < 0 <;> first | (exfalso; omega) | skip
   all_goals
    go_enter Tryz.func57, Tryz.ntmps57
    go_wp2
    go_ret2
    exact ⟨rfl, rfl⟩
set_option maxHeartbeats 400000 in
theorem sub_c (a b : Int) (ha : InR a) (hb : InR b) (w : World) :
  Calls Tryz.prog 59 #[.int .i64 a, .int .i64 b] w fun e w' => e = .returned (.tuple #[.int .i64 (fitV (a - b)), .int .i64 (fitE (a - b))]) ∧ w' = w := by
 obtain ⟨ha1, ha2⟩ := ha
 obtain ⟨hb1, hb2⟩ := hb
 by_cases h1 : 9223372036854775807 < a - b
 ·have hw := wrap_up h1 (by omega)
  rw [(fit_out (.inr h1)).1, (fit_out (.inr h1)).2]
  have q1 : decide (a < 0) = false := decide_eq_false (by omega)
  have q2 : b < 0 := by omega
  have q3 : a - b - 18446744073709551616 < 0 := by omega
  go_enter Tryz.func59, Tryz.ntmps59
  go_wp2
  go_ret2
  exact ⟨rfl, rfl⟩
 ·by_cases h2 : a - b < -9223372036854775808
  ·have hw := wrap_dn h2 (by omega)
   rw [(fit_out (.inl h2)).1, (fit_out (.inl h2)).2]
   have q1 : a < 0 := by omega
   have q2 : decide (b < 0) = false := decide_eq_false (by omega)
   have q3 : decide (a - b + 18446744073709551616 < 0) = false := decide_eq_false (by omega)
   go_enter Tryz.func59, Tryz.ntmps59
   go_wp2
   go_ret2
   exact ⟨rfl, rfl⟩
  ·have g1 : -9223372036854775808 ≤ a - b := by omega
   have g2 : a - b ≤ 9223372036854775807 := by omega
   clear h1 h2
   rw [(fit_in g1 g2).1, (fit_in g1 g2).2]
   by_cases q1 : a < 0 <;> by_cases q2 : b < 0 <;> by_cases q3 : a - b < 0 <;> first | (exfalso; omega) | skip
   all_goals
    go_enter Tryz.func59, Tryz.ntmps59
    go_wp2
    go_ret2
    exact ⟨rfl, rfl⟩
end Go.Proofs.YtnchohglplobeaaGreat
namespace Go.Proofs.YtnchohglplobeaaGreat
open Go.RowKit Go.Sort
def FewPv (v : V) (d : Int) (w : World) (e : Ending) (w' : World) : Prop := ∃ b : Bool, e = .returned (.bool b) ∧ (b = true → Smv v ∧ (dep v : Int) + d ≤ 61) ∧ Gr w w'
def SizePv (w : World) (e : Ending) (w' : World) : Prop := ∃ n : Int, e = .returned (.int .i64 n) ∧ Gr w w'
end Go.Proofs.YtnchohglplobeaaGreat
namespace Go.Proofs.YtnchohglplobeaaGreat
open Go.RowKit Go.Sort
theorem cells8a {w : World} {b o : Nat} {h : Hd} {it nm : Value} (hc : CellsAtv w b o (hdc h it nm)) :
  (∀ x, (w.alloc x).cell? ⟨b, o, none⟩ = some (.int .i64 h.k)) ∧ (∀ x, (w.alloc x).cell? ⟨b, o + 1, none⟩ = some (.bool h.b)) ∧ (∀ x, (w.alloc x).cell? ⟨b, o + 2, none⟩ = some (.int .i64 h.n)) ∧
  (∀ x, (w.alloc x).cell? ⟨b, o + 3, none⟩ = some (.string h.s)) ∧ (∀ x, (w.alloc x).cell? ⟨b, o + 4, none⟩ = some (.string h.t)) ∧ (∀ x, (w.alloc x).cell? ⟨b, o + 5, none⟩ = some (.string h.i)) ∧
  (∀ x, (w.alloc x).cell? ⟨b, o + 6, none⟩ = some it) ∧ (∀ x, (w.alloc x).cell? ⟨b, o + 7, none⟩ = some nm) :=
 have k : ∀ x, CellsAtv (w.alloc x) b o (hdc h it nm) := fun x => (Gr.alloc (Gr.refl w) x).low.cells hc
 ⟨fun x => k x 0 _ rfl, fun x => k x 1 _ rfl, fun x => k x 2 _ rfl, fun x => k x 3 _ rfl, fun x => k x 4 _ rfl, fun x => k x 5 _ rfl, fun x => k x 6 _ rfl, fun x => k x 7 _ rfl⟩
def R (w : World) (v : V) (it nm : Value) : Prop := Rep (fun _ => True) w v it nm
def Ro (w : World) (l : List V) (it : Value) : Prop := RowAt (fun _ => True) w l it
theorem R.low {w w' : World} {v : V} {it nm : Value} (hr : R w v it nm) (h : Low w w') : R w' v it nm := Rep.low hr h
theorem Ro.low {w w' : World} {l : List V} {it : Value} (hr : Ro w l it) (h : Low w w') : Ro w' l it := RowAt.low hr h
theorem Rep.any {A : Nat → Prop} {w : World} {v : V} {it nm : Value} (hr : Rep A w v it nm) : R w v it nm := Rep.to (fun _ _ _ => ⟨trivial, rfl⟩) v hr
theorem RowAt.any {A : Nat → Prop} {w : World} {l : List V} {it : Value} (hr : RowAt A w l it) : Ro w l it := RowAt.to (fun _ _ _ => ⟨trivial, rfl⟩) hr
def OrdC (f : Nat) (x y : V) : Prop := ∀ (w : World) (it nm it' nm' : Value), R w x it nm → R w y it' nm' →
 Calls Tryz.prog f #[avv x.h it nm, avv y.h it' nm'] w fun e w' => e = .returned (.int .i64 (ord x y)) ∧ Gr w w'
theorem retIv {a b : Int} (h : a = b) : Ending.returned (.int .i64 b) = .returned (.int .i64 a) := by rw [h]
theorem drop_consv {α : Type} {l : List α} {i : Nat} (h : i < l.length) : l.drop i = l[i] :: l.drop (i + 1) := List.drop_eq_getElem_cons h
theorem r_slices {w : World} {x : V} {it nm : Value} (h : R w x it nm) : ∃ ai ci an cn, it = .slice ai x.l.length ci ∧ nm = .slice an x.ns.length cn := by
 obtain ⟨-, ⟨an, cn, rfl, -⟩, ai, ci, rfl, -⟩ := rep_v.1 h
 exact ⟨_, _, _, _, rfl, rfl⟩
theorem ro_at {w : World} {l : List V} {ao : Option Addr} {n cap i : Nat} (hr : Ro w l (.slice ao n cap)) (hi : i < l.length) : ∃ b o ai ci an cn, ao = some ⟨b, o, none⟩ ∧
  CellsAtv w b (o + i * 8) (hdc l[i].h (.slice ai l[i].l.length ci) (.slice an l[i].ns.length cn)) ∧ R w l[i] (.slice ai l[i].l.length ci) (.slice an l[i].ns.length cn) := by
 obtain ⟨ai, ci, he, hli, hx⟩ := hr
 simp only [Value.slice.injEq] at he
 obtain ⟨rfl, rfl, rfl⟩ := he
 rcases hx with h0 | ⟨b, o, rfl, ha, hf⟩
 ·rw [h0] at hi; exact absurd hi (Nat.not_lt_zero _)
 ·obtain ⟨it, nm, hcs, hrx⟩ := repF_at hf i hi
  obtain ⟨ai, ci, an, cn, rfl, rfl⟩ := r_slices hrx
  exact ⟨b, o, ai, ci, an, cn, rfl, hcs, hrx⟩
set_option maxHeartbeats 1600000 in
theorem cmpF_c (l m : List V) (ih : ∀ x ∈ l, ∀ y ∈ m, OrdC 86 x y) (w : World) (it it' : Value) (hl : Ro w l it) (hm : Ro w m it') :
  Calls Tryz.prog 171 #[it, it', .func (.func 86) #[] #[]] w fun e w' => e = .returned (.int .i64 (ordL l m)) ∧ Gr w w' := by
 obtain ⟨al, cl, rfl, ⟨zl, zl'⟩, -⟩ := id hl
 obtain ⟨am, cm, rfl, ⟨zm, zm'⟩, -⟩ := id hm
 have HL := Lib.hid hl
 have HM := Lib.hid hm
 have HI := Lib.hid ih
 clear hl hm ih
 obtain ⟨r, hr⟩ : ∃ r, r = ordL l m := ⟨_, rfl⟩
 have HR := Lib.hid hr
 rw [← hr]
 clear hr
 go_enter Tryz.func171, Tryz.ntmps171
 go_wp2_with fail
 go_loopg [13] l.length (fun gk vi wr => ∃ i : Nat, vi = .int .i64 (i : Int) ∧ i ≤ l.length ∧ i ≤ m.length ∧ l.length - i ≤ gk ∧ Hid (Gr w wr) ∧ Hid (r = ordL (l.drop i) (m.drop i)))
 case atStart => exact ⟨0, rfl, Nat.zero_le _, Nat.zero_le _, Nat.le_refl _, Lib.hid (Gr.refl _), HR⟩
 case round =>
  obtain ⟨i, rfl, hi, hi', hg, G, K⟩ := hrel
  by_cases hlt : i < l.length
  ·have z1 : (i : Int) < (l.length : Int) := by omega
   obtain ⟨b, o, ai, ci, an, cn, rfl, hcs, hrx⟩ := ro_at (HL.out.low G.out.low) hlt
   obtain ⟨e0, e1, e2, e3, e4, e5, e6, e7⟩ := cells8 hcs
   have HR := Lib.hid hrx
   clear hcs hrx
   by_cases hlm : i < m.length
   ·have z2 : (i : Int) < (m.length : Int) := by omega
    obtain ⟨b', o', ai', ci', an', cn', rfl, hcs', hrx'⟩ := ro_at (HM.out.low G.out.low) hlm
    obtain ⟨d0, d1, d2, d3, d4, d5, d6, d7⟩ := cells8a hcs'
    have HR' := Lib.hid hrx'
    clear hcs' hrx'
    have W2 := Gr.alloc (Gr.alloc G.out (.cells #[.int .i64 l[i].h.k, .bool l[i].h.b, .int .i64 l[i].h.n, .string l[i].h.s, .string l[i].h.t, .string l[i].h.i, .slice ai l[i].l.length ci, .slice an l[i].ns.length cn] 27)) (.cells #[.int .i64 m[i].h.k, .bool m[i].h.b, .int .i64 m[i].h.n, .string m[i].h.s, .string m[i].h.t, .string m[i].h.i, .slice ai' m[i].l.length ci', .slice an' m[i].ns.length cn'] 27)
    have W1 := Gr.alloc (Gr.alloc (Gr.refl wr) (.cells #[.int .i64 l[i].h.k, .bool l[i].h.b, .int .i64 l[i].h.n, .string l[i].h.s, .string l[i].h.t, .string l[i].h.i, .slice ai l[i].l.length ci, .slice an l[i].ns.length cn] 27)) (.cells #[.int .i64 m[i].h.k, .bool m[i].h.b, .int .i64 m[i].h.n, .string m[i].h.s, .string m[i].h.t, .string m[i].h.i, .slice ai' m[i].l.length ci', .slice an' m[i].ns.length cn'] 27)
    have hcon := HI.out l[i] (List.getElem_mem hlt) m[i] (List.getElem_mem hlm) _ _ _ _ _ (HR.out.low W1.low) (HR'.out.low W1.low)
    have HW := Lib.hid W2
    have HC := Lib.hid hcon
    clear W1 W2 hcon
    obtain ⟨c, hc⟩ : ∃ c, c = ord l[i] m[i] := ⟨_, rfl⟩
    rw [← hc] at HC
    have HE := Lib.hid hc
    clear hc
    have hst : r = orI c (ordL (l.drop (i + 1)) (m.drop (i + 1))) := by rw [HE.out, ← ordL_cons, ← drop_consv hlt, ← drop_consv hlm]; exact K.out
    have HS := Lib.hid hst
    clear hst
    go_wp2_with fail
    refine HC.out.mono ?_
    rintro e w' ⟨rfl, g⟩
    by_cases h0 : c = 0
    ·subst h0
     have HS' : Hid (r = ordL (l.drop (i + 1)) (m.drop (i + 1))) := HS
     go_wp2_with fail
     go_roundg (l.length - (i + 1))
     case measure => omega
     case rel => exact ⟨i + 1, by go_num, by omega, by omega, by omega, Lib.hid (HW.out.trans g), HS'⟩
    ·have hr : r = c := by rw [HS.out, orI, if_neg h0]
     go_wp2_with fail
     go_ret
     exact ⟨retIv hr, HW.out.trans g⟩
   ·have z2 : ¬ (i : Int) < (m.length : Int) := by omega
    have W2 := Gr.alloc G.out (.cells #[.int .i64 l[i].h.k, .bool l[i].h.b, .int .i64 l[i].h.n, .string l[i].h.s, .string l[i].h.t, .string l[i].h.i, .slice ai l[i].l.length ci, .slice an l[i].ns.length cn] 27)
    have hr : r = 1 := by
     rw [K.out, drop_consv hlt, List.drop_eq_nil_of_le (show m.length ≤ i by omega), ordL_cons_nil]
    have HW := Lib.hid W2
    have HQ := Lib.hid hr
    clear W2 hr
    go_wp2_with fail
    go_ret
    exact ⟨retIv HQ.out, HW.out⟩
  ·have z1 : ¬ (i : Int) < (l.length : Int) := by omega
   by_cases hlm : l.length < m.length
   ·have z2 : (l.length : Int) < (m.length : Int) := by omega
    have hr : r = -1 := by
     rw [K.out, List.drop_eq_nil_of_le (show l.length ≤ i by omega), drop_consv (show i < m.length by omega), ordL_nil_cons]
    have HQ := Lib.hid hr
    clear hr
    go_wp2_with fail
    go_ret
    exact ⟨retIv HQ.out, G.out⟩
   ·have z2 : ¬ (l.length : Int) < (m.length : Int) := by omega
    have hr : r = 0 := by
     rw [K.out, List.drop_eq_nil_of_le (show l.length ≤ i by omega), List.drop_eq_nil_of_le (show m.length ≤ i by omega), ordL_nil]
    have HQ := Lib.hid hr
    clear hr
    go_wp2_with fail
    go_ret
    exact ⟨retIv HQ.out, G.out⟩
end Go.Proofs.YtnchohglplobeaaGreat
namespace Go.Proofs.YtnchohglplobeaaGreat
open Go.RowKit Go.Sort
theorem truths_c (a b : Bool) (w : World) : Calls Tryz.prog 130 #[.bool a, .bool b] w fun e w' => e = .returned (.int .i64 (cmpBv a b)) ∧ w = w' := by
 cases a <;> cases b
 all_goals
  go_enter Tryz.func130, Tryz.ntmps130
  go_wp2_with fail
  go_ret
  exact ⟨rfl, rfl⟩
theorem sCmp_c (a b : ByteArray) (w : World) : Calls Tryz.prog 132 #[.string a, .string b] w fun e w' => e = .returned (.int .i64 (cmpT a b)) ∧ w = w' :=
 (Tryz.strings_Compare a b w).mono fun _ _ ⟨h, k⟩ => ⟨h, k.symm⟩
set_option maxHeartbeats 800000 in
theorem or_c (a b : Int) (bk cap : Nat) (w : World) (h0 : w.cell? ⟨bk, 0, none⟩ = some (.int .i64 a)) (h1 : w.cell? ⟨bk, 1, none⟩ = some (.int .i64 b)) :
  Calls Tryz.prog 169 #[.slice (some ⟨bk, 0, none⟩) 2 cap] w fun e w' => e = .returned (.int .i64 (orI a b)) ∧ w = w' := by
 by_cases ha : a = 0
 ·subst ha
  by_cases hb : b = 0
  ·subst hb
   go_enter Tryz.func169, Tryz.ntmps169
   go_wp2_with fail
   refine wp_loop_rounds 3 ?_
   rw [rounds_succ]; go_wp2_with fail
   rw [rounds_succ]; go_wp2_with fail
   rw [rounds_succ]; go_wp2_with fail
   go_ret
   exact ⟨rfl, rfl⟩
  ·go_enter Tryz.func169, Tryz.ntmps169
   go_wp2_with fail
   refine wp_loop_rounds 3 ?_
   rw [rounds_succ]; go_wp2_with fail
   rw [rounds_succ]; go_wp2_with fail
   go_ret
   exact ⟨rfl, rfl⟩
 ·have hr : orI a b = a := if_neg ha
  rw [hr]
  clear hr
  go_enter Tryz.func169, Tryz.ntmps169
  go_wp2_with fail
  refine wp_loop_rounds 3 ?_
  rw [rounds_succ]; go_wp2_with fail
  go_ret
  exact ⟨rfl, rfl⟩
set_option maxHeartbeats 1600000 in
theorem uids_c (t i t' i' : ByteArray) (w : World) : Calls Tryz.prog 133 #[.agg #[.string t, .string i], .agg #[.string t', .string i']] w fun e w' => e = .returned (.int .i64 (orI (cmpT t t') (cmpT i i'))) ∧ Gr w w' := by
 obtain ⟨x, hx⟩ : ∃ x, x = cmpT t t' := ⟨_, rfl⟩
 obtain ⟨y, hy⟩ : ∃ y, y = cmpT i i' := ⟨_, rfl⟩
 have c1 : ∀ w, Calls Tryz.prog 132 #[.string t, .string t'] w fun e w' => e = .returned (.int .i64 x) ∧ w = w' := fun w => by rw [hx]; exact sCmp_c t t' w
 have c2 : ∀ w, Calls Tryz.prog 132 #[.string i, .string i'] w fun e w' => e = .returned (.int .i64 y) ∧ w = w' := fun w => by rw [hy]; exact sCmp_c i i' w
 rw [← hx, ← hy]
 have C1 := Lib.hid c1
 have C2 := Lib.hid c2
 have c3 : ∀ (W : World) (bk c : Nat) (tt : TypeId), W.heap.size = bk → Calls Tryz.prog 169 #[.slice (some ⟨bk, 0, none⟩) 2 c] (W.alloc (.cells #[.int .i64 x, .int .i64 y] tt)).drew fun e w' => e = .returned (.int .i64 (orI x y)) ∧ (W.alloc (.cells #[.int .i64 x, .int .i64 y] tt)).drew = w' :=
  fun W bk c tt hb => by
   subst hb
   refine or_c x y _ c _ ?_ ?_
   ·show (W.alloc _).cell? _ = _
    rw [World.cell?_alloc_mark]; rfl
   ·show (W.alloc _).cell? _ = _
    rw [World.cell?_alloc_mark]; rfl
 have C3 := Lib.hid c3
 clear hx hy c1 c2 c3
 go_enter Tryz.func133, Tryz.ntmps133
 go_wp2_with fail
 obtain ⟨W, hW⟩ : ∃ W, W = (w.alloc (.cells #[.string t, .string i] 23)).alloc (.cells #[.string t', .string i'] 23) := ⟨_, rfl⟩
 have g0 : Gr w W := hW ▸ Gr.alloc (Gr.alloc (Gr.refl w) _) _
 have a0 : W.cell? ⟨w.heap.size, 0, none⟩ = some (.string t) := by rw [hW]; simp [go_sem]
 have a1 : W.cell? ⟨w.heap.size, 1, none⟩ = some (.string i) := by rw [hW]; simp [go_sem]
 have b0 : W.cell? ⟨w.heap.size + 1, 0, none⟩ = some (.string t') := by rw [hW]; simp [go_sem]
 have b1 : W.cell? ⟨w.heap.size + 1, 1, none⟩ = some (.string i') := by rw [hW]; simp [go_sem]
 rw [← hW]
 clear hW
 have G0 := Lib.hid g0
 clear g0
 go_region_held3 (fun w' => w'.cell? ⟨w.heap.size, 0, none⟩ = some (.string t) ∧ w'.cell? ⟨w.heap.size, 1, none⟩ = some (.string i) ∧ w'.cell? ⟨w.heap.size + 1, 0, none⟩ = some (.string t') ∧ w'.cell? ⟨w.heap.size + 1, 1, none⟩ = some (.string i')) (go_keep) (first | (go_at_call_of 132 (Value.string t); refine (C1.out _).mono ?_; rintro e w' ⟨rfl, rfl⟩) | (go_at_call_of 132 (Value.string i); refine (C2.out _).mono ?_; rintro e w' ⟨rfl, rfl⟩) | (go_at_call 169; refine (C3.out _ _ _ _ rfl).mono ?_; rintro e w' ⟨rfl, rfl⟩))
 all_goals
  go_wp2_with fail
  go_ret
  exact ⟨rfl, by first | exact Gr.alloc (Gr.drew G0.out) _ | exact Gr.drew (Gr.alloc G0.out _)⟩
end Go.Proofs.YtnchohglplobeaaGreat
