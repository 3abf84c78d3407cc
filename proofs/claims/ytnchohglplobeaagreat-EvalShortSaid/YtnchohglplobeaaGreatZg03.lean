/- Maps that hold any values, by keys of one's own: what is at a key, whether it is there, a store, a deletion, how many there are. Condition: the key's type is one that the library knows. Ranging over a map by keys of one's own, in whatever order. Condition: the key's type is one that the library knows. Of what was there nothing has turned: a word for what a call leaves of memory, and the last step of a law's proof from it. No condition. Values as trees: their parts, their depth, their order, and how they must be, by definition; facts on these that stand on nothing. No condition. Orders by numbers, rows that rise, each once: facts that stand on nothing. No condition. Plain ways among names: rounds, what is left where names to which no step leads are taken away, a table of ways. No condition. Plain entities: their names, rounds, and lists as they must be, by definition ('c': a value as it must be). No condition. Names as keys of a map: how one is laid as a value, and what it reads as. No condition. Plain: names to which no step leads are taken away, one by one: what is left is a round, or nothing. No condition. Plain: rows of names under names; what is reached of a name; a list that grows while it is gone through. No condition. Types ats trees: how deep they are, whether they may be, which are below which, the least one above two, by definition; being below is an order and the least one is the least. No condition. Rows of several cells an element that a call makes itself: gone on with, one by one. No condition. -/
import Derived.Test.YtnchohglplobeaaGreatChecked
import Derived.Test.YtnchohglplobeaaGreatRows
import Derived.Maps.OwnSet
import Derived.Maps.RangeWalk
import Derived.WalkKit
import Derived.Carry
import Derived.ChangeSame
import Derived.ProofKit
import Derived.Deep.Draws
import Derived.Lib.Small
import Derived.Shelf.Small.Strs
import Derived.DeepKeys4
import Derived.ArgAppend
set_option linter.unusedVariables false
set_option linter.unusedSimpArgs false
set_option linter.unnecessarySimpa false
namespace Go.Proofs.YtnchohglplobeaaGreat
open Go.RowKit Go.Maps
def Rv (v : Value) : Option (DataW Value × List MemPlace) := some (.held v, [])
structure KeyF (P : Program) (k : TypeId) (α : Type) where
 kv : α → Value
 kl : α → Lit
 ok : ∀ a, keyOf P k (kv a) = some (kl a)
 inj : ∀ a b, kv a = kv b → a = b
variable {P : Program} {k : TypeId} {α : Type}
theorem KeyF.ne (F : KeyF P k α) (K : Keyed P k) {a b : α} (h : a ≠ b) : F.kl a ≠ F.kl b := fun e => h (F.inj a b (K.inj (F.ok a) (by rw [e]; exact F.ok b)))
structure MapD (F : KeyF P k α) (w : World) (b n : Nat) (D : DataW Value) (f : α → Option Value) : Prop where
 owns : w.ownsMap P k Rv b n D
 has : ∀ a, Maps.has D (F.kl a) = (f a).isSome
 at' : ∀ a v, f a = some v → ∀ z, D.atKey (F.kl a) z = .held v
 key : ∀ l, Maps.has D l = true → ∃ a, l = F.kl a
 num : ∃ ks : List α, ks.Nodup ∧ (∀ a, a ∈ ks ↔ (f a).isSome = true) ∧ Maps.size D = ks.length
def MapAt (F : KeyF P k α) (w : World) (b n : Nat) (f : α → Option Value) : Prop := ∃ D, MapD F w b n D f
theorem MapAt.made (F : KeyF P k α) (w : World) : MapAt F (w.alloc (.map #[] 0)) w.heap.size 0 fun _ => none :=
 ⟨.map [], ⟨World.ownsMap_made _ _ _ _, fun _ => rfl, (by intro _ _ h; cases h), (by intro l h; simp [Maps.has] at h), ⟨[], List.nodup_nil, (by intro a; simp), rfl⟩⟩⟩
theorem MapAt.kept {F : KeyF P k α} {w w' : World} {b n : Nat} {f : α → Option Value} {row : Option Nat} (h : MapAt F w b n f) (hg : w.grownBy w' row) (hne : some b ≠ row) : MapAt F w' b n f := by
 obtain ⟨D, h⟩ := h
 exact ⟨D, h.owns.kept hg hne, h.has, h.at', h.key, h.num⟩
theorem MapAt.lt {F : KeyF P k α} {w : World} {b n : Nat} {f : α → Option Value} (h : MapAt F w b n f) : b < w.heap.size := by
 obtain ⟨D, h⟩ := h
 exact h.owns.lt
theorem MapAt.block {F : KeyF P k α} {w w' : World} {b n : Nat} {f : α → Option Value} (h : MapAt F w b n f) (e : w'.heap[b]? = w.heap[b]?) : MapAt F w' b n f := by
 obtain ⟨D, h⟩ := h
 obtain ⟨es, clock, hb, r⟩ := h.owns
 exact ⟨D, ⟨es, clock, e.trans hb, r⟩, h.has, h.at', h.key, h.num⟩
theorem MapAt.congr {F : KeyF P k α} {w : World} {b n : Nat} {f g : α → Option Value} (h : MapAt F w b n f) (e : ∀ a, f a = g a) : MapAt F w b n g := by
 have : f = g := funext e
 rw [← this]; exact h
theorem MapAt.mono {F : KeyF P k α} {w : World} {b n m : Nat} {f : α → Option Value} (h : MapAt F w b n f) (hn : n ≤ m) : MapAt F w b m f := by
 obtain ⟨D, h⟩ := h
 exact ⟨D, h.owns.mono hn, h.has, h.at', h.key, h.num⟩
theorem MapAt.look {F : KeyF P k α} {w : World} {b n : Nat} {f : α → Option Value} (h : MapAt F w b n f) (K : Keyed P k) {t e : TypeId} (ht : P.underlying t = some (.map k e)) {z : Value} (hz : (zeroValue e).run P w = .ok z w) (a : α) :
  (Instr.lookup t (.map (some b)) (F.kv a) false).run P w = .ok ((f a).getD z) w := by
 obtain ⟨D, h⟩ := h
 obtain ⟨v, ps, hrun, hv⟩ := h.owns.lookup K ht hz (zd := .held z) (zp := []) rfl (F.ok a)
 rw [hrun]
 have hv2 : (DataW.held v : DataW Value) = D.atKey (F.kl a) (.held z) := by
  have h9 : (DataW.held v : DataW Value) = D.atKey (F.kl a) (.held z) ∧ ps = [] := by simpa [Rv] using hv
  exact h9.1
 cases hf : f a with
 | none =>
  have := h.has a
  rw [hf] at this
  rw [Maps.atKey_of_not_has this] at hv2
  simp at hv2
  rw [hv2]; rfl
 | some u =>
  rw [h.at' a u hf] at hv2
  simp at hv2
  rw [hv2]; rfl
theorem MapAt.lookOk {F : KeyF P k α} {w : World} {b n : Nat} {f : α → Option Value} (h : MapAt F w b n f) (K : Keyed P k) {t e : TypeId} (ht : P.underlying t = some (.map k e)) {z : Value} (hz : (zeroValue e).run P w = .ok z w) (a : α) :
  (Instr.lookup t (.map (some b)) (F.kv a) true).run P w = .ok (.tuple #[(f a).getD z, .bool (f a).isSome]) w := by
 obtain ⟨D, h⟩ := h
 obtain ⟨v, ps, hrun, hv⟩ := h.owns.look_ok K ht hz (zd := .held z) (zp := []) rfl (F.ok a)
 rw [hrun, h.has]
 have hv2 : (DataW.held v : DataW Value) = D.atKey (F.kl a) (.held z) := by
  have h9 : (DataW.held v : DataW Value) = D.atKey (F.kl a) (.held z) ∧ ps = [] := by simpa [Rv] using hv
  exact h9.1
 cases hf : f a with
 | none =>
  have := h.has a
  rw [hf] at this
  rw [Maps.atKey_of_not_has this] at hv2
  simp at hv2
  rw [hv2]; rfl
 | some u =>
  rw [h.at' a u hf] at hv2
  simp at hv2
  rw [hv2]; rfl
section
variable [DecidableEq α]
def updF (f : α → Option Value) (a : α) (v : Option Value) : α → Option Value := fun x => if x = a then v else f x
theorem MapAt.store {F : KeyF P k α} {w : World} {b n : Nat} {f : α → Option Value} (h : MapAt F w b n f) (K : Keyed P k) {t e : TypeId} (ht : P.underlying t = some (.map k e)) (hn : n < maxLen) (a : α) (v : Value) :
  ∃ w', (Instr.mapUpdate t (.map (some b)) (F.kv a) v).run P w = .ok () w' ∧ MapAt F w' b (n + 1) (updF f a (some v)) ∧ w.mapTurned w' b := by
 obtain ⟨D, h⟩ := h
 obtain ⟨w', hrun, hown, ht'⟩ := h.owns.store K ht hn (F.ok a) (val := v) (d := .held v) (ps := []) rfl
 have hD := h.owns.isMap
 have hk := K.key (F.ok a)
 refine ⟨w', hrun, ⟨_, hown, fun x => ?_, fun x u hu z => ?_, fun l hl => ?_, ?_⟩, ht'⟩
 ·unfold updF
  by_cases e : x = a
  ·rw [if_pos e, e, Maps.has_put_same hD hk]; rfl
  ·rw [if_neg e, Maps.has_put_other (F.ne K e), h.has]
 ·unfold updF at hu
  by_cases e : x = a
  ·rw [if_pos e] at hu
   cases hu
   rw [e, Maps.atKey_put_same hD hk]
  ·rw [if_neg e] at hu
   rw [Maps.atKey_put_other (F.ne K e), h.at' x u hu]
 ·by_cases e : l = F.kl a
  ·exact ⟨a, e⟩
  ·rw [Maps.has_put_other e] at hl
   exact h.key l hl
 ·obtain ⟨ks, hnd, hm, hs⟩ := h.num
  have hsz := Maps.size_put (k := F.kl a) (h.owns.tidy K) (.held v)
  rw [h.has, hs] at hsz
  by_cases hf : (f a).isSome = true
  ·refine ⟨ks, hnd, fun x => ?_, by rw [hsz, if_pos hf]⟩
   unfold updF
   by_cases e : x = a
   ·rw [if_pos e, e]; simp [(hm a).2 hf]
   ·rw [if_neg e]; exact hm x
  ·refine ⟨a :: ks, List.nodup_cons.2 ⟨fun hx => hf ((hm a).1 hx), hnd⟩, fun x => ?_, by rw [hsz, if_neg hf]; rfl⟩
   unfold updF
   by_cases e : x = a
   ·rw [if_pos e, e]; simp
   ·rw [if_neg e, List.mem_cons]
    exact ⟨fun h1 => (hm x).1 (h1.resolve_left e), fun h1 => .inr ((hm x).2 h1)⟩
theorem MapAt.drop {F : KeyF P k α} {w : World} {b n : Nat} {f : α → Option Value} (h : MapAt F w b n f) (K : Keyed P k) {t e : TypeId} (ht : P.underlying t = some (.map k e)) (a : α) (ty : TypeId) :
  ∃ w', (Builtin.delete_ #[t, k] ty #[.map (some b), F.kv a]).run P w = .ok (.tuple #[]) w' ∧ MapAt F w' b n (updF f a none) ∧ w.mapTurned w' b := by
 obtain ⟨D, h⟩ := h
 obtain ⟨w', hrun, hown, ht'⟩ := h.owns.drop K ht (F.ok a) ty
 refine ⟨w', hrun, ⟨_, hown, fun x => ?_, fun x u hu z => ?_, fun l hl => ?_, ?_⟩, ht'⟩
 ·unfold updF
  by_cases e : x = a
  ·rw [if_pos e, e, Maps.has_del_same]; rfl
  ·rw [if_neg e, Maps.has_del_other (F.ne K e), h.has]
 ·unfold updF at hu
  by_cases e : x = a
  ·rw [if_pos e] at hu; cases hu
  ·rw [if_neg e] at hu
   rw [Maps.atKey_del_other (F.ne K e), h.at' x u hu]
 ·by_cases e : l = F.kl a
  ·exact ⟨a, e⟩
  ·rw [Maps.has_del_other e] at hl
   exact h.key l hl
 ·obtain ⟨ks, hnd, hm, hs⟩ := h.num
  have hsz := Maps.size_del (k := F.kl a) (h.owns.tidy K)
  rw [h.has, hs] at hsz
  refine ⟨ks.erase a, hnd.erase a, fun x => ?_, ?_⟩
  ·rw [hnd.mem_erase_iff]
   unfold updF
   by_cases e : x = a
   ·rw [if_pos e]; simp [e]
   ·rw [if_neg e]
    exact ⟨fun h1 => (hm x).1 h1.2, fun h1 => ⟨e, (hm x).2 h1⟩⟩
  ·rw [List.length_erase]
   by_cases hf : (f a).isSome = true
   ·rw [if_pos ((hm a).2 hf)]
    rw [if_pos hf] at hsz
    omega
   ·rw [if_neg fun hx => hf ((hm a).1 hx)]
    rw [if_neg hf] at hsz
    omega
end
theorem MapAt.len {F : KeyF P k α} {w : World} {b n : Nat} {f : α → Option Value} (h : MapAt F w b n f) {t e : TypeId} (ht : P.underlying t = some (.map k e)) (ty : TypeId) :
  ∃ ks : List α, ks.Nodup ∧ (∀ a, a ∈ ks ↔ (f a).isSome = true) ∧ (Builtin.len_ #[t] ty #[.map (some b)]).run P w = .ok (.int .i64 (ks.length : Int)) w := by
 obtain ⟨D, h⟩ := h
 obtain ⟨ks, hnd, hm, hs⟩ := h.num
 refine ⟨ks, hnd, hm, ?_⟩
 rw [h.owns.len ht ty, hs]
end Go.Proofs.YtnchohglplobeaaGreat
namespace Go.Proofs.YtnchohglplobeaaGreat
open Go.RowKit Go.Maps
section
variable {P : Program} {k : TypeId} {α : Type}
def RangeAt (F : KeyF P k α) (w : World) (b r n : Nat) (f : α → Option Value) (seen : List α) (cnt : Nat) : Prop :=
 ∃ D left, MapD F w b n D f ∧ w.ranges P k Rv b r n D left cnt ∧ seen.Nodup ∧ (∀ a ∈ seen, (f a).isSome = true) ∧ (∀ a, left (F.kl a) = true ↔ ((f a).isSome = true ∧ a ∉ seen)) ∧ ∀ l, left l = true → ∃ a, l = F.kl a
theorem MapAt.range {F : KeyF P k α} {w : World} {b n : Nat} {f : α → Option Value} (h : MapAt F w b n f) (K : Keyed P k) {t e : TypeId} (ht : P.underlying t = some (.map k e)) :
  ∃ w' cnt, (Instr.range t (.map (some b))).run P w = .ok (.pointer (some ⟨w.heap.size, 0, none⟩)) w' ∧ RangeAt F w' b w.heap.size n f [] cnt ∧ w.grownBy w' none ∧ w'.heap.size = w.heap.size + 1 := by
 obtain ⟨D, h⟩ := h
 obtain ⟨w', hrun, hr, hg, hs⟩ := h.owns.range K ht
 refine ⟨w', _, hrun, ⟨D, _, ⟨hr.owns, h.has, h.at', h.key, h.num⟩, hr, List.nodup_nil, by simp, fun a => ?_, h.key⟩, hg, hs⟩
 rw [h.has]; simp
theorem RangeAt.map {F : KeyF P k α} {w : World} {b r n : Nat} {f : α → Option Value} {seen : List α} {cnt : Nat} (h : RangeAt F w b r n f seen cnt) : MapAt F w b n f := by
 obtain ⟨D, left, h, _⟩ := h
 exact ⟨D, h⟩
theorem RangeAt.lt {F : KeyF P k α} {w : World} {b r n : Nat} {f : α → Option Value} {seen : List α} {cnt : Nat} (h : RangeAt F w b r n f seen cnt) : r < w.heap.size ∧ b < w.heap.size ∧ r ≠ b := by
 obtain ⟨D, left, h, hr, _⟩ := h
 exact ⟨hr.lt, h.owns.lt, hr.ne⟩
theorem RangeAt.kept {F : KeyF P k α} {w w' : World} {b r n : Nat} {f : α → Option Value} {seen : List α} {cnt : Nat} {row : Option Nat} (h : RangeAt F w b r n f seen cnt) (hg : w.grownBy w' row) (hb : some b ≠ row) (hr : some r ≠ row) : RangeAt F w' b r n f seen cnt := by
 obtain ⟨D, left, h, hr', h1⟩ := h
 exact ⟨D, left, ⟨h.owns.kept hg hb, h.has, h.at', h.key, h.num⟩, hr'.kept hg hb hr, h1⟩
theorem RangeAt.next {F : KeyF P k α} {w : World} {b r n : Nat} {f : α → Option Value} {seen : List α} {cnt : Nat} (h : RangeAt F w b r n f seen cnt) (K : Keyed P k) (ty : TypeId) :
  ((∀ a, (f a).isSome = true → a ∈ seen) ∧ (Instr.next (.pointer (some ⟨r, 0, none⟩)) false ty).run P w = .ok (.tuple #[.bool false]) w) ∨
  ∃ a v w' cnt', f a = some v ∧ a ∉ seen ∧ (Instr.next (.pointer (some ⟨r, 0, none⟩)) false ty).run P w = .ok (.tuple #[.bool true, F.kv a, v]) w' ∧ RangeAt F w' b r n f (seen ++ [a]) cnt' ∧ cnt' < cnt ∧
   w.grownBy w' (some r) ∧ w'.heap.size = w.heap.size ∧ (Instr.entry (.pointer (some ⟨r, 0, none⟩))).run P w' = .ok (.tuple #[F.kv a, v]) w' := by
 obtain ⟨D, left, h, hr, hnd, hsn, hl, hk⟩ := h
 rcases hr.next K ty with ⟨h0, hl0, hrun⟩ | ⟨key, v, kl, y, w', cnt', hkey, hlk, hv, hat, hrun, hrg, hlt, hgr, hsz, hen⟩
 ·refine .inl ⟨fun a ha => ?_, hrun⟩
  apply Classical.byContradiction
  intro hn
  have := (hl a).2 ⟨ha, hn⟩
  rw [hl0] at this; cases this
 ·obtain ⟨a, rfl⟩ := hk kl hlk
  obtain rfl : key = F.kv a := K.inj hkey (F.ok a)
  have hla := (hl a).1 hlk
  obtain ⟨u, hu⟩ := Option.isSome_iff_exists.1 hla.1
  have h1 := h.at' a u hu (.held u)
  rw [hat] at h1
  have h2 : y = (.held v, []) := by simpa [Rv] using hv.symm
  rw [h2] at h1
  have huv : v = u := by simpa using h1
  subst huv
  refine .inr ⟨a, v, w', cnt', hu, hla.2, hrun, ⟨D, _, ⟨hrg.owns, h.has, h.at', h.key, h.num⟩, hrg, ?_, fun x hx => ?_, fun x => ?_, fun l hl' => ?_⟩, hlt, hgr, hsz, hen⟩
  ·rw [List.nodup_append]
   refine ⟨hnd, by simp, fun x hx z hz => ?_⟩
   simp at hz
   intro e
   rw [e, hz] at hx
   exact hla.2 hx
  ·rcases List.mem_append.1 hx with hx | hx
   ·exact hsn x hx
   ·simp at hx
    rw [hx]; exact hla.1
  ·by_cases e : x = a
   ·subst e
    rw [WideAt.sameKey_self (K.key hkey)]
    simp
   ·rw [Maps.sameKey_ne (F.ne K e)]
    simp only [Bool.not_false, Bool.and_true, List.mem_append, List.mem_singleton, not_or]
    rw [hl x]
    exact ⟨fun ⟨p, q⟩ => ⟨p, q, e⟩, fun ⟨p, q, _⟩ => ⟨p, q⟩⟩
  ·rw [Bool.and_eq_true] at hl'
   exact hk l hl'.1
end
end Go.Proofs.YtnchohglplobeaaGreat
namespace Go.Proofs.YtnchohglplobeaaGreat
open Go.RowKit Go.ChangeShapes Go.WideShapes
def Low (w w' : World) : Prop := w'.os = w.os ∧ w'.output = w.output ∧ w.heap.size ≤ w'.heap.size ∧ ∀ k, k < w.heap.size → w'.heap[k]? = w.heap[k]?
theorem Low.refl (w : World) : Low w w := ⟨rfl, rfl, Nat.le_refl _, fun _ _ => rfl⟩
theorem Low.trans {a b c : World} (h : Low a b) (k : Low b c) : Low a c :=
 ⟨k.1.trans h.1, k.2.1.trans h.2.1, Nat.le_trans h.2.2.1 k.2.2.1, fun i hi => (k.2.2.2 i (Nat.lt_of_lt_of_le hi h.2.2.1)).trans (h.2.2.2 i hi)⟩
theorem Low.size {w w' : World} (h : Low w w') : w.heap.size ≤ w'.heap.size := h.2.2.1
theorem Low.of_below {w w' : World} (h : Below w.heap.size w w') : Low w w' := ⟨h.os, h.output, h.size, h.block⟩
theorem Low.drewN (w : World) (n : Nat) : Low w (w.drewN n) := ⟨rfl, rfl, Nat.le_refl _, fun _ _ => rfl⟩
theorem Low.cell {w w' : World} (h : Low w w') {p : Addr} (hp : p.block < w.heap.size) : w'.cell? p = w.cell? p := World.cell?_of_block (w := w) (h.2.2.2 p.block hp)
theorem Low.frozen {w w' : World} (h : Low w w') {p : Addr} (hp : p.block < w.heap.size) : w'.frozen? p = w.frozen? p := World.frozen?_of_block (w := w) (h.2.2.2 p.block hp)
theorem cell_lt {w : World} {p : Addr} {v : Value} (h : w.cell? p = some v) : p.block < w.heap.size := by
 rcases Nat.lt_or_ge p.block w.heap.size with k | k
 ·exact k
 ·have e : w.heap[p.block]? = none := by simp; exact k
  cases p with
  | mk b o f => simp [World.cell?, e] at h
theorem Low.keep {w w' : World} (h : Low w w') {p : Addr} {v : Value} (hc : w.cell? p = some v) : w'.cell? p = some v := (h.cell (cell_lt hc)).trans hc
theorem Low.frame {w w' : World} (h : Low w w') (may : MemPlace → Prop) : w.keptBut w' may := by
 refine ⟨h.1, h.2.1, fun i hi => ?_⟩
 rw [h.2.2.2 i hi]
 split <;> simp_all
theorem Low.same {W W' : World} (h : Low W W') {p : MemPlace} (hp : p.block < W.heap.size) : W.sameAt W' p := by
 cases p with
 | cell b o => exact World.cell?_of_block (w := W) (h.2.2.2 b hp)
 | map b => exact h.2.2.2 b hp
theorem post_of_low {H : Type} {enc : TypeId × Value → H} {P : Program} {f : Func} {s : ChangeSpec} {apart fresh handsOn again : Bool} {W W' : World} {args : Array Value} {v : Value} {ds gs : List (DataW H)} {before pa pv : List MemPlace}
  (hW : DataW.Whole enc P f.params.toList s.vars apart W args.toList ds gs before)
  (hres : ∀ (b : Nat) (sp : Nat → Bool) (hd : Bool), DataW.TrodAll enc P W' b sp hd f.resultTypes.toList (v.resultList f.resultTypes.size) (s.fn H (ds ++ gs)).results [])
  (hargs : ∀ sp : Nat → Bool, (∀ p ∈ before, sp p.block = true) → DataW.TrodAll enc P W' 0 sp true f.params.toList args.toList (s.fn H (ds ++ gs)).args pa)
  (hvars : ∀ sp : Nat → Bool, (∀ p ∈ before, sp p.block = true) → DataW.TrodVars enc P W' sp s.vars (s.fn H (ds ++ gs)).vars pv)
  (hps : before = pa ++ pv) (hb : Low W W')
  (hok : ∀ (j : Nat) (t : TypeId) (r : Value), f.resultTypes[j]? = some t → (v.resultList f.resultTypes.size)[j]? = some r → Value.okWide P W' .any 0 t r) :
  s.post enc P f apart fresh handsOn again W args v W' := by
 have hlt : ∀ p ∈ before, p.block < W.heap.size := fun p hp => hW.lt p hp
 have old : ∀ p ∈ before, (fun b => decide (b < W.heap.size)) p.block = true := fun p hp => decide_eq_true (hlt p hp)
 refine ⟨ds, gs, before, [], pa, pv, hW, hres _ _ _, hargs _ old, hvars _ old, World.keptBut_mono (fun p hp => ⟨hp, ?_⟩) (hb.frame (· ∈ before)), fun _ => ?_⟩
 ·rw [hps, List.mem_append] at hp
  exact .inr hp
 ·obtain ⟨_, _, _, _, _, hz, hn⟩ := hW
  refine ⟨hok, _, _, ([] ++ pa) ++ pv, ⟨[] ++ pa, pv, trodAll_append (hargs _ fun _ _ => rfl) (hres _ _ _), hvars _ fun _ _ => rfl, rfl, fun b off hp => ?_, fun ha => ?_⟩, fun p hp _ => ?_⟩
  ·have hin : MemPlace.cell b off ∈ before := by rw [hps]; simpa using hp
   rw [hb.frozen (hlt _ hin)]
   exact hz b off hin
  ·have h := hn ha
   rw [hps] at h
   simpa using h
  ·rw [hps]
   simpa using hp
end Go.Proofs.YtnchohglplobeaaGreat
namespace Go.Proofs.YtnchohglplobeaaGreat
open Go.RowKit
structure Hd where
 k : Int
 b : Bool
 n : Int
 s : ByteArray
 t : ByteArray
 i : ByteArray
inductive V where
 | mk (h : Hd) (l : List V) (ns : List ByteArray)
namespace V
def h : V → Hd | .mk h _ _ => h
def l : V → List V | .mk _ l _ => l
def ns : V → List ByteArray | .mk _ _ ns => ns
end V
theorem V.eta : ∀ v : V, v = .mk v.h v.l v.ns | .mk _ _ _ => rfl
mutual
def dep : V → Nat
 | .mk _ l _ => depL l + 1
def depL : List V → Nat
 | [] => 0
 | x :: l => max (dep x) (depL l)
end
theorem dep_mem {x : V} {l : List V} (h : x ∈ l) : dep x ≤ depL l := by
 induction l with
 | nil => simp at h
 | cons y l ih =>
  rw [depL]
  rcases List.mem_cons.1 h with rfl | h
  ·exact Nat.le_max_left _ _
  ·exact Nat.le_trans (ih h) (Nat.le_max_right _ _)
theorem dep_v (v : V) : dep v = depL v.l + 1 := by cases v; rw [dep]; rfl
theorem dep_item {v : V} {j : Nat} (hj : j < v.l.length) : dep v.l[j] < dep v := by
 have := dep_mem (List.getElem_mem hj)
 rw [dep_v v]; omega
theorem depL_le {l : List V} {n : Nat} (h : ∀ x ∈ l, dep x ≤ n) : depL l ≤ n := by
 induction l with
 | nil => rw [depL]; omega
 | cons y l ih =>
  rw [depL]
  have h1 := h y (by simp)
  have h2 := ih fun x hx => h x (by simp [hx])
  omega
mutual
def Smv : V → Prop
 | .mk _ l ns => l.length ≤ 70000 ∧ ns.length ≤ 70000 ∧ SmL l
def SmL : List V → Prop
 | [] => True
 | x :: l => Smv x ∧ SmL l
end
theorem smL_iff {l : List V} : SmL l ↔ ∀ x ∈ l, Smv x := by
 induction l with
 | nil => simp [SmL]
 | cons y l ih => simp [SmL, ih]
theorem sm_v (v : V) : Smv v ↔ v.l.length ≤ 70000 ∧ v.ns.length ≤ 70000 ∧ ∀ x ∈ v.l, Smv x := by
 cases v; rw [Smv, smL_iff]; rfl
def cmpIv (a b : Int) : Int := Lib.compareInt a b
def cmpT (a b : ByteArray) : Int := Lib.compareBytes a.data.toList b.data.toList
def cmpBv (a b : Bool) : Int := if a = b then 0 else if b then -1 else 1
def orI (a b : Int) : Int := if a = 0 then b else a
def cmpN : List ByteArray → List ByteArray → Int
 | [], [] => 0
 | [], _ :: _ => -1
 | _ :: _, [] => 1
 | x :: l, y :: m => orI (cmpT x y) (cmpN l m)
mutual
def ord : V → V → Int
 | .mk h l ns, v =>
  if h.k = v.h.k then
   if h.k = 1 then cmpBv h.b v.h.b
   else if h.k = 2 then cmpIv h.n v.h.n
   else if h.k = 3 then cmpT h.s v.h.s
   else if h.k = 4 then orI (cmpT h.t v.h.t) (cmpT h.i v.h.i)
   else if h.k = 5 then ordN l l.length v.l
   else if h.k = 6 then orI (cmpN ns v.ns) (ordN l (min ns.length l.length) (v.l.take (min v.ns.length v.l.length)))
   else 0
  else cmpIv h.k v.h.k
def ordN : List V → Nat → List V → Int
 | [], _, [] => 0
 | [], _, _ :: _ => -1
 | _ :: _, 0, [] => 0
 | _ :: _, 0, _ :: _ => -1
 | _ :: _, _ + 1, [] => 1
 | x :: l, n + 1, y :: m => orI (ord x y) (ordN l n m)
end
def ordL (l m : List V) : Int := ordN l l.length m
theorem ordL_nil : ordL [] [] = 0 := rfl
theorem ordL_nil_cons (y : V) (m : List V) : ordL [] (y :: m) = -1 := rfl
theorem ordL_cons_nil (x : V) (l : List V) : ordL (x :: l) [] = 1 := by unfold ordL; rw [List.length_cons, ordN]
theorem ordL_cons (x y : V) (l m : List V) : ordL (x :: l) (y :: m) = orI (ord x y) (ordL l m) := by unfold ordL; rw [List.length_cons, ordN]
theorem ordN_take : ∀ (l : List V) (n : Nat) (m : List V), n ≤ l.length → ordN l n m = ordL (l.take n) m
 | [], n, m, h => by simp at h; subst h; rfl
 | x :: l, 0, [], _ => by rw [ordN]; rfl
 | x :: l, 0, _ :: _, _ => by rw [ordN]; rfl
 | x :: l, n + 1, [], _ => by rw [ordN, List.take_succ_cons, ordL_cons_nil]
 | x :: l, n + 1, y :: m, h => by rw [ordN, List.take_succ_cons, ordL_cons, ordN_take l n m (by simpa using h)]
def V.named (v : V) : List V := v.l.take (min v.ns.length v.l.length)
theorem ord_eq (a b : V) : ord a b =
  if a.h.k = b.h.k then
   if a.h.k = 1 then cmpBv a.h.b b.h.b
   else if a.h.k = 2 then cmpIv a.h.n b.h.n
   else if a.h.k = 3 then cmpT a.h.s b.h.s
   else if a.h.k = 4 then orI (cmpT a.h.t b.h.t) (cmpT a.h.i b.h.i)
   else if a.h.k = 5 then ordL a.l b.l
   else if a.h.k = 6 then orI (cmpN a.ns b.ns) (ordL a.named b.named)
   else 0
  else cmpIv a.h.k b.h.k := by
 cases a with
 | mk h l ns =>
  rw [ord]
  simp only [V.h, V.l, V.ns, V.named]
  rw [ordN_take _ _ _ (Nat.min_le_right _ _)]
  rfl
end Go.Proofs.YtnchohglplobeaaGreat
namespace Go.Proofs.YtnchohglplobeaaGreat
structure Good {α : Type} (c : α → α → Int) (S : α → Prop) : Prop where
 anti : ∀ a b, S a → S b → c b a = - c a b
 eq : ∀ a b d, S a → S b → S d → c a b = 0 → c a d = c b d
 lt : ∀ a b d, S a → S b → S d → c a b < 0 → c b d < 0 → c a d < 0
section
variable {α : Type} {c : α → α → Int} {S : α → Prop}
theorem Good.refl (g : Good c S) {a : α} (h : S a) : c a a = 0 := by have := g.anti a a h h; omega
theorem Good.eq' (g : Good c S) {a b d : α} (ha : S a) (hb : S b) (hd : S d) (h : c a b = 0) : c d a = c d b := by
 have h1 := g.eq a b d ha hb hd h
 have h2 := g.anti a d ha hd
 have h3 := g.anti b d hb hd
 omega
theorem Good.le (g : Good c S) {a b d : α} (ha : S a) (hb : S b) (hd : S d) (h : c a b ≤ 0) (k : c b d ≤ 0) : c a d ≤ 0 := by
 rcases Int.lt_or_eq_of_le h with h1 | h1
 ·rcases Int.lt_or_eq_of_le k with k1 | k1
  ·exact Int.le_of_lt (g.lt a b d ha hb hd h1 k1)
  ·rw [← g.eq' hb hd ha k1]; exact h
 ·rw [g.eq a b d ha hb hd h1]; exact k
theorem Good.mono {T : α → Prop} (g : Good c S) (h : ∀ a, T a → S a) : Good c T :=
 ⟨fun a b ha hb => g.anti a b (h a ha) (h b hb), fun a b d ha hb hd => g.eq a b d (h a ha) (h b hb) (h d hd), fun a b d ha hb hd => g.lt a b d (h a ha) (h b hb) (h d hd)⟩
def Rises (c : α → α → Int) (l : List α) : Prop := l.Pairwise fun x y => c x y < 0
def ins (c : α → α → Int) (x : α) : List α → List α
 | [] => [x]
 | y :: l => if c y x < 0 then y :: ins c x l else if c y x = 0 then y :: l else x :: y :: l
def uniq (c : α → α → Int) (l : List α) : List α := l.foldl (fun acc x => ins c x acc) []
theorem ins_sub {x z : α} : ∀ {l : List α}, z ∈ ins c x l → z = x ∨ z ∈ l
 | [], h => by simp [ins] at h; exact .inl h
 | y :: l, h => by
  rw [ins] at h
  split at h
  ·rcases List.mem_cons.1 h with h | h
   ·exact .inr (by simp [h])
   ·rcases ins_sub h with h | h
    ·exact .inl h
    ·exact .inr (by simp [h])
  ·split at h
   ·exact .inr h
   ·simpa using h
theorem ins_old {x z : α} : ∀ {l : List α}, z ∈ l → z ∈ ins c x l
 | [], h => by simp at h
 | y :: l, h => by
  rw [ins]
  split
  ·rcases List.mem_cons.1 h with h | h
   ·simp [h]
   ·exact List.mem_cons_of_mem _ (ins_old h)
  ·split
   ·exact h
   ·exact List.mem_cons_of_mem _ h
theorem ins_new {x : α} (hE : ∀ y, S y → c y x = 0 → y = x) : ∀ {l : List α}, (∀ y ∈ l, S y) → x ∈ ins c x l
 | [], _ => by simp [ins]
 | y :: l, h => by
  rw [ins]
  split
  ·exact List.mem_cons_of_mem _ (ins_new hE fun z hz => h z (by simp [hz]))
  ·split
   ·rename_i h2
    rw [hE y (h y (by simp)) h2]; simp
   ·simp
theorem ins_rises (g : Good c S) {x : α} (hx : S x) : ∀ {l : List α}, (∀ y ∈ l, S y) → Rises c l → Rises c (ins c x l)
 | [], _, _ => by simp [ins, Rises]
 | y :: l, h, hr => by
  have hy := h y (by simp)
  have hl : ∀ z ∈ l, S z := fun z hz => h z (by simp [hz])
  have hr' := List.pairwise_cons.1 hr
  rw [ins]
  split
  ·rename_i h1
   refine List.pairwise_cons.2 ⟨fun z hz => ?_, ins_rises g hx hl hr'.2⟩
   rcases ins_sub hz with rfl | hz
   ·exact h1
   ·exact hr'.1 z hz
  ·split
   ·exact hr
   ·rename_i h1 h2
    have h3 : c x y < 0 := by have := g.anti x y hx hy; omega
    refine List.pairwise_cons.2 ⟨fun z hz => ?_, hr⟩
    rcases List.mem_cons.1 hz with rfl | hz
    ·exact h3
    ·exact g.lt x y z hx hy (hl z hz) h3 (hr'.1 z hz)
theorem foldl_ins (g : Good c S) (hE : ∀ y x, S y → S x → c y x = 0 → y = x) : ∀ (l acc : List α), (∀ x ∈ l, S x) → (∀ x ∈ acc, S x) → Rises c acc →
  Rises c (l.foldl (fun acc x => ins c x acc) acc) ∧ ∀ z, z ∈ l.foldl (fun acc x => ins c x acc) acc ↔ z ∈ l ∨ z ∈ acc
 | [], acc, _, _, hr => ⟨hr, fun z => by simp⟩
 | x :: l, acc, hl, ha, hr => by
  have hx := hl x (by simp)
  have h1 : ∀ z ∈ ins c x acc, S z := fun z hz => by
   rcases ins_sub hz with rfl | hz
   ·exact hx
   ·exact ha z hz
  obtain ⟨h2, h3⟩ := foldl_ins g hE l (ins c x acc) (fun z hz => hl z (by simp [hz])) h1 (ins_rises g hx ha hr)
  refine ⟨h2, fun z => ?_⟩
  rw [List.foldl_cons, h3 z]
  constructor
  ·rintro (h | h)
   ·exact .inl (by simp [h])
   ·rcases ins_sub h with rfl | h
    ·exact .inl (by simp)
    ·exact .inr h
  ·rintro (h | h)
   ·rcases List.mem_cons.1 h with rfl | h
    ·exact .inr (ins_new (fun y hy => hE y z hy hx) ha)
    ·exact .inl h
   ·exact .inr (ins_old h)
theorem uniq_rises (g : Good c S) (hE : ∀ y x, S y → S x → c y x = 0 → y = x) {l : List α} (h : ∀ x ∈ l, S x) : Rises c (uniq c l) :=
 (foldl_ins g hE l [] h (by simp) (by simp [Rises])).1
theorem mem_uniq (g : Good c S) (hE : ∀ y x, S y → S x → c y x = 0 → y = x) {l : List α} (h : ∀ x ∈ l, S x) {z : α} : z ∈ uniq c l ↔ z ∈ l := by
 have h2 := (foldl_ins g hE l [] h (by simp) (by simp [Rises])).2 z
 unfold uniq
 simpa using h2
theorem rises_unique (g : Good c S) : ∀ {l m : List α}, (∀ x ∈ l, S x) → (∀ x ∈ m, S x) → Rises c l → Rises c m → (∀ z, z ∈ l ↔ z ∈ m) → l = m
 | [], [], _, _, _, _, _ => rfl
 | [], y :: m, _, _, _, _, h => absurd ((h y).2 (by simp)) (by simp)
 | x :: l, [], _, _, _, _, h => absurd ((h x).1 (by simp)) (by simp)
 | x :: l, y :: m, hl, hm, hr, hs, h => by
  have hx := hl x (by simp)
  have hy := hm y (by simp)
  have hr' := List.pairwise_cons.1 hr
  have hs' := List.pairwise_cons.1 hs
  have e : x = y := by
   rcases List.mem_cons.1 ((h x).1 (by simp)) with e | h1
   ·exact e
   ·rcases List.mem_cons.1 ((h y).2 (by simp)) with e | h2
    ·exact e.symm
    ·have a := hs'.1 x h1
     have b := hr'.1 y h2
     have := g.anti x y hx hy
     omega
  subst e
  have hn : ∀ z, z ∈ l → z ≠ x := fun z hz e => by subst e; have := hr'.1 z hz; rw [g.refl hx] at this; omega
  have hn' : ∀ z, z ∈ m → z ≠ x := fun z hz e => by subst e; have := hs'.1 z hz; rw [g.refl hx] at this; omega
  rw [rises_unique g (fun z hz => hl z (by simp [hz])) (fun z hz => hm z (by simp [hz])) hr'.2 hs'.2 fun z => ?_]
  constructor
  ·intro hz
   rcases List.mem_cons.1 ((h z).1 (by simp [hz])) with e | h1
   ·exact absurd e (hn z hz)
   ·exact h1
  ·intro hz
   rcases List.mem_cons.1 ((h z).2 (by simp [hz])) with e | h1
   ·exact absurd e (hn' z hz)
   ·exact h1
def ddAt (c : α → α → Int) (p : α) : List α → List α
 | [] => []
 | y :: l => if c y p = 0 then ddAt c y l else y :: ddAt c y l
def dd (c : α → α → Int) : List α → List α
 | [] => []
 | x :: l => x :: ddAt c x l
def Sorted (c : α → α → Int) (l : List α) : Prop := l.Pairwise fun x y => ¬ c y x < 0
theorem ddAt_sub {z : α} : ∀ {l : List α} {p : α}, z ∈ ddAt c p l → z ∈ l
 | [], _, h => by simp [ddAt] at h
 | y :: l, p, h => by
  rw [ddAt] at h
  split at h
  ·exact List.mem_cons_of_mem _ (ddAt_sub h)
  ·rcases List.mem_cons.1 h with h | h
   ·simp [h]
   ·exact List.mem_cons_of_mem _ (ddAt_sub h)
theorem ddAt_mem (hE : ∀ y x, S y → S x → c y x = 0 → y = x) {z : α} : ∀ {l : List α} {p : α}, S p → (∀ x ∈ l, S x) → z ∈ l → z = p ∨ z ∈ ddAt c p l
 | [], _, _, _, h => by simp at h
 | y :: l, p, hp, hl, h => by
  have hy := hl y (by simp)
  rw [ddAt]
  split
  ·rename_i h1
   have e := hE y p hy hp h1
   subst e
   rcases List.mem_cons.1 h with h | h
   ·exact .inl h
   ·exact ddAt_mem hE hy (fun x hx => hl x (by simp [hx])) h
  ·rcases List.mem_cons.1 h with h | h
   ·exact .inr (by simp [h])
   ·rcases ddAt_mem hE hy (fun x hx => hl x (by simp [hx])) h with h | h
    ·exact .inr (by simp [h])
    ·exact .inr (List.mem_cons_of_mem _ h)
theorem ddAt_rises (g : Good c S) : ∀ {l : List α} {p : α}, S p → (∀ x ∈ l, S x) → Sorted c (p :: l) → Rises c (p :: ddAt c p l)
 | [], p, _, _, _ => by simp [ddAt, Rises]
 | y :: l, p, hp, hl, hs => by
  have hy := hl y (by simp)
  have hl' : ∀ x ∈ l, S x := fun x hx => hl x (by simp [hx])
  have hs' := List.pairwise_cons.1 hs
  have hyl : Sorted c (y :: l) := hs'.2
  have hpl : Sorted c (p :: l) := List.pairwise_cons.2 ⟨fun z hz => hs'.1 z (by simp [hz]), (List.pairwise_cons.1 hyl).2⟩
  have hnp : ¬ c y p < 0 := hs'.1 y (by simp)
  rw [ddAt]
  split
  ·rename_i h1
   have ih := ddAt_rises g hy hl' hyl
   have ih' := List.pairwise_cons.1 ih
   refine List.pairwise_cons.2 ⟨fun z hz => ?_, ih'.2⟩
   have h2 := ih'.1 z hz
   have hz' := hl' z (ddAt_sub hz)
   rw [g.eq y p z hy hp hz' h1] at h2
   exact h2
  ·rename_i h1
   have ih := ddAt_rises g hy hl' hyl
   have h2 : c p y < 0 := by have := g.anti p y hp hy; omega
   refine List.pairwise_cons.2 ⟨fun z hz => ?_, ih⟩
   rcases List.mem_cons.1 hz with rfl | hz
   ·exact h2
   ·exact g.lt p y z hp hy (hl' z (ddAt_sub hz)) h2 ((List.pairwise_cons.1 ih).1 z hz)
theorem dd_uniq (g : Good c S) (hE : ∀ y x, S y → S x → c y x = 0 → y = x) {l m : List α} (hp : m.Perm l) (hs : Sorted c m) (hl : ∀ x ∈ l, S x) : dd c m = uniq c l := by
 have hm : ∀ x ∈ m, S x := fun x hx => hl x (hp.mem_iff.1 hx)
 refine rises_unique g (fun x hx => ?_) (fun x hx => hl x ((mem_uniq g hE hl).1 hx)) ?_ (uniq_rises g hE hl) fun z => ?_
 ·cases m with
  | nil => simp [dd] at hx
  | cons y m =>
   rw [dd] at hx
   rcases List.mem_cons.1 hx with rfl | hx
   ·exact hm x (by simp)
   ·exact hm x (by simp [ddAt_sub hx])
 ·cases m with
  | nil => simp [dd, Rises]
  | cons y m => exact ddAt_rises g (hm y (by simp)) (fun x hx => hm x (by simp [hx])) hs
 ·rw [mem_uniq g hE hl, ← hp.mem_iff]
  cases m with
  | nil => simp [dd]
  | cons y m =>
   rw [dd]
   constructor
   ·intro h
    rcases List.mem_cons.1 h with rfl | h
    ·simp
    ·simp [ddAt_sub h]
   ·intro h
    rcases List.mem_cons.1 h with rfl | h
    ·simp
    ·rcases ddAt_mem hE (hm y (by simp)) (fun x hx => hm x (by simp [hx])) h with h | h
     ·simp [h]
     ·simp [h]
end
theorem good_int : Good cmpIv fun _ => True := by
 constructor
 ·intro a b _ _; simp only [cmpIv, Lib.compareInt]; split <;> split <;> (try split) <;> (try split) <;> omega
 ·intro a b d _ _ _ h; simp only [cmpIv, Lib.compareInt] at *
  have : a = b := by split at h <;> (try split at h) <;> omega
  rw [this]
 ·intro a b d _ _ _ h k; simp only [cmpIv, Lib.compareInt] at *
  have h1 : a < b := by split at h <;> (try split at h) <;> omega
  have k1 : b < d := by split at k <;> (try split at k) <;> omega
  rw [if_pos (by omega)]; omega
theorem good_bool : Good cmpBv fun _ => True := by
 constructor
 ·intro a b _ _; cases a <;> cases b <;> rfl
 ·intro a b d _ _ _; cases a <;> cases b <;> cases d <;> decide
 ·intro a b d _ _ _; cases a <;> cases b <;> cases d <;> decide
theorem Good.or {α : Type} {c d : α → α → Int} {S : α → Prop} (g : Good c S) (h : Good d S) : Good (fun a b => orI (c a b) (d a b)) S := by
 constructor
 ·intro a b ha hb
  have h1 := g.anti a b ha hb
  have h2 := h.anti a b ha hb
  simp only [orI]
  split <;> split <;> omega
 ·intro a b e ha hb he k
  simp only [orI] at *
  have k0 : c a b = 0 := by
   split at k
   ·assumption
   ·exact k
  rw [if_pos k0] at k
  rw [g.eq a b e ha hb he k0, h.eq a b e ha hb he k]
 ·intro a b e ha hb he k l
  simp only [orI] at *
  by_cases k0 : c a b = 0
  ·rw [if_pos k0] at k
   rw [g.eq a b e ha hb he k0]
   by_cases l0 : c b e = 0
   ·rw [if_pos l0] at *
    exact h.lt a b e ha hb he k l
   ·rw [if_neg l0] at *
    exact l
  ·rw [if_neg k0] at k
   by_cases l0 : c b e = 0
   ·rw [← g.eq' hb he ha l0, if_neg k0]; exact k
   ·rw [if_neg l0] at l
    have := g.lt a b e ha hb he k l
    rw [if_neg (by omega)]; exact this
theorem Good.pull {α β : Type} {c : β → β → Int} {S : β → Prop} (g : Good c S) (f : α → β) : Good (fun a b => c (f a) (f b)) fun a => S (f a) :=
 ⟨fun _ _ ha hb => g.anti _ _ ha hb, fun _ _ _ ha hb hd => g.eq _ _ _ ha hb hd, fun _ _ _ ha hb hd => g.lt _ _ _ ha hb hd⟩
def lex {α : Type} (c : α → α → Int) : List α → List α → Int
 | [], [] => 0
 | [], _ :: _ => -1
 | _ :: _, [] => 1
 | x :: l, y :: m => orI (c x y) (lex c l m)
theorem orI_zero {a b : Int} : orI a b = 0 ↔ a = 0 ∧ b = 0 := by
 unfold orI
 split
 ·exact ⟨fun h => ⟨by assumption, h⟩, fun h => h.2⟩
 ·exact ⟨fun h => absurd h (by assumption), fun h => absurd h.1 (by assumption)⟩
theorem good_lex {α : Type} {c : α → α → Int} {S : α → Prop} (g : Good c S) : Good (lex c) fun l => ∀ x ∈ l, S x := by
 have hA : ∀ a b : List α, (∀ x ∈ a, S x) → (∀ x ∈ b, S x) → lex c b a = - lex c a b := by
  intro a
  induction a with
  | nil => intro b _ _; cases b <;> simp [lex]
  | cons x a ih =>
   intro b ha hb
   cases b with
   | nil => simp [lex]
   | cons y b =>
    have h1 := ih b (fun z hz => ha z (by simp [hz])) (fun z hz => hb z (by simp [hz]))
    have h2 := g.anti x y (ha x (by simp)) (hb y (by simp))
    simp only [lex, orI]
    split <;> split <;> omega
 refine ⟨hA, ?_, ?_⟩
 ·intro a
  induction a with
  | nil => intro b d _ _ _ h; cases b with
   | nil => rfl
   | cons y b => simp [lex] at h
  | cons x a ih =>
   intro b d ha hb hd h
   cases b with
   | nil => simp [lex] at h
   | cons y b =>
    rw [lex, orI_zero] at h
    cases d with
    | nil => rfl
    | cons z d =>
     rw [lex, lex, g.eq x y z (ha x (by simp)) (hb y (by simp)) (hd z (by simp)) h.1,
      ih b d (fun z hz => ha z (by simp [hz])) (fun z hz => hb z (by simp [hz])) (fun z hz => hd z (by simp [hz])) h.2]
 ·intro a
  induction a with
  | nil =>
   intro b d _ _ _ h k
   cases b with
   | nil => simp [lex] at h
   | cons y b => cases d with
    | nil => simp [lex] at k
    | cons z d => simp [lex]
  | cons x a ih =>
   intro b d ha hb hd h k
   cases b with
   | nil => simp [lex] at h
   | cons y b =>
    cases d with
    | nil => simp [lex] at k
    | cons z d =>
     have hx := ha x (by simp)
     have hy := hb y (by simp)
     have hz := hd z (by simp)
     rw [lex] at h k ⊢
     by_cases h0 : c x y = 0
     ·rw [orI, if_pos h0] at h
      rw [g.eq x y z hx hy hz h0]
      by_cases k0 : c y z = 0
      ·rw [orI, if_pos k0] at k ⊢
       exact ih b d (fun w hw => ha w (by simp [hw])) (fun w hw => hb w (by simp [hw])) (fun w hw => hd w (by simp [hw])) h k
      ·rw [orI, if_neg k0] at k ⊢
       exact k
     ·rw [orI, if_neg h0] at h
      by_cases k0 : c y z = 0
      ·rw [orI, ← g.eq' hy hz hx k0, if_neg h0]; exact h
      ·rw [orI, if_neg k0] at k
       have := g.lt x y z hx hy hz h k
       rw [orI, if_neg (by omega)]; exact this
def cmpU (x y : UInt8) : Int := if x < y then -1 else if y < x then 1 else 0
theorem cmpU_eq (x y : UInt8) : cmpU x y = cmpIv x.toNat y.toNat := by
 simp only [cmpU, cmpIv, Lib.compareInt, UInt8.lt_iff_toNat_lt]
 split <;> split <;> (try split) <;> (try split) <;> omega
theorem compareBytes_lex : ∀ l m : List UInt8, Lib.compareBytes l m = lex cmpU l m
 | [], [] => rfl
 | [], _ :: _ => rfl
 | _ :: _, [] => rfl
 | x :: l, y :: m => by
  rw [Lib.compareBytes, lex, compareBytes_lex l m]
  simp only [cmpU, orI]
  split <;> split <;> (try split) <;> simp_all
theorem good_u8 : Good cmpU fun _ => True := by
 have h := good_int.pull fun x : UInt8 => (x.toNat : Int)
 have e : cmpU = fun a b => cmpIv (a.toNat : Int) (b.toNat : Int) := by funext a b; exact cmpU_eq a b
 rw [e]; exact h
theorem good_text : Good cmpT fun _ => True := by
 have h := (good_lex good_u8).pull fun x : ByteArray => x.data.toList
 have e : cmpT = fun a b => lex cmpU a.data.toList b.data.toList := by funext a b; exact compareBytes_lex _ _
 rw [e]; exact h.mono fun a _ x _ => trivial
theorem cmpN_lex : ∀ l m : List ByteArray, cmpN l m = lex cmpT l m
 | [], [] => rfl
 | [], _ :: _ => rfl
 | _ :: _, [] => rfl
 | x :: l, y :: m => by rw [cmpN, lex, cmpN_lex l m]
theorem good_names : Good cmpN fun _ => True := by
 have e : cmpN = lex cmpT := by funext a b; exact cmpN_lex a b
 rw [e]; exact (good_lex good_text).mono fun a _ x _ => trivial
theorem ordL_lex : ∀ l m : List V, ordL l m = lex ord l m
 | [], [] => rfl
 | [], _ :: _ => rfl
 | _ :: _, [] => by rw [ordL_cons_nil]; rfl
 | x :: l, y :: m => by rw [ordL_cons, lex, ordL_lex l m]
theorem lex_zero {α : Type} {c : α → α → Int} {S : α → Prop} (hE : ∀ x y, S x → S y → c x y = 0 → x = y) : ∀ {l m : List α}, (∀ x ∈ l, S x) → (∀ x ∈ m, S x) → lex c l m = 0 → l = m
 | [], [], _, _, _ => rfl
 | [], _ :: _, _, _, h => by simp [lex] at h
 | _ :: _, [], _, _, h => by simp [lex] at h
 | x :: l, y :: m, hl, hm, h => by
  rw [lex, orI_zero] at h
  rw [hE x y (hl x (by simp)) (hm y (by simp)) h.1, lex_zero hE (fun z hz => hl z (by simp [hz])) (fun z hz => hm z (by simp [hz])) h.2]
theorem cmpI_zero {a b : Int} (h : cmpIv a b = 0) : a = b := by
 simp only [cmpIv, Lib.compareInt] at h
 split at h <;> (try split at h) <;> omega
theorem cmpT_zero {a b : ByteArray} (h : cmpT a b = 0) : a = b := by
 unfold cmpT at h
 rw [compareBytes_lex] at h
 have := lex_zero (c := cmpU) (S := fun _ => True) (fun x y _ _ h => by rw [cmpU_eq] at h; have := cmpI_zero h; exact UInt8.toNat_inj.1 (by omega)) (fun _ _ => trivial) (fun _ _ => trivial) h
 exact Go.WideShapes.bytes_inj this
theorem cmpN_zero {a b : List ByteArray} (h : cmpN a b = 0) : a = b := by
 rw [cmpN_lex] at h
 exact lex_zero (S := fun _ => True) (fun x y _ _ h => cmpT_zero h) (fun _ _ => trivial) (fun _ _ => trivial) h
theorem cmpB_zero {a b : Bool} (h : cmpBv a b = 0) : a = b := by cases a <;> cases b <;> simp [cmpBv] at *
def bodyO (k : Int) (a b : V) : Int :=
 if k = 1 then cmpBv a.h.b b.h.b else if k = 2 then cmpIv a.h.n b.h.n else if k = 3 then cmpT a.h.s b.h.s else if k = 4 then orI (cmpT a.h.t b.h.t) (cmpT a.h.i b.h.i)
 else if k = 5 then ordL a.l b.l else if k = 6 then orI (cmpN a.ns b.ns) (ordL a.named b.named) else 0
theorem ord_body (a b : V) : ord a b = orI (cmpIv a.h.k b.h.k) (bodyO a.h.k a b) := by
 rw [ord_eq]
 by_cases hk : a.h.k = b.h.k
 ·rw [if_pos hk, hk, show cmpIv b.h.k b.h.k = 0 by simp [cmpIv, Lib.compareInt]]
  rfl
 ·rw [if_neg hk, orI, if_neg fun h => hk (cmpI_zero h)]
theorem good_ord_n (n : Nat) : Good ord fun v => dep v ≤ n := by
 induction n with
 | zero => exact ⟨fun _ _ ha _ => by rw [dep_v] at ha; omega, fun _ _ _ ha _ _ _ => by rw [dep_v] at ha; omega, fun _ _ _ ha _ _ _ _ => by rw [dep_v] at ha; omega⟩
 | succ n ih =>
  have hL : Good ordL fun l => ∀ x ∈ l, dep x ≤ n := by
   have e : ordL = lex ord := by funext a b; exact ordL_lex a b
   rw [e]; exact good_lex ih
  have hS : ∀ v, dep v ≤ n + 1 → ∀ x ∈ v.l, dep x ≤ n := fun v hv x hx => by have := dep_mem hx; rw [dep_v] at hv; omega
  have hB : ∀ k, Good (bodyO k) fun v => dep v ≤ n + 1 := fun k => by
   by_cases k1 : k = 1
   ·subst k1; exact (good_bool.pull fun v : V => v.h.b).mono fun _ _ => trivial
   by_cases k2 : k = 2
   ·subst k2; exact (good_int.pull fun v : V => v.h.n).mono fun _ _ => trivial
   by_cases k3 : k = 3
   ·subst k3; exact (good_text.pull fun v : V => v.h.s).mono fun _ _ => trivial
   by_cases k4 : k = 4
   ·subst k4; exact ((good_text.pull fun v : V => v.h.t).or (good_text.pull fun v : V => v.h.i)).mono fun _ _ => trivial
   by_cases k5 : k = 5
   ·subst k5; exact (hL.pull fun v : V => v.l).mono hS
   by_cases k6 : k = 6
   ·subst k6
    have h1 : Good (fun a b : V => cmpN a.ns b.ns) fun v => dep v ≤ n + 1 := (good_names.pull fun v : V => v.ns).mono fun _ _ => trivial
    have h2 : Good (fun a b : V => ordL a.named b.named) fun v => dep v ≤ n + 1 := (hL.pull fun v : V => v.named).mono fun v hv x hx => hS v hv x (List.mem_of_mem_take hx)
    exact h1.or h2
   ·have e : bodyO k = fun _ _ => 0 := by funext a b; simp [bodyO, k1, k2, k3, k4, k5, k6]
    rw [e]
    exact ⟨fun _ _ _ _ => rfl, fun _ _ _ _ _ _ _ => rfl, fun _ _ _ _ _ _ h _ => absurd h (by omega)⟩
  have key : ∀ a b : V, ord a b = orI (cmpIv a.h.k b.h.k) (bodyO a.h.k a b) := ord_body
  constructor
  ·intro a b ha hb
   have h1 := good_int.anti a.h.k b.h.k trivial trivial
   rw [key, key]
   simp only [orI]
   by_cases h0 : cmpIv a.h.k b.h.k = 0
   ·rw [if_pos h0, if_pos (by omega), cmpI_zero h0]
    exact (hB b.h.k).anti a b ha hb
   ·rw [if_neg h0, if_neg (by omega)]; exact h1
  ·intro a b d ha hb hd h
   rw [key, orI_zero] at h
   obtain ⟨h0, h1⟩ := h
   rw [key, key]
   rw [cmpI_zero h0] at h1 ⊢
   rw [(hB b.h.k).eq a b d ha hb hd h1]
  ·intro a b d ha hb hd h k
   rw [key] at h k ⊢
   by_cases h0 : cmpIv a.h.k b.h.k = 0
   ·rw [orI, if_pos h0] at h
    rw [cmpI_zero h0] at h ⊢
    by_cases k0 : cmpIv b.h.k d.h.k = 0
    ·rw [orI, if_pos k0] at k ⊢
     exact (hB b.h.k).lt a b d ha hb hd h k
    ·rw [orI, if_neg k0] at k ⊢
     exact k
   ·rw [orI, if_neg h0] at h
    by_cases k0 : cmpIv b.h.k d.h.k = 0
    ·rw [← cmpI_zero k0, orI, if_neg h0]; exact h
    ·rw [orI, if_neg k0] at k
     have := good_int.lt _ _ _ trivial trivial trivial h k
     rw [orI, if_neg (by omega)]; exact this
theorem good_ord : Good ord fun _ => True := by
 constructor
 ·intro a b _ _; exact (good_ord_n (max (dep a) (dep b))).anti a b (Nat.le_max_left _ _) (Nat.le_max_right _ _)
 ·intro a b d _ _ _; exact (good_ord_n (max (max (dep a) (dep b)) (dep d))).eq a b d (by omega) (by omega) (by omega)
 ·intro a b d _ _ _; exact (good_ord_n (max (max (dep a) (dep b)) (dep d))).lt a b d (by omega) (by omega) (by omega)
end Go.Proofs.YtnchohglplobeaaGreat
namespace Go.Proofs.YtnchohglplobeaaGreat
section
variable {α : Type}
inductive Way (S : α → α → Prop) : α → α → Prop
 | one {a b : α} : S a b → Way S a b
 | more {a b c : α} : Way S a b → S b c → Way S a c
theorem Way.trans {S : α → α → Prop} {a b c : α} (h : Way S a b) (k : Way S b c) : Way S a c := by
 induction k with
 | one s => exact .more h s
 | more _ s ih => exact .more ih s
theorem Way.mono {S T : α → α → Prop} (h : ∀ a b, S a b → T a b) {a b : α} (w : Way S a b) : Way T a b := by
 induction w with
 | one s => exact .one (h _ _ s)
 | more _ s ih => exact .more ih (h _ _ s)
theorem Way.last {S : α → α → Prop} {a c : α} (h : Way S a c) : ∃ b, S b c ∧ (a = b ∨ Way S a b) := by
 cases h with
 | one s => exact ⟨a, s, .inl rfl⟩
 | more w s => exact ⟨_, s, .inr w⟩
theorem Way.first {S : α → α → Prop} {a c : α} (h : Way S a c) : ∃ b, S a b ∧ (b = c ∨ Way S b c) := by
 induction h with
 | one s => exact ⟨_, s, .inl rfl⟩
 | more _ s ih =>
  obtain ⟨b, h1, h2⟩ := ih
  refine ⟨b, h1, .inr ?_⟩
  rcases h2 with rfl | h2
  ·exact .one s
  ·exact .more h2 s
theorem round_back {S : α → α → Prop} {a : α} (h : Way S a a) : ∃ b, S b a ∧ Way S b b := by
 obtain ⟨b, s, rfl | w⟩ := h.last
 ·exact ⟨a, s, h⟩
 ·exact ⟨b, s, (Way.one s).trans w⟩
theorem len_sub [DecidableEq α] : ∀ (l m : List α), l.Nodup → (∀ x ∈ l, x ∈ m) → l.length ≤ m.length
 | [], m, _, _ => Nat.zero_le _
 | x :: l, m, hn, hs => by
  have hx := hs x (by simp)
  have hn' := List.nodup_cons.1 hn
  have := len_sub l (m.erase x) hn'.2 (fun y hy => by
   have hne : y ≠ x := fun e => hn'.1 (e ▸ hy)
   exact (List.mem_erase_of_ne hne).2 (hs y (by simp [hy])))
  rw [List.length_erase_of_mem hx] at this
  have hp := List.length_pos_of_mem hx
  simp only [List.length_cons]; omega
theorem round_left [DecidableEq α] {S : α → α → Prop} (M : List α) (hM : M ≠ []) (h : ∀ n ∈ M, ∃ m ∈ M, S m n) : ∃ a ∈ M, Way S a a := by
 obtain ⟨x0, hx0⟩ := List.exists_mem_of_ne_nil M hM
 -- a row of names, each with a step to the one ahead of it
 have row : ∀ k : Nat, ∃ l : List α, l.length = k + 1 ∧ (∀ x ∈ l, x ∈ M) ∧ ∀ i (hi : i + 1 < l.length), S (l[i]'(by omega)) (l[i + 1]) := by
  intro k
  induction k with
  | zero => exact ⟨[x0], rfl, by simpa using hx0, fun i hi => by simp at hi⟩
  | succ k ih =>
   obtain ⟨l, hl, hm, hs⟩ := ih
   match l, hl with
   | y :: r, hl =>
    obtain ⟨z, hz, hzy⟩ := h y (hm y (by simp))
    refine ⟨z :: y :: r, by simp at hl ⊢; omega, fun x hx => ?_, fun i hi => ?_⟩
    ·rcases List.mem_cons.1 hx with rfl | hx
     ·exact hz
     ·exact hm x hx
    ·match i with
     | 0 => exact hzy
     | i + 1 => exact hs i (by simpa using hi)
 obtain ⟨l, hl, hm, hs⟩ := row M.length
 have hnd : ¬ l.Nodup := fun hn => by have := len_sub l M hn hm; omega
 have way : ∀ i j (hj : j < l.length) (hij : i < j), Way S (l[i]'(by omega)) (l[j]) := by
  intro i j
  induction j with
  | zero => intro _ h; omega
  | succ j ih =>
   intro hj hij
   rcases Nat.lt_or_ge i j with h1 | h1
   ·exact .more (ih (by omega) h1) (hs j hj)
   ·have : i = j := by omega
    subst this
    exact .one (hs i hj)
 have : ∃ i j, ∃ (hi : i < l.length) (hj : j < l.length), i < j ∧ l[i] = l[j] := by
  apply Classical.byContradiction
  intro hno
  apply hnd
  rw [List.nodup_iff_pairwise_ne, List.pairwise_iff_getElem]
  intro i j hi hj hij e
  exact hno ⟨i, j, hi, hj, hij, e⟩
 obtain ⟨i, j, hi, hj, hij, e⟩ := this
 refine ⟨l[i], hm _ (List.getElem_mem hi), ?_⟩
 have w := way i j hj hij
 rwa [← e] at w
inductive Thru (S : Nat → Nat → Prop) (k : Nat) : Nat → Nat → Prop
 | one {a b : Nat} : S a b → Thru S k a b
 | more {a b c : Nat} : Thru S k a b → b < k → Thru S k b c → Thru S k a c
theorem Thru.up {S : Nat → Nat → Prop} {k m : Nat} (hk : k ≤ m) {a b : Nat} (h : Thru S k a b) : Thru S m a b := by
 induction h with
 | one s => exact .one s
 | more _ hb _ i1 i2 => exact .more i1 (by omega) i2
theorem Thru.way {S : Nat → Nat → Prop} {k a b : Nat} (h : Thru S k a b) : Way S a b := by
 induction h with
 | one s => exact .one s
 | more _ _ _ i1 i2 => exact i1.trans i2
theorem Thru.split {S : Nat → Nat → Prop} {k a b : Nat} (h : Thru S (k + 1) a b) : Thru S k a b ∨ (Thru S k a k ∧ Thru S k k b) := by
 induction h with
 | one s => exact .inl (.one s)
 | @more a b c h1 hb h2 i1 i2 =>
  rcases Nat.lt_or_ge b k with hlt | hge
  ·rcases i1 with i1 | ⟨i1, i1'⟩
   ·rcases i2 with i2 | ⟨i2, i2'⟩
    ·exact .inl (.more i1 hlt i2)
    ·exact .inr ⟨.more i1 hlt i2, i2'⟩
   ·rcases i2 with i2 | ⟨i2, i2'⟩
    ·exact .inr ⟨i1, .more i1' hlt i2⟩
    ·exact .inr ⟨i1, i2'⟩
  ·have hbk : b = k := by omega
   subst hbk
   have t1 : Thru S b a b := by rcases i1 with i1 | ⟨i1, _⟩ <;> exact i1
   have t2 : Thru S b b c := by rcases i2 with i2 | ⟨_, i2⟩ <;> exact i2
   exact .inr ⟨t1, t2⟩
theorem Thru.of_way {S : Nat → Nat → Prop} {n : Nat} (hS : ∀ a b, S a b → a < n ∧ b < n) {a b : Nat} (h : Way S a b) : Thru S n a b := by
 induction h with
 | one s => exact .one s
 | more w s ih => exact .more ih (hS _ _ s).1 (.one s)
end
end Go.Proofs.YtnchohglplobeaaGreat
namespace Go.Proofs.YtnchohglplobeaaGreat
structure Us where
 t : ByteArray
 i : ByteArray
 ht : t.size ≤ maxLen
 hi : i.size ≤ maxLen
theorem Us.ext' : ∀ {a b : Us}, a.t = b.t → a.i = b.i → a = b
 | ⟨_, _, _, _⟩, ⟨_, _, _, _⟩, rfl, rfl => rfl
instance : DecidableEq Us := fun a b =>
 if h : a.t = b.t ∧ a.i = b.i then .isTrue (Us.ext' h.1 h.2) else .isFalse fun e => h (by rw [e]; exact ⟨rfl, rfl⟩)
def cmpUs (a b : Us) : Int := orI (cmpT a.t b.t) (cmpT a.i b.i)
structure En where
 u : Us
 ps : List Us
 a : V
def namesE (l : List En) : List Us := l.map (·.u)
def fstE (l : List En) (x : Us) : Option En := l.find? fun e => decide (e.u = x)
def PE (l : List En) (x : Us) : List Us := ((fstE l x).map (·.ps)).getD []
def stepE (l : List En) (x y : Us) : Prop := x ∈ namesE l ∧ y ∈ PE l x ∧ y ∈ namesE l
def RoundE (l : List En) : Prop := ∃ x, Way (stepE l) x x
theorem fst_some {l : List En} {x : Us} : (fstE l x).isSome = true ↔ x ∈ namesE l := by
 unfold fstE namesE
 rw [List.find?_isSome]
 simp
section
variable (c : V → Int × V)
def cmpE (a b : En) : Int := cmpUs a.u b.u
end
end Go.Proofs.YtnchohglplobeaaGreat
namespace Go.Proofs.YtnchohglplobeaaGreat
open Go.RowKit Go.Maps
def usV (u : Us) : Value := .agg #[.string u.t, .string u.i]
def usL (u : Us) : Lit := .string (keyBytes [.string u.t.data.toList, .string u.i.data.toList])
theorem laidOutE : laidOutB Tryz.prog = true := by kernel_rfl
theorem rowUs : 23 < Tryz.prog.types.size := of_decide_eq_true (by kernel_rfl)
theorem kt2Us : Tryz.prog.keyTypeAt 2 23 = true := by kernel_rfl
theorem lawUs : WideMaps.KeyLaw Tryz.prog 23 := deep_law_laid laidOutE (m := 2) (by omega) rowUs kt2Us (by rw [Tryz.underlying23])
theorem keyedUs : Keyed Tryz.prog 23 := Keyed.of_law lawUs
theorem cellsUs : Tryz.prog.cellsOf 23 = 2 := by kernel_rfl
theorem ktUs : Tryz.prog.keyType 23 = true := by kernel_rfl
theorem szP : ∃ D, Tryz.prog.types.size + 1 = D + 2 := ⟨Tryz.prog.types.size - 1, by have := rowUs; omega⟩
theorem lits_text (D : Nat) (s : ByteArray) (h : s.size ≤ maxLen) : Tryz.prog.keyLits (D + 1) 9 [.string s] = some [.string s.data.toList] := by
 unfold Program.keyLits
 rw [Tryz.underlying9]
 simp [h]
theorem usOk (u : Us) : keyOf Tryz.prog 23 (usV u) = some (usL u) := by
 have hf : (usV u).formed Tryz.prog 23 = true := by simp [usV, Value.formed, Tryz.underlying23, cellsUs]
 obtain ⟨D, hD⟩ := szP
 have hl : Tryz.prog.keyLits (Tryz.prog.types.size + 1) 23 [.string u.t, .string u.i] = some [.string u.t.data.toList, .string u.i.data.toList] := by
  have h1 := lits_text D u.t u.ht
  have h2 := lits_text D u.i u.hi
  have hc : Tryz.prog.cellsOf 9 = 1 := by kernel_rfl
  rw [hD]
  unfold Program.keyLits
  rw [Tryz.underlying23]
  simp [cellsUs, hc, h1, h2]
 unfold keyOf
 rw [Tryz.underlying23]
 simp only [ktUs, hf, Bool.and_self, if_true]
 show ((Tryz.prog.keyLits (Tryz.prog.types.size + 1) 23 [.string u.t, .string u.i]).map fun ls => Lit.string (keyBytes ls)) = _
 rw [hl]
 rfl
theorem usInj (a b : Us) (h : usV a = usV b) : a = b := by
 unfold usV at h
 injection h with h
 have h1 : ([.string a.t, .string a.i] : List Value) = [.string b.t, .string b.i] := by
  have := congrArg Array.toList h
  exact this
 injection h1 with e1 e2
 injection e2 with e2 _
 injection e1 with e1
 injection e2 with e2
 exact Us.ext' e1 e2
def keyUs : KeyF Tryz.prog 23 Us := ⟨usV, usL, usOk, usInj⟩
end Go.Proofs.YtnchohglplobeaaGreat
namespace Go.Proofs.YtnchohglplobeaaGreat
section
variable {α : Type} [DecidableEq α]
def occ (P : α → List α) (M : List α) (n : α) : Nat := (M.flatMap P).count n
theorem occ_pos {P : α → List α} {M : List α} {n : α} : 0 < occ P M n ↔ ∃ m ∈ M, n ∈ P m := by
 unfold occ
 rw [List.count_pos_iff, List.mem_flatMap]
theorem occ_erase {P : α → List α} {M : List α} {x : α} (hx : x ∈ M) (n : α) : occ P M n = (P x).count n + occ P (M.erase x) n := by
 unfold occ
 have h := (List.perm_cons_erase hx).flatMap_right P
 rw [h.count_eq, List.flatMap_cons, List.count_append]
theorem occ_erase_not {P : α → List α} {M : List α} {x : α} (hx : x ∉ M) (n : α) : occ P M n = occ P (M.erase x) n := by
 rw [List.erase_of_not_mem hx]
structure Kahn (P : α → List α) (K M L : List α) (c : α → Int) : Prop where
 cnt : ∀ n, c n = (occ P M n : Int)
 low : ∀ n ∈ M, c n = 0 → n ∈ L
 nil : ∀ n ∈ L, c n = 0
 rnd : ∀ a, Way (fun x y => x ∈ K ∧ y ∈ P x ∧ y ∈ K) a a → a ∈ M
 sub : ∀ n ∈ M, n ∈ K
theorem Kahn.start {P : α → List α} {K L : List α} {c : α → Int} (h1 : ∀ n, c n = (occ P K n : Int)) (h2 : ∀ n, n ∈ L ↔ n ∈ K ∧ c n = 0) : Kahn P K K L c :=
 ⟨h1, fun n hn h0 => (h2 n).2 ⟨hn, h0⟩, fun n hn => ((h2 n).1 hn).2, fun a w => by
  obtain ⟨b, ⟨h, _, _⟩, _⟩ := w.first
  exact h, fun _ h => h⟩
structure KahnIn (P : α → List α) (K M L : List α) (c : α → Int) (x : α) (j : Nat) : Prop where
 cnt : ∀ n, c n = (occ P (M.erase x) n : Int) + ((if x ∈ M then (P x).drop j else []).count n : Int)
 low : ∀ n ∈ M.erase x, c n = 0 → n ∈ L
 nil : ∀ n ∈ L, c n = 0
 rnd : ∀ a, Way (fun x y => x ∈ K ∧ y ∈ P x ∧ y ∈ K) a a → a ∈ M.erase x
 sub : ∀ n ∈ M.erase x, n ∈ K
theorem Kahn.take {P : α → List α} {K M L : List α} {c : α → Int} {x : α} (hM : M.Nodup) (h : Kahn P K M (L ++ [x]) c) : KahnIn P K M L c x 0 := by
 have hx : occ P M x = 0 := by
  have h1 := h.nil x (by simp)
  rw [h.cnt] at h1
  omega
 refine ⟨fun n => ?_, fun n hn h0 => ?_, fun n hn => h.nil n (by simp [hn]), fun a w => ?_, fun n hn => h.sub n (List.mem_of_mem_erase hn)⟩
 ·rw [h.cnt, List.drop_zero]
  split
  ·rename_i hm
   rw [occ_erase hm]; omega
  ·rename_i hm
   rw [occ_erase_not hm]; simp
 ·have := h.low n (List.mem_of_mem_erase hn) h0
  rw [List.mem_append] at this
  rcases this with h1 | h1
  ·exact h1
  ·simp at h1
   subst h1
   exact absurd hn (by rw [hM.mem_erase_iff]; simp)
 ·have ha := h.rnd a w
  have hne : a ≠ x := by
   intro e
   subst e
   obtain ⟨b, ⟨hb, hp, _⟩, hw⟩ := round_back w
   have := (occ_pos (P := P) (M := M) (n := a)).2 ⟨b, h.rnd b hw, hp⟩
   omega
  exact (List.mem_erase_of_ne hne).2 ha
theorem KahnIn.step {P : α → List α} {K M L : List α} {c : α → Int} {x : α} {j : Nat} (h : KahnIn P K M L c x j) (hx : x ∈ M) (hj : j < (P x).length) :
  KahnIn P K M (if c (P x)[j] - 1 = 0 then L ++ [(P x)[j]] else L) (fun n => if n = (P x)[j] then c n - 1 else c n) x (j + 1) := by
 have hd : (P x).drop j = (P x)[j] :: (P x).drop (j + 1) := List.drop_eq_getElem_cons hj
 obtain ⟨p, hp⟩ : ∃ p, (P x)[j] = p := ⟨_, rfl⟩
 rw [hp] at hd ⊢
 have hc := h.cnt
 simp only [if_pos hx, hd, List.count_cons] at hc
 refine ⟨fun n => ?_, fun n hn h0 => ?_, fun n hn => ?_, h.rnd, h.sub⟩
 ·simp only [if_pos hx]
  have := hc n
  by_cases e : n = p
  ·rw [if_pos e, this, e]; simp; omega
  ·rw [if_neg e, this]
   have : (p == n) = false := by simpa using fun e2 => e e2.symm
   simp [this]
 ·by_cases e : n = p
  ·rw [if_pos e] at h0
   rw [e] at h0
   rw [if_pos h0, e]; simp
  ·rw [if_neg e] at h0
   have := h.low n hn h0
   split
   ·simp [this]
   ·exact this
 ·have old : n ∈ L → (if n = p then c n - 1 else c n) = 0 := fun hn => by
   have h1 := h.nil n hn
   have h2 := hc n
   by_cases e : n = p
   ·rw [h1, e] at h2
    simp at h2
    omega
   ·rw [if_neg e]; exact h1
  by_cases e0 : c p - 1 = 0
  ·rw [if_pos e0] at hn
   rcases List.mem_append.1 hn with hn | hn
   ·exact old hn
   ·simp at hn
    rw [if_pos hn, hn]; exact e0
  ·rw [if_neg e0] at hn
   exact old hn
theorem KahnIn.done {P : α → List α} {K M L : List α} {c : α → Int} {x : α} {j : Nat} (h : KahnIn P K M L c x j) (hj : x ∈ M → (P x).length ≤ j) : Kahn P K (M.erase x) L c := by
 refine ⟨fun n => ?_, h.low, h.nil, h.rnd, h.sub⟩
 rw [h.cnt]
 split
 ·rename_i hx
  rw [List.drop_eq_nil_of_le (hj hx)]; simp
 ·simp
theorem Kahn.fin {P : α → List α} {K M : List α} {c : α → Int} (h : Kahn P K M [] c) : M ≠ [] ↔ ∃ a, Way (fun x y => x ∈ K ∧ y ∈ P x ∧ y ∈ K) a a := by
 constructor
 ·intro hM
  have hp : ∀ n ∈ M, ∃ m ∈ M, (m ∈ K ∧ n ∈ P m ∧ n ∈ K) := fun n hn => by
   have h0 : c n ≠ 0 := fun e => by have := h.low n hn e; simp at this
   rw [h.cnt] at h0
   obtain ⟨m, hm, hq⟩ := occ_pos.1 (show 0 < occ P M n by omega)
   exact ⟨m, hm, h.sub m hm, hq, h.sub n hn⟩
  obtain ⟨a, _, w⟩ := round_left (S := fun x y => x ∈ K ∧ y ∈ P x ∧ y ∈ K) M hM hp
  exact ⟨a, w⟩
 ·rintro ⟨a, w⟩ e
  have := h.rnd a w
  rw [e] at this; simp at this
end
end Go.Proofs.YtnchohglplobeaaGreat
namespace Go.Proofs.YtnchohglplobeaaGreat
structure Nm where
 s : ByteArray
 hs : s.size ≤ 9223372036854775807
theorem Nm.ext' : ∀ {a b : Nm}, a.s = b.s → a = b
 | ⟨_, _⟩, ⟨_, _⟩, rfl => rfl
instance : DecidableEq Nm := fun a b => if h : a.s = b.s then .isTrue (Nm.ext' h) else .isFalse fun e => h (e ▸ rfl)
abbrev Gra := List (Nm × List Nm)
def look (g : Gra) (x : Nm) : Option (List Nm) := (g.find? fun p => decide (p.1 = x)).map (·.2)
def nxt (g : Gra) (x : Nm) : List Nm := (look g x).getD []
def Stp (g : Gra) (x y : Nm) : Prop := y ∈ nxt g x
noncomputable def ways (g : Gra) (a b : Nm) : Bool := @decide (Way (Stp g) a b) (Classical.propDecidable _)
theorem look_in {g : Gra} {x : Nm} {l : List Nm} (h : look g x = some l) : ∃ p ∈ g, p.1 = x ∧ p.2 = l := by
 unfold look at h
 obtain ⟨p, hp, rfl⟩ := Option.map_eq_some_iff.1 h
 exact ⟨p, List.mem_of_find?_eq_some hp, by simpa using List.find?_some hp, rfl⟩
def tot (g : Gra) : List Nm := g.flatMap (·.2)
theorem nxt_tot {g : Gra} {x y : Nm} (h : y ∈ nxt g x) : y ∈ tot g := by
 unfold nxt at h
 cases hl : look g x with
 | none => rw [hl] at h; simp at h
 | some l =>
  rw [hl] at h
  obtain ⟨p, hp, -, rfl⟩ := look_in hl
  exact List.mem_flatMap.2 ⟨p, hp, h⟩
structure Bf (g : Gra) (low : Nm) (L R : List Nm) (i : Nat) : Prop where
 way : ∀ r ∈ R, Way (Stp g) low r
 lw : ∀ x ∈ L, x = low ∨ x ∈ R
 rl : ∀ r ∈ R, r ∈ L
 shut : ∀ k x, k < i → L[k]? = some x → ∀ y ∈ nxt g x, y ∈ R
structure Bi (g : Gra) (low : Nm) (L R : List Nm) (i : Nat) (x : Nm) (k : Nat) : Prop where
 b : Bf g low L R i
 atx : L[i]? = some x
 row : ∀ y ∈ (nxt g x).take k, y ∈ R
theorem Bf.take {g : Gra} {low : Nm} {L R : List Nm} {i : Nat} {x : Nm} (h : Bf g low L R i) (hx : L[i]? = some x) : Bi g low L R i x 0 := ⟨h, hx, by simp⟩
theorem Bi.old {g : Gra} {low : Nm} {L R : List Nm} {i k : Nat} {x y : Nm} (h : Bi g low L R i x k) (hk : k < (nxt g x).length) (hy : (nxt g x)[k] = y) (hm : y ∈ R) : Bi g low L R i x (k + 1) :=
 ⟨h.b, h.atx, fun z hz => by
  rw [List.take_succ_eq_append_getElem hk, hy] at hz
  rcases List.mem_append.1 hz with hz | hz
  ·exact h.row z hz
  ·simp at hz; rw [hz]; exact hm⟩
theorem Bi.new {g : Gra} {low : Nm} {L R : List Nm} {i k : Nat} {x y : Nm} (h : Bi g low L R i x k) (hk : k < (nxt g x).length) (hy : (nxt g x)[k] = y) : Bi g low (L ++ [y]) (R ++ [y]) i x (k + 1) := by
 have hi : i < L.length := (List.getElem?_eq_some_iff.1 h.atx).1
 have hw : Way (Stp g) low y := by
  have hs : Stp g x y := by unfold Stp; rw [← hy]; exact List.getElem_mem hk
  rcases h.b.lw x (List.mem_of_getElem? h.atx) with rfl | hr
  ·exact .one hs
  ·exact .more (h.b.way x hr) hs
 refine ⟨⟨fun r hr => ?_, fun z hz => ?_, fun r hr => ?_, fun j z hj hz w hw' => ?_⟩, ?_, fun z hz => ?_⟩
 ·rcases List.mem_append.1 hr with hr | hr
  ·exact h.b.way r hr
  ·simp at hr; rw [hr]; exact hw
 ·rcases List.mem_append.1 hz with hz | hz
  ·exact (h.b.lw z hz).imp id fun e => List.mem_append.2 (.inl e)
  ·exact .inr (List.mem_append.2 (.inr hz))
 ·rcases List.mem_append.1 hr with hr | hr
  ·exact List.mem_append.2 (.inl (h.b.rl r hr))
  ·exact List.mem_append.2 (.inr hr)
 ·rw [List.getElem?_append_left (by omega)] at hz
  exact List.mem_append.2 (.inl (h.b.shut j z hj hz w hw'))
 ·rw [List.getElem?_append_left hi]; exact h.atx
 ·rw [List.take_succ_eq_append_getElem hk, hy] at hz
  rcases List.mem_append.1 hz with hz | hz
  ·exact List.mem_append.2 (.inl (h.row z hz))
  ·exact List.mem_append.2 (.inr hz)
theorem Bi.done {g : Gra} {low : Nm} {L R : List Nm} {i k : Nat} {x : Nm} (h : Bi g low L R i x k) (hk : (nxt g x).length ≤ k) : Bf g low L R (i + 1) :=
 ⟨h.b.way, h.b.lw, h.b.rl, fun j z hj hz w hw => by
  rcases Nat.lt_or_ge j i with h1 | h1
  ·exact h.b.shut j z h1 hz w hw
  ·obtain rfl : j = i := by omega
   rw [h.atx] at hz
   cases hz
   exact h.row w (by rw [List.take_of_length_le hk]; exact hw)⟩
theorem Bf.fin {g : Gra} {low high : Nm} {L R : List Nm} {i : Nat} (h : Bf g low L R i) (hi : L.length ≤ i) (h1 : ∀ y ∈ nxt g low, y ∈ R) : high ∈ R ↔ Way (Stp g) low high := by
 refine ⟨h.way high, fun w => ?_⟩
 induction w with
 | one s => exact h1 _ s
 | more _ s ih =>
  obtain ⟨k, hk, e⟩ := List.getElem_of_mem (h.rl _ ih)
  exact h.shut k _ (by omega) (by rw [List.getElem?_eq_getElem hk, e]) _ s
theorem Bf.len {g : Gra} {low : Nm} {L R : List Nm} {i : Nat} (h : Bf g low L R i) : ∀ r ∈ R, r ∈ tot g := fun r hr => by
 obtain ⟨b, s, -⟩ := (h.way r hr).last
 exact nxt_tot s
end Go.Proofs.YtnchohglplobeaaGreat
namespace Go.Proofs.YtnchohglplobeaaGreat
open Go.RowKit
inductive T where
 | mk (k : Int) (n : ByteArray) (l : List T) (ats : List (ByteArray × T × Bool))
abbrev At := ByteArray × T × Bool
namespace T
def k : T → Int | .mk k _ _ _ => k
def n : T → ByteArray | .mk _ n _ _ => n
def l : T → List T | .mk _ _ l _ => l
def ats : T → List At | .mk _ _ _ ats => ats
end T
theorem T.eta : ∀ t : T, t = .mk t.k t.n t.l t.ats | .mk _ _ _ _ => rfl
abbrev an (x : At) : ByteArray := x.1
abbrev aty (x : At) : T := x.2.1
abbrev ao (x : At) : Bool := x.2.2
def noT : T := .mk 0 ⟨#[]⟩ [] []
def T.hd (t : T) : T := t.l.headD noT
def T.ins (t : T) : List T := t.l ++ t.ats.map aty
theorem ins_l {t x : T} (h : x ∈ t.l) : x ∈ t.ins := List.mem_append.2 (.inl h)
theorem ins_as {t : T} {x : At} (h : x ∈ t.ats) : aty x ∈ t.ins := List.mem_append.2 (.inr (List.mem_map.2 ⟨x, h, rfl⟩))
def Dp : Nat → T → Prop
 | 0, _ => False
 | n + 1, t => ∀ x ∈ t.ins, Dp n x
theorem Dp.succ : ∀ {n : Nat} {t : T}, Dp n t → Dp (n + 1) t
 | 0, _, h => h.elim
 | n + 1, _, h => fun x hx => Dp.succ (h x hx)
theorem Dp.le {n m : Nat} {t : T} (h : Dp n t) (hm : n ≤ m) : Dp m t := by
 induction m with
 | zero => obtain rfl : n = 0 := by omega
           exact h
 | succ m ih =>
  rcases Nat.lt_or_ge n (m + 1) with k | k
  ·exact (ih (by omega)).succ
  ·obtain rfl : n = m + 1 := by omega
   exact h
def cmpB (a b : ByteArray) : Int := Lib.compareBytes a.data.toList b.data.toList
def rises : List ByteArray → Bool
 | [] => true
 | [_] => true
 | x :: y :: l => decide (cmpB x y < 0) && rises (y :: l)
end Go.Proofs.YtnchohglplobeaaGreat
namespace Go.Proofs.YtnchohglplobeaaGreat
open Go.RowKit
section
variable {α : Type}
def OwnR (e : TypeId) (k : Nat) (enc : α → List Value) (B : Nat) (w : World) (v : Value) (l : List α) : Prop := w.ownsRow B e k v l.length (l.flatMap enc)
theorem flat_len {k : Nat} {enc : α → List Value} (hk : ∀ x, (enc x).length = k) (l : List α) : (l.flatMap enc).length = l.length * k := by
 induction l with
 | nil => simp
 | cons x l ih => rw [List.flatMap_cons, List.length_append, hk, ih, List.length_cons, Nat.add_mul]; omega
theorem flat_at {k : Nat} {enc : α → List Value} (hk : ∀ x, (enc x).length = k) : ∀ (l : List α) (j c : Nat) (hj : j < l.length), c < k → (l.flatMap enc)[j * k + c]? = (enc l[j])[c]?
 | [], j, c, hj, _ => absurd hj (Nat.not_lt_zero _)
 | x :: l, 0, c, _, hc => by
  rw [List.flatMap_cons, Nat.zero_mul, Nat.zero_add, List.getElem?_append_left (by rw [hk]; exact hc)]; rfl
 | x :: l, j + 1, c, hj, hc => by
  rw [List.flatMap_cons, List.getElem?_append_right (by rw [hk, Nat.add_mul]; omega), hk, show (j + 1) * k + c - k = j * k + c by rw [Nat.add_mul]; omega, flat_at hk l j c (by simpa using hj) hc]
  simp
theorem OwnR.nil (e : TypeId) (k : Nat) (enc : α → List Value) (B : Nat) (w : World) : OwnR e k enc B w (.slice none 0 0) [] := World.ownsRow_nil _ _ _ _
theorem OwnR.alloc {e : TypeId} {k : Nat} {enc : α → List Value} {B : Nat} {w : World} {v : Value} {l : List α} (h : OwnR e k enc B w v l) (o : Obj) : OwnR e k enc B (w.alloc o) v l := World.ownsRow.alloc h o
theorem OwnR.to {e : TypeId} {k : Nat} {enc : α → List Value} {B : Nat} {w w' : World} {v : Value} {l : List α} (h : OwnR e k enc B w v l) (hb : ∀ g, v.ownBlock = some g → w'.heap[g]? = w.heap[g]?) : OwnR e k enc B w' v l := by
 refine ⟨h.1, ?_⟩
 rcases h.2 with hn | ⟨g, cap, cur, rfl, h1, h2, h3⟩
 ·exact .inl hn
 ·exact .inr ⟨g, cap, cur, rfl, h1, (hb g rfl).trans h2, h3⟩
theorem OwnR.low {e : TypeId} {k : Nat} {enc : α → List Value} {B : Nat} {w w' : World} {v : Value} {l : List α} (h : OwnR e k enc B w v l) (hl : Low w w') : OwnR e k enc B w' v l :=
 h.to fun g hg => hl.2.2.2 g (World.ownsRow.lt h g hg).2
theorem OwnR.base {e : TypeId} {k : Nat} {enc : α → List Value} {B B' : Nat} {w : World} {v : Value} {l : List α} (h : OwnR e k enc B w v l) (hb : B' ≤ B) : OwnR e k enc B' w v l := by
 refine ⟨h.1, ?_⟩
 rcases h.2 with hn | ⟨g, cap, cur, rfl, h1, h2, h3⟩
 ·exact .inl hn
 ·exact .inr ⟨g, cap, cur, rfl, Nat.le_trans hb h1, h2, h3⟩
theorem OwnR.shape {e : TypeId} {k : Nat} {enc : α → List Value} {B : Nat} {w : World} {v : Value} {l : List α} (h : OwnR e k enc B w v l) : ∃ ao cap, v = .slice ao l.length cap ∧ l.length ≤ cap ∧ cap ≤ 9223372036854775807 ∧ (l = [] ∨ ∃ g, ao = some ⟨g, 0, none⟩ ∧ B ≤ g ∧ g < w.heap.size) := by
 have hlt := World.ownsRow.lt h
 rcases h.2 with ⟨rfl, hn⟩ | ⟨g, cap, cur, rfl, h1, h2, h3, h4, h5⟩
 ·exact ⟨none, 0, by rw [hn], by omega, by omega, .inl (List.eq_nil_of_length_eq_zero hn)⟩
 ·exact ⟨_, cap, rfl, h3, by unfold maxLen at h4; omega, .inr ⟨g, rfl, h1, (hlt g rfl).2⟩⟩
theorem OwnR.cell {e : TypeId} {k : Nat} {enc : α → List Value} (hk : ∀ x, (enc x).length = k) {B : Nat} {w : World} {g cap n : Nat} {l : List α} (h : OwnR e k enc B w (.slice (some ⟨g, 0, none⟩) n cap) l) (j c : Nat) (hj : j < l.length) (hc : c < k) :
  w.cell? ⟨g, j * k + c, none⟩ = (enc l[j])[c]? := by
 have h1 := World.ownsRow.cells h (g := g) rfl (j * k + c) ((enc l[j])[c]'(by rw [hk]; exact hc)) (by rw [flat_at hk l j c hj hc]; exact List.getElem?_eq_getElem _)
 rw [Addr.add_lit, Nat.zero_add] at h1
 rw [h1, List.getElem?_eq_getElem (by rw [hk]; exact hc)]
theorem OwnR.frozen {e : TypeId} {k : Nat} {enc : α → List Value} {B : Nat} {w : World} {g cap n : Nat} {l : List α} (h : OwnR e k enc B w (.slice (some ⟨g, 0, none⟩) n cap) l) (j : Nat) : w.frozen? ⟨g, j, none⟩ = false := by
 rcases h.2 with ⟨hv, _⟩ | ⟨g', cap', cur, hv, h1, h2, _⟩
 ·simp at hv
 ·simp only [Value.slice.injEq, Option.some.injEq, Addr.mk.injEq] at hv
  obtain ⟨⟨rfl, -, -⟩, -, -⟩ := hv
  simp [World.frozen?, h2]
theorem appR {e : TypeId} {k : Nat} {enc : α → List Value} {ops : Array Oper} {rest : List Oper} {o : Oper} {a : Act} {w : World} {Q : Exit → Act → World → Prop} (hgd : o.guard = none) (s x : Operand) (t : TypeId)
  (ho : o.op = .call { callee := .builtin .append, args := #[s, x], argTypes := #[t, t] }) (ht : Tryz.prog.underlying t = some (.slice e)) {z : Value} {bytes : Nat}
  (hinfo : (Tryz.prog.info? e).map (fun i => (i.zero, i.size, i.bytes)) = some (some z, k, bytes)) (hz : z.cells.size = k) (hk0 : 0 < k) (hby : bytes ≤ 1000)
  (hk : ∀ x, (enc x).length = k) (h1 : ∀ x, ∀ u ∈ enc x, u.oneCell' = true)
  (B : Nat) (v : Value) (l : List α) (hs : a.eval s = v) (hown : OwnR e k enc B w v l) (y : α) (ad : Addr) (c : Nat) (hx : a.eval x = .slice (some ad) 1 c)
  (hnews : ∀ j u, (enc y)[j]? = some u → w.cell? (ad.add j) = some u) (hlen : l.length ≤ 1000000) (hb : B ≤ w.heap.size)
  (h : ∀ v' w', OwnR e k enc B w' v' (l ++ [y]) → Below B w w' → (∀ b, b < w.heap.size → some b ≠ v.ownBlock → w'.heap[b]? = w.heap[b]?) → (v'.ownBlock = v.ownBlock ∨ ∀ g, v'.ownBlock = some g → w.heap.size ≤ g) → wpList Tryz.prog ops Q rest (a.put o.dst v') w') :
  wpList Tryz.prog ops Q (o :: rest) a w := by
 obtain ⟨i0, hi, hz0, hz1, hz2⟩ := info_parts hinfo
 have hby2 : (l.length + 1) * bytes ≤ 140737488355328 := by
  have := Nat.mul_le_mul (show l.length + 1 ≤ 1000001 by omega) hby
  omega
 have hnl : (enc y).length = 1 * k := by rw [hk, Nat.one_mul]
 have happ : (l ++ [y]).flatMap enc = l.flatMap enc ++ enc y := by simp
 have hlt := World.ownsRow.lt hown
 rcases hown.2 with ⟨rfl, hn⟩ | ⟨g, cap, cur, rfl, hbg, hg, hnc, hcm, hcs, htake⟩
 ·have hl : l = [] := List.eq_nil_of_length_eq_zero hn
  subst hl
  refine wpList_append_grows w hgd s x t ho e i0 z k bytes ht hi hz0 hz1 hz2 hz hk0 none 0 0 [] hs (fun _ => ⟨rfl, rfl⟩) (by simp) (fun b hb => by simp at hb) ad 1 c (enc y) hx hnl hnews (h1 y) (by omega) (by unfold maxLen; omega) (by simpa using hby2) fun v' w' r1 r2 => ?_
  have r3 : OwnR e k enc w.heap.size w' v' ([] ++ [y]) := by unfold OwnR; rw [happ]; exact r1
  exact h v' w' (r3.base hb) ((Below.refl _ _).grown r2 hb (by simp)) (fun b hb _ => r2.block b hb (by simp)) (.inr fun g hg => (World.ownsRow.lt r3 g hg).1)
 ·by_cases hroom : l.length + 1 ≤ cap
  ·refine wpList_append_fits w hgd s x t ho B e i0 k ht hi hz1 g l.length cap (l.flatMap enc) hs hown ad 1 c (enc y) hx hnl hnews (h1 y) hroom fun w' r1 r2 => ?_
   refine h _ w' ?_ ((Below.refl _ _).grown r2 hb fun k hk => by simp at hk; subst hk; exact hbg) (fun b hb hne => r2.block b hb hne) (.inl rfl)
   unfold OwnR; rw [happ, List.length_append]; exact r1
  ·have holds : ∀ b, some (⟨g, 0, none⟩ : Addr) = some b → ∀ j u, (l.flatMap enc)[j]? = some u → w.cell? (b.add j) = some u := fun b hb => by
    simp only [Option.some.injEq] at hb
    subst hb
    exact World.ownsRow.cells hown (g := g) rfl
   refine wpList_append_grows w hgd s x t ho e i0 z k bytes ht hi hz0 hz1 hz2 hz hk0 (some ⟨g, 0, none⟩) l.length cap (l.flatMap enc) hs (fun h => by simp at h) hown.1 holds ad 1 c (enc y) hx hnl hnews (h1 y) (by omega) (by unfold maxLen; omega) hby2 fun v' w' r1 r2 => ?_
   have r3 : OwnR e k enc w.heap.size w' v' (l ++ [y]) := by unfold OwnR; rw [happ, List.length_append]; exact r1
   exact h v' w' (r3.base hb) ((Below.refl _ _).grown r2 hb (by simp)) (fun b hb _ => r2.block b hb (by simp)) (.inr fun g hg => (World.ownsRow.lt r3 g hg).1)
end
theorem newcell_at (w : World) (C : Array Value) (t : TypeId) (n : Nat) (cs : List Value) (hC : C = cs.toArray) {j : Nat} {u : Value} (hj : cs[j]? = some u) (hn : n = w.heap.size := by simp) : (w.alloc (.cells C t)).cell? ((⟨n, 0, none⟩ : Addr).add j) = some u := by
 rw [hn, Addr.add_lit, Nat.zero_add, World.cell?_alloc_mark, hC]
 simpa using hj
end Go.Proofs.YtnchohglplobeaaGreat
