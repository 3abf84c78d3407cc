/- Maps that hold any values, by keys of one's own: what is at a key, whether it is there, a store, a deletion, how many there are. Condition: the key's type is one that the library knows. -/
import Derived.Maps.OwnSet
import Derived.Maps.RangeWalk
import Derived.WalkKit
namespace Go.Proofs.Ytijjbfdbhfjfmaa
open Go.RowKit Go.Maps
/-- An element is read as itself. -/
def Rv (v : Value) : Option (DataW Value × List MemPlace) := some (.held v, [])
/-- Keys of one's own: each is laid as a value, and read as a literal. -/
structure KeyF (P : Program) (k : TypeId) (α : Type) where
  kv : α → Value
  kl : α → Lit
  ok : ∀ a, keyOf P k (kv a) = some (kl a)
  inj : ∀ a b, kv a = kv b → a = b
variable {P : Program} {k : TypeId} {α : Type}
theorem KeyF.ne (F : KeyF P k α) (K : Keyed P k) {a b : α} (h : a ≠ b) : F.kl a ≠ F.kl b := fun e => h (F.inj a b (K.inj (F.ok a) (by rw [e]; exact F.ok b)))
/-- Block b is a map of no more than n entries that holds just what f says. -/
structure MapD (F : KeyF P k α) (w : World) (b n : Nat) (D : DataW Value) (f : α → Option Value) : Prop where
  owns : w.ownsMap P k Rv b n D
  has : ∀ a, Maps.has D (F.kl a) = (f a).isSome
  at' : ∀ a v, f a = some v → ∀ z, D.atKey (F.kl a) z = .held v
  key : ∀ l, Maps.has D l = true → ∃ a, l = F.kl a
  num : ∃ ks : List α, ks.Nodup ∧ (∀ a, a ∈ ks ↔ (f a).isSome = true) ∧ Maps.size D = ks.length
def MapAt (F : KeyF P k α) (w : World) (b n : Nat) (f : α → Option Value) : Prop := ∃ D, MapD F w b n D f
theorem MapAt.made (F : KeyF P k α) (w : World) : MapAt F (w.alloc (.map #[] 0)) w.heap.size 0 fun _ => none :=
  ⟨.map [], ⟨World.ownsMap_made _ _ _ _, fun _ => rfl, (by intro _ _ h; cases h), (by intro l h; simp [Maps.has] at h), ⟨[], List.nodup_nil, (by intro a; simp), rfl⟩⟩⟩
theorem MapAt.kept {F : KeyF P k α} {w w' : World} {b n : Nat} {f : α → Option Value} {row : Option Nat} (h : MapAt F w b n f) (hg : w.grownBy w' row) (hne : some b ≠ row) : MapAt F w' b n f := by
  obtain ⟨D, h⟩ := h
  exact ⟨D, h.owns.kept hg hne, h.has, h.at', h.key, h.num⟩
theorem MapAt.lt {F : KeyF P k α} {w : World} {b n : Nat} {f : α → Option Value} (h : MapAt F w b n f) : b < w.heap.size := by
  obtain ⟨D, h⟩ := h
  exact h.owns.lt
theorem MapAt.block {F : KeyF P k α} {w w' : World} {b n : Nat} {f : α → Option Value} (h : MapAt F w b n f) (e : w'.heap[b]? = w.heap[b]?) : MapAt F w' b n f := by
  obtain ⟨D, h⟩ := h
  obtain ⟨es, clock, hb, r⟩ := h.owns
  exact ⟨D, ⟨es, clock, e.trans hb, r⟩, h.has, h.at', h.key, h.num⟩
theorem MapAt.congr {F : KeyF P k α} {w : World} {b n : Nat} {f g : α → Option Value} (h : MapAt F w b n f) (e : ∀ a, f a = g a) : MapAt F w b n g := by
  have : f = g := funext e
  rw [← this]; exact h
theorem MapAt.mono {F : KeyF P k α} {w : World} {b n m : Nat} {f : α → Option Value} (h : MapAt F w b n f) (hn : n ≤ m) : MapAt F w b m f := by
  obtain ⟨D, h⟩ := h
  exact ⟨D, h.owns.mono hn, h.has, h.at', h.key, h.num⟩
/-- 'm[k]'. -/
theorem MapAt.look {F : KeyF P k α} {w : World} {b n : Nat} {f : α → Option Value} (h : MapAt F w b n f) (K : Keyed P k) {t e : TypeId} (ht : P.underlying t = some (.map k e)) {z : Value} (hz : (zeroValue e).run P w = .ok z w) (a : α) :
    (Instr.lookup t (.map (some b)) (F.kv a) false).run P w = .ok ((f a).getD z) w := by
  obtain ⟨D, h⟩ := h
  obtain ⟨v, ps, hrun, hv⟩ := h.owns.lookup K ht hz (zd := .held z) (zp := []) rfl (F.ok a)
  rw [hrun]
  have hv2 : (DataW.held v : DataW Value) = D.atKey (F.kl a) (.held z) := by
    have h9 : (DataW.held v : DataW Value) = D.atKey (F.kl a) (.held z) ∧ ps = [] := by simpa [Rv] using hv
    exact h9.1
  cases hf : f a with
  | none =>
    have := h.has a
    rw [hf] at this
    rw [Maps.atKey_of_not_has this] at hv2
    simp at hv2
    rw [hv2]; rfl
  | some u =>
    rw [h.at' a u hf] at hv2
    simp at hv2
    rw [hv2]; rfl
/-- 'v, ok := m[k]'. -/
theorem MapAt.lookOk {F : KeyF P k α} {w : World} {b n : Nat} {f : α → Option Value} (h : MapAt F w b n f) (K : Keyed P k) {t e : TypeId} (ht : P.underlying t = some (.map k e)) {z : Value} (hz : (zeroValue e).run P w = .ok z w) (a : α) :
    (Instr.lookup t (.map (some b)) (F.kv a) true).run P w = .ok (.tuple #[(f a).getD z, .bool (f a).isSome]) w := by
  obtain ⟨D, h⟩ := h
  obtain ⟨v, ps, hrun, hv⟩ := h.owns.look_ok K ht hz (zd := .held z) (zp := []) rfl (F.ok a)
  rw [hrun, h.has]
  have hv2 : (DataW.held v : DataW Value) = D.atKey (F.kl a) (.held z) := by
    have h9 : (DataW.held v : DataW Value) = D.atKey (F.kl a) (.held z) ∧ ps = [] := by simpa [Rv] using hv
    exact h9.1
  cases hf : f a with
  | none =>
    have := h.has a
    rw [hf] at this
    rw [Maps.atKey_of_not_has this] at hv2
    simp at hv2
    rw [hv2]; rfl
  | some u =>
    rw [h.at' a u hf] at hv2
    simp at hv2
    rw [hv2]; rfl
section
variable [DecidableEq α]
def updF (f : α → Option Value) (a : α) (v : Option Value) : α → Option Value := fun x => if x = a then v else f x
/-- 'm[k] = v'. -/
theorem MapAt.store {F : KeyF P k α} {w : World} {b n : Nat} {f : α → Option Value} (h : MapAt F w b n f) (K : Keyed P k) {t e : TypeId} (ht : P.underlying t = some (.map k e)) (hn : n < maxLen) (a : α) (v : Value) :
    ∃ w', (Instr.mapUpdate t (.map (some b)) (F.kv a) v).run P w = .ok () w' ∧ MapAt F w' b (n + 1) (updF f a (some v)) ∧ w.mapTurned w' b := by
  obtain ⟨D, h⟩ := h
  obtain ⟨w', hrun, hown, ht'⟩ := h.owns.store K ht hn (F.ok a) (val := v) (d := .held v) (ps := []) rfl
  have hD := h.owns.isMap
  have hk := K.key (F.ok a)
  refine ⟨w', hrun, ⟨_, hown, fun x => ?_, fun x u hu z => ?_, fun l hl => ?_, ?_⟩, ht'⟩
  · unfold updF
    by_cases e : x = a
    · rw [if_pos e, e, Maps.has_put_same hD hk]; rfl
    · rw [if_neg e, Maps.has_put_other (F.ne K e), h.has]
  · unfold updF at hu
    by_cases e : x = a
    · rw [if_pos e] at hu
      cases hu
      rw [e, Maps.atKey_put_same hD hk]
    · rw [if_neg e] at hu
      rw [Maps.atKey_put_other (F.ne K e), h.at' x u hu]
  · by_cases e : l = F.kl a
    · exact ⟨a, e⟩
    · rw [Maps.has_put_other e] at hl
      exact h.key l hl
  · obtain ⟨ks, hnd, hm, hs⟩ := h.num
    have hsz := Maps.size_put (k := F.kl a) (h.owns.tidy K) (.held v)
    rw [h.has, hs] at hsz
    by_cases hf : (f a).isSome = true
    · refine ⟨ks, hnd, fun x => ?_, by rw [hsz, if_pos hf]⟩
      unfold updF
      by_cases e : x = a
      · rw [if_pos e, e]; simp [(hm a).2 hf]
      · rw [if_neg e]; exact hm x
    · refine ⟨a :: ks, List.nodup_cons.2 ⟨fun hx => hf ((hm a).1 hx), hnd⟩, fun x => ?_, by rw [hsz, if_neg hf]; rfl⟩
      unfold updF
      by_cases e : x = a
      · rw [if_pos e, e]; simp
      · rw [if_neg e, List.mem_cons]
        exact ⟨fun h1 => (hm x).1 (h1.resolve_left e), fun h1 => .inr ((hm x).2 h1)⟩
/-- 'delete(m, k)'. -/
theorem MapAt.drop {F : KeyF P k α} {w : World} {b n : Nat} {f : α → Option Value} (h : MapAt F w b n f) (K : Keyed P k) {t e : TypeId} (ht : P.underlying t = some (.map k e)) (a : α) (ty : TypeId) :
    ∃ w', (Builtin.delete_ #[t, k] ty #[.map (some b), F.kv a]).run P w = .ok (.tuple #[]) w' ∧ MapAt F w' b n (updF f a none) ∧ w.mapTurned w' b := by
  obtain ⟨D, h⟩ := h
  obtain ⟨w', hrun, hown, ht'⟩ := h.owns.drop K ht (F.ok a) ty
  refine ⟨w', hrun, ⟨_, hown, fun x => ?_, fun x u hu z => ?_, fun l hl => ?_, ?_⟩, ht'⟩
  · unfold updF
    by_cases e : x = a
    · rw [if_pos e, e, Maps.has_del_same]; rfl
    · rw [if_neg e, Maps.has_del_other (F.ne K e), h.has]
  · unfold updF at hu
    by_cases e : x = a
    · rw [if_pos e] at hu; cases hu
    · rw [if_neg e] at hu
      rw [Maps.atKey_del_other (F.ne K e), h.at' x u hu]
  · by_cases e : l = F.kl a
    · exact ⟨a, e⟩
    · rw [Maps.has_del_other e] at hl
      exact h.key l hl
  · obtain ⟨ks, hnd, hm, hs⟩ := h.num
    have hsz := Maps.size_del (k := F.kl a) (h.owns.tidy K)
    rw [h.has, hs] at hsz
    refine ⟨ks.erase a, hnd.erase a, fun x => ?_, ?_⟩
    · rw [hnd.mem_erase_iff]
      unfold updF
      by_cases e : x = a
      · rw [if_pos e]; simp [e]
      · rw [if_neg e]
        exact ⟨fun h1 => (hm x).1 h1.2, fun h1 => ⟨e, (hm x).2 h1⟩⟩
    · rw [List.length_erase]
      by_cases hf : (f a).isSome = true
      · rw [if_pos ((hm a).2 hf)]
        rw [if_pos hf] at hsz
        omega
      · rw [if_neg fun hx => hf ((hm a).1 hx)]
        rw [if_neg hf] at hsz
        omega
end
/-- 'len(m)'. -/
theorem MapAt.len {F : KeyF P k α} {w : World} {b n : Nat} {f : α → Option Value} (h : MapAt F w b n f) {t e : TypeId} (ht : P.underlying t = some (.map k e)) (ty : TypeId) :
    ∃ ks : List α, ks.Nodup ∧ (∀ a, a ∈ ks ↔ (f a).isSome = true) ∧ (Builtin.len_ #[t] ty #[.map (some b)]).run P w = .ok (.int .i64 (ks.length : Int)) w := by
  obtain ⟨D, h⟩ := h
  obtain ⟨ks, hnd, hm, hs⟩ := h.num
  refine ⟨ks, hnd, hm, ?_⟩
  rw [h.owns.len ht ty, hs]
end Go.Proofs.Ytijjbfdbhfjfmaa
