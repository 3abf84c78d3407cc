/- Maps that hold any values, by keys of one's own: what is at a key, whether it is there, a store, a deletion, how many there are. Condition: the key's type is one that the library knows. Ranging over a map by keys of one's own, in whatever order. Condition: the key's type is one that the library knows. Maps by keys of one's own, at an operation of a walk. Condition: the key's type is one that the library knows. 'm[k] += x' on a map by keys of one's own: the entry, the look behind it, the store into it. Condition: the key's type is one that the library knows (by its elder law). -/
import Derived.Maps.OwnSet
import Derived.Maps.RangeWalk
import Derived.WalkKit
import Derived.Maps.OwnOps
import Derived.WideKeyEntry
namespace Go.Proofs.Ytijjbfdbhfjfmaa
open Go.RowKit Go.Maps
/-- An element is read as itself. -/
def Rv (v : Value) : Option (DataW Value × List MemPlace) := some (.held v, [])
/-- Keys of one's own: each is laid as a value, and read as a literal. -/
structure KeyF (P : Program) (k : TypeId) (α : Type) where
  kv : α → Value
  kl : α → Lit
  ok : ∀ a, keyOf P k (kv a) = some (kl a)
  inj : ∀ a b, kv a = kv b → a = b
variable {P : Program} {k : TypeId} {α : Type}
theorem KeyF.ne (F : KeyF P k α) (K : Keyed P k) {a b : α} (h : a ≠ b) : F.kl a ≠ F.kl b := fun e => h (F.inj a b (K.inj (F.ok a) (by rw [e]; exact F.ok b)))
/-- Block b is a map of no more than n entries that holds just what f says. -/
structure MapD (F : KeyF P k α) (w : World) (b n : Nat) (D : DataW Value) (f : α → Option Value) : Prop where
  owns : w.ownsMap P k Rv b n D
  has : ∀ a, Maps.has D (F.kl a) = (f a).isSome
  at' : ∀ a v, f a = some v → ∀ z, D.atKey (F.kl a) z = .held v
  key : ∀ l, Maps.has D l = true → ∃ a, l = F.kl a
  num : ∃ ks : List α, ks.Nodup ∧ (∀ a, a ∈ ks ↔ (f a).isSome = true) ∧ Maps.size D = ks.length
def MapAt (F : KeyF P k α) (w : World) (b n : Nat) (f : α → Option Value) : Prop := ∃ D, MapD F w b n D f
theorem MapAt.made (F : KeyF P k α) (w : World) : MapAt F (w.alloc (.map #[] 0)) w.heap.size 0 fun _ => none :=
  ⟨.map [], ⟨World.ownsMap_made _ _ _ _, fun _ => rfl, (by intro _ _ h; cases h), (by intro l h; simp [Maps.has] at h), ⟨[], List.nodup_nil, (by intro a; simp), rfl⟩⟩⟩
theorem MapAt.kept {F : KeyF P k α} {w w' : World} {b n : Nat} {f : α → Option Value} {row : Option Nat} (h : MapAt F w b n f) (hg : w.grownBy w' row) (hne : some b ≠ row) : MapAt F w' b n f := by
  obtain ⟨D, h⟩ := h
  exact ⟨D, h.owns.kept hg hne, h.has, h.at', h.key, h.num⟩
theorem MapAt.lt {F : KeyF P k α} {w : World} {b n : Nat} {f : α → Option Value} (h : MapAt F w b n f) : b < w.heap.size := by
  obtain ⟨D, h⟩ := h
  exact h.owns.lt
theorem MapAt.block {F : KeyF P k α} {w w' : World} {b n : Nat} {f : α → Option Value} (h : MapAt F w b n f) (e : w'.heap[b]? = w.heap[b]?) : MapAt F w' b n f := by
  obtain ⟨D, h⟩ := h
  obtain ⟨es, clock, hb, r⟩ := h.owns
  exact ⟨D, ⟨es, clock, e.trans hb, r⟩, h.has, h.at', h.key, h.num⟩
theorem MapAt.congr {F : KeyF P k α} {w : World} {b n : Nat} {f g : α → Option Value} (h : MapAt F w b n f) (e : ∀ a, f a = g a) : MapAt F w b n g := by
  have : f = g := funext e
  rw [← this]; exact h
theorem MapAt.mono {F : KeyF P k α} {w : World} {b n m : Nat} {f : α → Option Value} (h : MapAt F w b n f) (hn : n ≤ m) : MapAt F w b m f := by
  obtain ⟨D, h⟩ := h
  exact ⟨D, h.owns.mono hn, h.has, h.at', h.key, h.num⟩
/-- 'm[k]'. -/
theorem MapAt.look {F : KeyF P k α} {w : World} {b n : Nat} {f : α → Option Value} (h : MapAt F w b n f) (K : Keyed P k) {t e : TypeId} (ht : P.underlying t = some (.map k e)) {z : Value} (hz : (zeroValue e).run P w = .ok z w) (a : α) :
    (Instr.lookup t (.map (some b)) (F.kv a) false).run P w = .ok ((f a).getD z) w := by
  obtain ⟨D, h⟩ := h
  obtain ⟨v, ps, hrun, hv⟩ := h.owns.lookup K ht hz (zd := .held z) (zp := []) rfl (F.ok a)
  rw [hrun]
  have hv2 : (DataW.held v : DataW Value) = D.atKey (F.kl a) (.held z) := by
    have h9 : (DataW.held v : DataW Value) = D.atKey (F.kl a) (.held z) ∧ ps = [] := by simpa [Rv] using hv
    exact h9.1
  cases hf : f a with
  | none =>
    have := h.has a
    rw [hf] at this
    rw [Maps.atKey_of_not_has this] at hv2
    simp at hv2
    rw [hv2]; rfl
  | some u =>
    rw [h.at' a u hf] at hv2
    simp at hv2
    rw [hv2]; rfl
/-- 'v, ok := m[k]'. -/
theorem MapAt.lookOk {F : KeyF P k α} {w : World} {b n : Nat} {f : α → Option Value} (h : MapAt F w b n f) (K : Keyed P k) {t e : TypeId} (ht : P.underlying t = some (.map k e)) {z : Value} (hz : (zeroValue e).run P w = .ok z w) (a : α) :
    (Instr.lookup t (.map (some b)) (F.kv a) true).run P w = .ok (.tuple #[(f a).getD z, .bool (f a).isSome]) w := by
  obtain ⟨D, h⟩ := h
  obtain ⟨v, ps, hrun, hv⟩ := h.owns.look_ok K ht hz (zd := .held z) (zp := []) rfl (F.ok a)
  rw [hrun, h.has]
  have hv2 : (DataW.held v : DataW Value) = D.atKey (F.kl a) (.held z) := by
    have h9 : (DataW.held v : DataW Value) = D.atKey (F.kl a) (.held z) ∧ ps = [] := by simpa [Rv] using hv
    exact h9.1
  cases hf : f a with
  | none =>
    have := h.has a
    rw [hf] at this
    rw [Maps.atKey_of_not_has this] at hv2
    simp at hv2
    rw [hv2]; rfl
  | some u =>
    rw [h.at' a u hf] at hv2
    simp at hv2
    rw [hv2]; rfl
section
variable [DecidableEq α]
def updF (f : α → Option Value) (a : α) (v : Option Value) : α → Option Value := fun x => if x = a then v else f x
/-- 'm[k] = v'. -/
theorem MapAt.store {F : KeyF P k α} {w : World} {b n : Nat} {f : α → Option Value} (h : MapAt F w b n f) (K : Keyed P k) {t e : TypeId} (ht : P.underlying t = some (.map k e)) (hn : n < maxLen) (a : α) (v : Value) :
    ∃ w', (Instr.mapUpdate t (.map (some b)) (F.kv a) v).run P w = .ok () w' ∧ MapAt F w' b (n + 1) (updF f a (some v)) ∧ w.mapTurned w' b := by
  obtain ⟨D, h⟩ := h
  obtain ⟨w', hrun, hown, ht'⟩ := h.owns.store K ht hn (F.ok a) (val := v) (d := .held v) (ps := []) rfl
  have hD := h.owns.isMap
  have hk := K.key (F.ok a)
  refine ⟨w', hrun, ⟨_, hown, fun x => ?_, fun x u hu z => ?_, fun l hl => ?_, ?_⟩, ht'⟩
  · unfold updF
    by_cases e : x = a
    · rw [if_pos e, e, Maps.has_put_same hD hk]; rfl
    · rw [if_neg e, Maps.has_put_other (F.ne K e), h.has]
  · unfold updF at hu
    by_cases e : x = a
    · rw [if_pos e] at hu
      cases hu
      rw [e, Maps.atKey_put_same hD hk]
    · rw [if_neg e] at hu
      rw [Maps.atKey_put_other (F.ne K e), h.at' x u hu]
  · by_cases e : l = F.kl a
    · exact ⟨a, e⟩
    · rw [Maps.has_put_other e] at hl
      exact h.key l hl
  · obtain ⟨ks, hnd, hm, hs⟩ := h.num
    have hsz := Maps.size_put (k := F.kl a) (h.owns.tidy K) (.held v)
    rw [h.has, hs] at hsz
    by_cases hf : (f a).isSome = true
    · refine ⟨ks, hnd, fun x => ?_, by rw [hsz, if_pos hf]⟩
      unfold updF
      by_cases e : x = a
      · rw [if_pos e, e]; simp [(hm a).2 hf]
      · rw [if_neg e]; exact hm x
    · refine ⟨a :: ks, List.nodup_cons.2 ⟨fun hx => hf ((hm a).1 hx), hnd⟩, fun x => ?_, by rw [hsz, if_neg hf]; rfl⟩
      unfold updF
      by_cases e : x = a
      · rw [if_pos e, e]; simp
      · rw [if_neg e, List.mem_cons]
        exact ⟨fun h1 => (hm x).1 (h1.resolve_left e), fun h1 => .inr ((hm x).2 h1)⟩
/-- 'delete(m, k)'. -/
theorem MapAt.drop {F : KeyF P k α} {w : World} {b n : Nat} {f : α → Option Value} (h : MapAt F w b n f) (K : Keyed P k) {t e : TypeId} (ht : P.underlying t = some (.map k e)) (a : α) (ty : TypeId) :
    ∃ w', (Builtin.delete_ #[t, k] ty #[.map (some b), F.kv a]).run P w = .ok (.tuple #[]) w' ∧ MapAt F w' b n (updF f a none) ∧ w.mapTurned w' b := by
  obtain ⟨D, h⟩ := h
  obtain ⟨w', hrun, hown, ht'⟩ := h.owns.drop K ht (F.ok a) ty
  refine ⟨w', hrun, ⟨_, hown, fun x => ?_, fun x u hu z => ?_, fun l hl => ?_, ?_⟩, ht'⟩
  · unfold updF
    by_cases e : x = a
    · rw [if_pos e, e, Maps.has_del_same]; rfl
    · rw [if_neg e, Maps.has_del_other (F.ne K e), h.has]
  · unfold updF at hu
    by_cases e : x = a
    · rw [if_pos e] at hu; cases hu
    · rw [if_neg e] at hu
      rw [Maps.atKey_del_other (F.ne K e), h.at' x u hu]
  · by_cases e : l = F.kl a
    · exact ⟨a, e⟩
    · rw [Maps.has_del_other e] at hl
      exact h.key l hl
  · obtain ⟨ks, hnd, hm, hs⟩ := h.num
    have hsz := Maps.size_del (k := F.kl a) (h.owns.tidy K)
    rw [h.has, hs] at hsz
    refine ⟨ks.erase a, hnd.erase a, fun x => ?_, ?_⟩
    · rw [hnd.mem_erase_iff]
      unfold updF
      by_cases e : x = a
      · rw [if_pos e]; simp [e]
      · rw [if_neg e]
        exact ⟨fun h1 => (hm x).1 h1.2, fun h1 => ⟨e, (hm x).2 h1⟩⟩
    · rw [List.length_erase]
      by_cases hf : (f a).isSome = true
      · rw [if_pos ((hm a).2 hf)]
        rw [if_pos hf] at hsz
        omega
      · rw [if_neg fun hx => hf ((hm a).1 hx)]
        rw [if_neg hf] at hsz
        omega
end
/-- 'len(m)'. -/
theorem MapAt.len {F : KeyF P k α} {w : World} {b n : Nat} {f : α → Option Value} (h : MapAt F w b n f) {t e : TypeId} (ht : P.underlying t = some (.map k e)) (ty : TypeId) :
    ∃ ks : List α, ks.Nodup ∧ (∀ a, a ∈ ks ↔ (f a).isSome = true) ∧ (Builtin.len_ #[t] ty #[.map (some b)]).run P w = .ok (.int .i64 (ks.length : Int)) w := by
  obtain ⟨D, h⟩ := h
  obtain ⟨ks, hnd, hm, hs⟩ := h.num
  refine ⟨ks, hnd, hm, ?_⟩
  rw [h.owns.len ht ty, hs]
end Go.Proofs.Ytijjbfdbhfjfmaa
namespace Go.Proofs.Ytijjbfdbhfjfmaa
open Go.RowKit Go.Maps
section
variable {P : Program} {k : TypeId} {α : Type}
/-- Those of 'seen' are behind the range, one by one. -/
def RangeAt (F : KeyF P k α) (w : World) (b r n : Nat) (f : α → Option Value) (seen : List α) (cnt : Nat) : Prop :=
  ∃ D left, MapD F w b n D f ∧ w.ranges P k Rv b r n D left cnt ∧ seen.Nodup ∧ (∀ a ∈ seen, (f a).isSome = true) ∧ (∀ a, left (F.kl a) = true ↔ ((f a).isSome = true ∧ a ∉ seen)) ∧ ∀ l, left l = true → ∃ a, l = F.kl a
theorem MapAt.range {F : KeyF P k α} {w : World} {b n : Nat} {f : α → Option Value} (h : MapAt F w b n f) (K : Keyed P k) {t e : TypeId} (ht : P.underlying t = some (.map k e)) :
    ∃ w' cnt, (Instr.range t (.map (some b))).run P w = .ok (.pointer (some ⟨w.heap.size, 0, none⟩)) w' ∧ RangeAt F w' b w.heap.size n f [] cnt ∧ w.grownBy w' none ∧ w'.heap.size = w.heap.size + 1 := by
  obtain ⟨D, h⟩ := h
  obtain ⟨w', hrun, hr, hg, hs⟩ := h.owns.range K ht
  refine ⟨w', _, hrun, ⟨D, _, ⟨hr.owns, h.has, h.at', h.key, h.num⟩, hr, List.nodup_nil, by simp, fun a => ?_, h.key⟩, hg, hs⟩
  rw [h.has]; simp
theorem RangeAt.map {F : KeyF P k α} {w : World} {b r n : Nat} {f : α → Option Value} {seen : List α} {cnt : Nat} (h : RangeAt F w b r n f seen cnt) : MapAt F w b n f := by
  obtain ⟨D, left, h, _⟩ := h
  exact ⟨D, h⟩
theorem RangeAt.lt {F : KeyF P k α} {w : World} {b r n : Nat} {f : α → Option Value} {seen : List α} {cnt : Nat} (h : RangeAt F w b r n f seen cnt) : r < w.heap.size ∧ b < w.heap.size ∧ r ≠ b := by
  obtain ⟨D, left, h, hr, _⟩ := h
  exact ⟨hr.lt, h.owns.lt, hr.ne⟩
theorem RangeAt.kept {F : KeyF P k α} {w w' : World} {b r n : Nat} {f : α → Option Value} {seen : List α} {cnt : Nat} {row : Option Nat} (h : RangeAt F w b r n f seen cnt) (hg : w.grownBy w' row) (hb : some b ≠ row) (hr : some r ≠ row) : RangeAt F w' b r n f seen cnt := by
  obtain ⟨D, left, h, hr', h1⟩ := h
  exact ⟨D, left, ⟨h.owns.kept hg hb, h.has, h.at', h.key, h.num⟩, hr'.kept hg hb hr, h1⟩
/-- The step: nothing is left, or some key that is left, and what is at it, comes. -/
theorem RangeAt.next {F : KeyF P k α} {w : World} {b r n : Nat} {f : α → Option Value} {seen : List α} {cnt : Nat} (h : RangeAt F w b r n f seen cnt) (K : Keyed P k) (ty : TypeId) :
    ((∀ a, (f a).isSome = true → a ∈ seen) ∧ (Instr.next (.pointer (some ⟨r, 0, none⟩)) false ty).run P w = .ok (.tuple #[.bool false]) w) ∨
    ∃ a v w' cnt', f a = some v ∧ a ∉ seen ∧ (Instr.next (.pointer (some ⟨r, 0, none⟩)) false ty).run P w = .ok (.tuple #[.bool true, F.kv a, v]) w' ∧ RangeAt F w' b r n f (seen ++ [a]) cnt' ∧ cnt' < cnt ∧
      w.grownBy w' (some r) ∧ w'.heap.size = w.heap.size ∧ (Instr.entry (.pointer (some ⟨r, 0, none⟩))).run P w' = .ok (.tuple #[F.kv a, v]) w' := by
  obtain ⟨D, left, h, hr, hnd, hsn, hl, hk⟩ := h
  rcases hr.next K ty with ⟨h0, hl0, hrun⟩ | ⟨key, v, kl, y, w', cnt', hkey, hlk, hv, hat, hrun, hrg, hlt, hgr, hsz, hen⟩
  · refine .inl ⟨fun a ha => ?_, hrun⟩
    apply Classical.byContradiction
    intro hn
    have := (hl a).2 ⟨ha, hn⟩
    rw [hl0] at this; cases this
  · obtain ⟨a, rfl⟩ := hk kl hlk
    obtain rfl : key = F.kv a := K.inj hkey (F.ok a)
    have hla := (hl a).1 hlk
    obtain ⟨u, hu⟩ := Option.isSome_iff_exists.1 hla.1
    have h1 := h.at' a u hu (.held u)
    rw [hat] at h1
    have h2 : y = (.held v, []) := by simpa [Rv] using hv.symm
    rw [h2] at h1
    have huv : v = u := by simpa using h1
    subst huv
    refine .inr ⟨a, v, w', cnt', hu, hla.2, hrun, ⟨D, _, ⟨hrg.owns, h.has, h.at', h.key, h.num⟩, hrg, ?_, fun x hx => ?_, fun x => ?_, fun l hl' => ?_⟩, hlt, hgr, hsz, hen⟩
    · rw [List.nodup_append]
      refine ⟨hnd, by simp, fun x hx z hz => ?_⟩
      simp at hz
      intro e
      rw [e, hz] at hx
      exact hla.2 hx
    · rcases List.mem_append.1 hx with hx | hx
      · exact hsn x hx
      · simp at hx
        rw [hx]; exact hla.1
    · by_cases e : x = a
      · subst e
        rw [WideAt.sameKey_self (K.key hkey)]
        simp
      · rw [Maps.sameKey_ne (F.ne K e)]
        simp only [Bool.not_false, Bool.and_true, List.mem_append, List.mem_singleton, not_or]
        rw [hl x]
        exact ⟨fun ⟨p, q⟩ => ⟨p, q, e⟩, fun ⟨p, q, _⟩ => ⟨p, q⟩⟩
    · rw [Bool.and_eq_true] at hl'
      exact hk l hl'.1
end
end Go.Proofs.Ytijjbfdbhfjfmaa
namespace Go.Proofs.Ytijjbfdbhfjfmaa
open Go.RowKit Go.Maps
section
variable {P : Program} {k : TypeId} {α : Type} {ops : Array Oper} {rest : List Oper} {o : Oper} {a : Act} {w : World} {Q : Exit → Act → World → Prop}
theorem at_look (hg : o.guard = none) (m x : Operand) (t : TypeId) (hop : o.op = Op.lookup t m x false) {F : KeyF P k α} (K : Keyed P k) {e : TypeId} (ht : P.underlying t = some (.map k e)) {z : Value} (hz : (zeroValue e).run P w = .ok z w) {b n : Nat} {f : α → Option Value}
    (hm : a.eval m = .map (some b)) (h : MapAt F w b n f) (u : α) (hx : a.eval x = F.kv u) (v : Value) (hv : (f u).getD z = v) (hK : wpList P ops Q rest (a.put o.dst v) w) : wpList P ops Q (o :: rest) a w := by
  refine wpList_plain hg fun K' hK' => ?_
  have hrun := h.look K ht hz u
  rw [hv] at hrun
  unfold Oper.wp
  simp [execOp, hop, hm, hx, hrun, Result.andThen]
  exact hK' _ _ hK
theorem at_lookOk (hg : o.guard = none) (m x : Operand) (t : TypeId) (hop : o.op = Op.lookup t m x true) {F : KeyF P k α} (K : Keyed P k) {e : TypeId} (ht : P.underlying t = some (.map k e)) {z : Value} (hz : (zeroValue e).run P w = .ok z w) {b n : Nat} {f : α → Option Value}
    (hm : a.eval m = .map (some b)) (h : MapAt F w b n f) (u : α) (hx : a.eval x = F.kv u) (v : Value) (q : Bool) (hv : (f u).getD z = v) (hq : (f u).isSome = q) (hK : wpList P ops Q rest (a.put o.dst (.tuple #[v, .bool q])) w) : wpList P ops Q (o :: rest) a w := by
  refine wpList_plain hg fun K' hK' => ?_
  have hrun := h.lookOk K ht hz u
  rw [hv, hq] at hrun
  unfold Oper.wp
  simp [execOp, hop, hm, hx, hrun, Result.andThen]
  exact hK' _ _ hK
theorem at_store [DecidableEq α] (hg : o.guard = none) (m x v : Operand) (t : TypeId) (hop : o.op = Op.mapUpdate t m x v) {F : KeyF P k α} (K : Keyed P k) {e : TypeId} (ht : P.underlying t = some (.map k e)) {b n : Nat} {f : α → Option Value}
    (hm : a.eval m = .map (some b)) (h : MapAt F w b n f) (hn : n < maxLen) (u : α) (hx : a.eval x = F.kv u) (val : Value) (hv : a.eval v = val)
    (hK : ∀ w', MapAt F w' b (n + 1) (updF f u (some val)) → w.mapTurned w' b → wpList P ops Q rest (a.put o.dst undef) w') : wpList P ops Q (o :: rest) a w := by
  refine wpList_plain hg fun K' hK' => ?_
  obtain ⟨w', hrun, r1, r2⟩ := h.store K ht hn u val
  unfold Oper.wp
  simp [execOp, hop, hm, hx, hv, hrun, Result.andThen]
  exact hK' _ _ (hK w' r1 r2)
theorem at_drop [DecidableEq α] (hg : o.guard = none) (m x : Operand) (t : TypeId) (hop : o.op = Op.call { callee := Callee.builtin Builtin.delete, args := #[m, x], argTypes := #[t, k] }) {F : KeyF P k α} (K : Keyed P k) {e : TypeId} (ht : P.underlying t = some (.map k e)) {b n : Nat} {f : α → Option Value}
    (hm : a.eval m = .map (some b)) (h : MapAt F w b n f) (u : α) (hx : a.eval x = F.kv u)
    (hK : ∀ w', MapAt F w' b n (updF f u none) → w.mapTurned w' b → wpList P ops Q rest (a.put o.dst (.tuple #[])) w') : wpList P ops Q (o :: rest) a w := by
  refine wpList_plain hg fun K' hK' => ?_
  obtain ⟨w', hrun, r1, r2⟩ := h.drop K ht u o.type
  unfold Oper.wp
  simp [execOp, hop, resolve, invoke, builtin, hm, hx, hrun, Result.andThen]
  exact hK' _ _ (hK w' r1 r2)
theorem at_size (hg : o.guard = none) (m : Operand) (t : TypeId) (hop : o.op = Op.call { callee := Callee.builtin Builtin.len, args := #[m], argTypes := #[t] }) {F : KeyF P k α} {e : TypeId} (ht : P.underlying t = some (.map k e)) {b n : Nat} {f : α → Option Value}
    (hm : a.eval m = .map (some b)) (h : MapAt F w b n f)
    (hK : ∀ ks : List α, ks.Nodup → (∀ x, x ∈ ks ↔ (f x).isSome = true) → wpList P ops Q rest (a.put o.dst (.int .i64 (ks.length : Int))) w) : wpList P ops Q (o :: rest) a w := by
  refine wpList_plain hg fun K' hK' => ?_
  obtain ⟨ks, h1, h2, hrun⟩ := h.len ht o.type
  unfold Oper.wp
  simp [execOp, hop, resolve, invoke, builtin, hm, hrun, Result.andThen]
  exact hK' _ _ (hK ks h1 h2)
theorem at_rangeM (hg : o.guard = none) (m : Operand) (t : TypeId) (hop : o.op = Op.range t m) {F : KeyF P k α} (K : Keyed P k) {e : TypeId} (ht : P.underlying t = some (.map k e)) {b n : Nat} {f : α → Option Value}
    (hm : a.eval m = .map (some b)) (h : MapAt F w b n f)
    (hK : ∀ w' cnt, RangeAt F w' b w.heap.size n f [] cnt → w.grownBy w' none → w'.heap.size = w.heap.size + 1 → wpList P ops Q rest (a.put o.dst (.pointer (some ⟨w.heap.size, 0, none⟩))) w') : wpList P ops Q (o :: rest) a w := by
  refine wpList_plain hg fun K' hK' => ?_
  obtain ⟨w', cnt, hrun, r1, r2, r3⟩ := h.range K ht
  unfold Oper.wp
  simp [execOp, hop, hm, hrun, Result.andThen]
  exact hK' _ _ (hK w' cnt r1 r2 r3)
/-- The step of a range: what comes is a key of one's own, and a value 'mk c' (invV: each value is one such). -/
theorem at_nextM {β : Type} (hg : o.guard = none) (it : Operand) (hop : o.op = Op.next it false) {F : KeyF P k α} (K : Keyed P k) (mk : β → Value) {b r n cnt : Nat} {f : α → Option Value} {seen : List α} (invV : ∀ u v, f u = some v → ∃ c, v = mk c)
    (hit : a.eval it = .pointer (some ⟨r, 0, none⟩)) (h : RangeAt F w b r n f seen cnt)
    (hDone : (∀ x, (f x).isSome = true → x ∈ seen) → wpList P ops Q rest (a.put o.dst (.tuple #[.bool false])) w)
    (hMore : ∀ (u : α) (c : β) (w' : World) (cnt' : Nat), f u = some (mk c) → u ∉ seen → RangeAt F w' b r n f (seen ++ [u]) cnt' → cnt' < cnt → w.grownBy w' (some r) → w'.heap.size = w.heap.size →
      (Instr.entry (.pointer (some ⟨r, 0, none⟩))).run P w' = .ok (.tuple #[F.kv u, mk c]) w' → wpList P ops Q rest (a.put o.dst (.tuple #[.bool true, F.kv u, mk c])) w') : wpList P ops Q (o :: rest) a w := by
  refine wpList_plain hg fun K' hK' => ?_
  unfold Oper.wp
  rcases h.next K o.type with ⟨hl, hrun⟩ | ⟨u, v, w', cnt', hu, hns, hrun, hr, hlt, hgr, hsz, hen⟩
  · simp [execOp, hop, hit, hrun, Result.andThen]
    exact hK' _ _ (hDone hl)
  · obtain ⟨c, rfl⟩ := invV u v hu
    simp [execOp, hop, hit, hrun, Result.andThen]
    exact hK' _ _ (hMore u c w' cnt' hu hns hr hlt hgr hsz hen)
end
end Go.Proofs.Ytijjbfdbhfjfmaa
namespace Go.Proofs.Ytijjbfdbhfjfmaa
open Go.RowKit Go.Maps Go.ChangeShapes Go.WideShapes Go.MapKept Go.ChangeMaps Go.WideElems
open Go.WideMaps (KeyLaw)
section
variable {P : Program} {k : TypeId} {α : Type}
theorem entry_runs {w : World} {t e : TypeId} {R : Value → Option (DataW Value × List MemPlace)} {b : Nat} {es : Array MapEntry} {clock : Nat} (K : KeyLaw P k) (ht : P.underlying t = some (.map k e)) {z : Value} (hz : ∀ u : World, (zeroValue e).run P u = .ok z u) (hb : w.heap[b]? = some (.map es clock)) (F : Fit P k R es clock)
    {key : Value} {kl : Lit} (hkey : keyOf P k key = some kl) :
    (∃ v1, (Instr.mapEntry t (.map (some b)) key).run P w = .ok v1 (setBlock w b (.map (es.push ⟨key, z, clock⟩) (clock + 1))) ∧ (Instr.mapUpdate t (.map (some b)) key z).run P w = .ok () (setBlock w b (.map (es.push ⟨key, z, clock⟩) (clock + 1))) ∧ (Instr.lookup t (.map (some b)) key false).run P w = .ok z w) ∨
    (∃ v1, (Instr.mapEntry t (.map (some b)) key).run P w = .ok v1 (setBlock w b (.map es clock))) := by
  rcases K.find w hkey es.toList F.keys with ⟨h1, h2⟩ | ⟨j, e0, h1, h2, h3⟩
  · refine .inl ⟨.tuple #[z, goInt clock], ?_, ?_, ?_⟩
    · simp [Instr.mapEntry, run_underlying ht, MapKept.run_getObj_map hb, K.check w false hkey, h1, hz, MapKept.run_setObj_map _ hb, Result.andThen, setBlock]
    · simp [Instr.mapUpdate, run_underlying ht, MapKept.run_getObj_map hb, K.check w false hkey, h1, MapKept.run_setObj_map _ hb, Result.andThen, setBlock]
    · simp [Instr.lookup, run_underlying ht, MapKept.run_getObj_map hb, K.check w es.isEmpty hkey, h1, hz, Result.andThen]
  · have hj : es[j]? = some e0 := by simpa using h2
    have hsame : es.modify j (fun e => { e with key := key }) = es := by
      apply Array.ext'
      rw [Array.toList_modify, modify_eq_set _ _ _ _ h2]
      have : ({ e0 with key := key } : MapEntry) = e0 := by rw [← h3]
      rw [this]
      exact set_self _ _ _ h2
    exact .inr ⟨.tuple #[e0.val, goInt e0.born], by simp [Instr.mapEntry, run_underlying ht, MapKept.run_getObj_map hb, K.check w false hkey, h1, hj, h3, K.stays w hkey, hsame, MapKept.run_setObj_map _ hb, Result.andThen, setBlock]⟩
theorem MapAt.entry [DecidableEq α] {F : KeyF P k α} {w : World} {b n : Nat} {f : α → Option Value} (h : MapAt F w b n f) (KL : KeyLaw P k) {t e : TypeId} (ht : P.underlying t = some (.map k e)) {z : Value} (hz : ∀ u : World, (zeroValue e).run P u = .ok z u) (hn : n < maxLen) (a : α) :
    ∃ (v0 : Value) (st : Nat) (w1 : World), (Instr.mapEntry t (.map (some b)) (F.kv a)).run P w = .ok (.tuple #[v0, goInt st]) w1 ∧ (Instr.lookup t (.map (some b)) (F.kv a) false).run P w1 = .ok ((f a).getD z) w1 ∧ w.mapTurned w1 b ∧
      ∀ val, ∃ w2, (Instr.entryStore t (.map (some b)) (goInt st) val).run P w1 = .ok () w2 ∧ MapAt F w2 b (n + 1) (updF f a (some val)) ∧ w.mapTurned w2 b := by
  have K : Keyed P k := Keyed.of_law KL
  have h0 := h
  obtain ⟨D, hD⟩ := h
  obtain ⟨es, clock, hb, Fi, _⟩ := hD.owns
  obtain ⟨v0, st, es1, clock1, hent, _, hst⟩ := entry_then_store KL ht hz hb Fi (F.ok a)
  have hb1 : (setBlock w b (.map es1 clock1)).heap[b]? = some (.map es1 clock1) := heap_setBlock_same hb _
  have t1 : w.mapTurned (setBlock w b (.map es1 clock1)) b := ⟨es, clock, es1, clock1, hb, rfl⟩
  refine ⟨v0, st, _, hent, ?_, t1, fun val => ?_⟩
  · rcases entry_runs KL ht hz hb Fi (F.ok a) with ⟨v1, g1, g2, g3⟩ | ⟨v1, g1⟩
    · rw [hent] at g1
      simp only [Result.ok.injEq] at g1
      obtain ⟨w', hrun, hm, _⟩ := h0.store K ht hn a z
      rw [g2] at hrun
      simp only [Result.ok.injEq, true_and] at hrun
      have h3 := h0.look K ht (hz w) a
      rw [g3] at h3
      simp only [Result.ok.injEq, and_true] at h3
      rw [g1.2, hrun, hm.look K ht (hz _) a, ← h3]
      unfold updF
      simp
    · rw [hent] at g1
      simp only [Result.ok.injEq] at g1
      have hm : MapAt F (setBlock w b (.map es1 clock1)) b n f := by
        rw [g1.2]
        exact h0.block (by rw [heap_setBlock_same hb, hb])
      exact hm.look K ht (hz _) a
  · obtain ⟨es', clock', r1, r2⟩ := hst _ val hb1
    obtain ⟨w', hrun, hm, _⟩ := h0.store K ht hn a val
    rw [r2] at hrun
    simp only [Result.ok.injEq, true_and] at hrun
    refine ⟨_, r1, hm.block ?_, t1.trans ⟨es1, clock1, es', clock', hb1, rfl⟩⟩
    rw [← hrun, heap_setBlock_same hb1, heap_setBlock_same hb]
end
end Go.Proofs.Ytijjbfdbhfjfmaa
