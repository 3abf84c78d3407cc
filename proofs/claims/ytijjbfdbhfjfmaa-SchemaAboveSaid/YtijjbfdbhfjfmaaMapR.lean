/- Ranging over a map by keys of one's own, in whatever order. Condition: the key's type is one that the library knows. -/
import Derived.Test.YtijjbfdbhfjfmaaMapV
namespace Go.Proofs.Ytijjbfdbhfjfmaa
open Go.RowKit Go.Maps
section
variable {P : Program} {k : TypeId} {α : Type}
/-- Those of 'seen' are behind the range, one by one. -/
def RangeAt (F : KeyF P k α) (w : World) (b r n : Nat) (f : α → Option Value) (seen : List α) (cnt : Nat) : Prop :=
  ∃ D left, MapD F w b n D f ∧ w.ranges P k Rv b r n D left cnt ∧ seen.Nodup ∧ (∀ a ∈ seen, (f a).isSome = true) ∧ (∀ a, left (F.kl a) = true ↔ ((f a).isSome = true ∧ a ∉ seen)) ∧ ∀ l, left l = true → ∃ a, l = F.kl a
theorem MapAt.range {F : KeyF P k α} {w : World} {b n : Nat} {f : α → Option Value} (h : MapAt F w b n f) (K : Keyed P k) {t e : TypeId} (ht : P.underlying t = some (.map k e)) :
    ∃ w' cnt, (Instr.range t (.map (some b))).run P w = .ok (.pointer (some ⟨w.heap.size, 0, none⟩)) w' ∧ RangeAt F w' b w.heap.size n f [] cnt ∧ w.grownBy w' none ∧ w'.heap.size = w.heap.size + 1 := by
  obtain ⟨D, h⟩ := h
  obtain ⟨w', hrun, hr, hg, hs⟩ := h.owns.range K ht
  refine ⟨w', _, hrun, ⟨D, _, ⟨hr.owns, h.has, h.at', h.key, h.num⟩, hr, List.nodup_nil, by simp, fun a => ?_, h.key⟩, hg, hs⟩
  rw [h.has]; simp
theorem RangeAt.map {F : KeyF P k α} {w : World} {b r n : Nat} {f : α → Option Value} {seen : List α} {cnt : Nat} (h : RangeAt F w b r n f seen cnt) : MapAt F w b n f := by
  obtain ⟨D, left, h, _⟩ := h
  exact ⟨D, h⟩
theorem RangeAt.lt {F : KeyF P k α} {w : World} {b r n : Nat} {f : α → Option Value} {seen : List α} {cnt : Nat} (h : RangeAt F w b r n f seen cnt) : r < w.heap.size ∧ b < w.heap.size ∧ r ≠ b := by
  obtain ⟨D, left, h, hr, _⟩ := h
  exact ⟨hr.lt, h.owns.lt, hr.ne⟩
theorem RangeAt.kept {F : KeyF P k α} {w w' : World} {b r n : Nat} {f : α → Option Value} {seen : List α} {cnt : Nat} {row : Option Nat} (h : RangeAt F w b r n f seen cnt) (hg : w.grownBy w' row) (hb : some b ≠ row) (hr : some r ≠ row) : RangeAt F w' b r n f seen cnt := by
  obtain ⟨D, left, h, hr', h1⟩ := h
  exact ⟨D, left, ⟨h.owns.kept hg hb, h.has, h.at', h.key, h.num⟩, hr'.kept hg hb hr, h1⟩
/-- The step: nothing is left, or some key that is left, and what is at it, comes. -/
theorem RangeAt.next {F : KeyF P k α} {w : World} {b r n : Nat} {f : α → Option Value} {seen : List α} {cnt : Nat} (h : RangeAt F w b r n f seen cnt) (K : Keyed P k) (ty : TypeId) :
    ((∀ a, (f a).isSome = true → a ∈ seen) ∧ (Instr.next (.pointer (some ⟨r, 0, none⟩)) false ty).run P w = .ok (.tuple #[.bool false]) w) ∨
    ∃ a v w' cnt', f a = some v ∧ a ∉ seen ∧ (Instr.next (.pointer (some ⟨r, 0, none⟩)) false ty).run P w = .ok (.tuple #[.bool true, F.kv a, v]) w' ∧ RangeAt F w' b r n f (seen ++ [a]) cnt' ∧ cnt' < cnt ∧
      w.grownBy w' (some r) ∧ w'.heap.size = w.heap.size ∧ (Instr.entry (.pointer (some ⟨r, 0, none⟩))).run P w' = .ok (.tuple #[F.kv a, v]) w' := by
  obtain ⟨D, left, h, hr, hnd, hsn, hl, hk⟩ := h
  rcases hr.next K ty with ⟨h0, hl0, hrun⟩ | ⟨key, v, kl, y, w', cnt', hkey, hlk, hv, hat, hrun, hrg, hlt, hgr, hsz, hen⟩
  · refine .inl ⟨fun a ha => ?_, hrun⟩
    apply Classical.byContradiction
    intro hn
    have := (hl a).2 ⟨ha, hn⟩
    rw [hl0] at this; cases this
  · obtain ⟨a, rfl⟩ := hk kl hlk
    obtain rfl : key = F.kv a := K.inj hkey (F.ok a)
    have hla := (hl a).1 hlk
    obtain ⟨u, hu⟩ := Option.isSome_iff_exists.1 hla.1
    have h1 := h.at' a u hu (.held u)
    rw [hat] at h1
    have h2 : y = (.held v, []) := by simpa [Rv] using hv.symm
    rw [h2] at h1
    have huv : v = u := by simpa using h1
    subst huv
    refine .inr ⟨a, v, w', cnt', hu, hla.2, hrun, ⟨D, _, ⟨hrg.owns, h.has, h.at', h.key, h.num⟩, hrg, ?_, fun x hx => ?_, fun x => ?_, fun l hl' => ?_⟩, hlt, hgr, hsz, hen⟩
    · rw [List.nodup_append]
      refine ⟨hnd, by simp, fun x hx z hz => ?_⟩
      simp at hz
      intro e
      rw [e, hz] at hx
      exact hla.2 hx
    · rcases List.mem_append.1 hx with hx | hx
      · exact hsn x hx
      · simp at hx
        rw [hx]; exact hla.1
    · by_cases e : x = a
      · subst e
        rw [WideAt.sameKey_self (K.key hkey)]
        simp
      · rw [Maps.sameKey_ne (F.ne K e)]
        simp only [Bool.not_false, Bool.and_true, List.mem_append, List.mem_singleton, not_or]
        rw [hl x]
        exact ⟨fun ⟨p, q⟩ => ⟨p, q, e⟩, fun ⟨p, q, _⟩ => ⟨p, q⟩⟩
    · rw [Bool.and_eq_true] at hl'
      exact hk l hl'.1
end
end Go.Proofs.Ytijjbfdbhfjfmaa
