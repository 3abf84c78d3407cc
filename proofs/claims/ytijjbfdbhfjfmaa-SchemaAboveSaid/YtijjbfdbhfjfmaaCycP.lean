/- Plain ways among names: rounds, what is left where names to which no step leads are taken away, a table of ways. No condition. -/
import Derived.WalkKit
namespace Go.Proofs.Ytijjbfdbhfjfmaa
section
variable {α : Type}
/-- A way of at least one step. -/
inductive Way (S : α → α → Prop) : α → α → Prop
  | one {a b : α} : S a b → Way S a b
  | more {a b c : α} : Way S a b → S b c → Way S a c
theorem Way.trans {S : α → α → Prop} {a b c : α} (h : Way S a b) (k : Way S b c) : Way S a c := by
  induction k with
  | one s => exact .more h s
  | more _ s ih => exact .more ih s
theorem Way.mono {S T : α → α → Prop} (h : ∀ a b, S a b → T a b) {a b : α} (w : Way S a b) : Way T a b := by
  induction w with
  | one s => exact .one (h _ _ s)
  | more _ s ih => exact .more ih (h _ _ s)
/-- The last step of a way. -/
theorem Way.last {S : α → α → Prop} {a c : α} (h : Way S a c) : ∃ b, S b c ∧ (a = b ∨ Way S a b) := by
  cases h with
  | one s => exact ⟨a, s, .inl rfl⟩
  | more w s => exact ⟨_, s, .inr w⟩
/-- The first step of a way. -/
theorem Way.first {S : α → α → Prop} {a c : α} (h : Way S a c) : ∃ b, S a b ∧ (b = c ∨ Way S b c) := by
  induction h with
  | one s => exact ⟨_, s, .inl rfl⟩
  | more _ s ih =>
    obtain ⟨b, h1, h2⟩ := ih
    refine ⟨b, h1, .inr ?_⟩
    rcases h2 with rfl | h2
    · exact .one s
    · exact .more h2 s
/-- Of what lies on a round there is a step to it from what lies on a round. -/
theorem round_back {S : α → α → Prop} {a : α} (h : Way S a a) : ∃ b, S b a ∧ Way S b b := by
  obtain ⟨b, s, rfl | w⟩ := h.last
  · exact ⟨a, s, h⟩
  · exact ⟨b, s, (Way.one s).trans w⟩
theorem len_sub [DecidableEq α] : ∀ (l m : List α), l.Nodup → (∀ x ∈ l, x ∈ m) → l.length ≤ m.length
  | [], m, _, _ => Nat.zero_le _
  | x :: l, m, hn, hs => by
    have hx := hs x (by simp)
    have hn' := List.nodup_cons.1 hn
    have := len_sub l (m.erase x) hn'.2 (fun y hy => by
      have hne : y ≠ x := fun e => hn'.1 (e ▸ hy)
      exact (List.mem_erase_of_ne hne).2 (hs y (by simp [hy])))
    rw [List.length_erase_of_mem hx] at this
    have hp := List.length_pos_of_mem hx
    simp only [List.length_cons]; omega
/-- Where each name has a step to it from another one, some way goes round. -/
theorem round_left [DecidableEq α] {S : α → α → Prop} (M : List α) (hM : M ≠ []) (h : ∀ n ∈ M, ∃ m ∈ M, S m n) : ∃ a ∈ M, Way S a a := by
  obtain ⟨x0, hx0⟩ := List.exists_mem_of_ne_nil M hM
  -- a row of names, each with a step to the one ahead of it
  have row : ∀ k : Nat, ∃ l : List α, l.length = k + 1 ∧ (∀ x ∈ l, x ∈ M) ∧ ∀ i (hi : i + 1 < l.length), S (l[i]'(by omega)) (l[i + 1]) := by
    intro k
    induction k with
    | zero => exact ⟨[x0], rfl, by simpa using hx0, fun i hi => by simp at hi⟩
    | succ k ih =>
      obtain ⟨l, hl, hm, hs⟩ := ih
      match l, hl with
      | y :: r, hl =>
        obtain ⟨z, hz, hzy⟩ := h y (hm y (by simp))
        refine ⟨z :: y :: r, by simp at hl ⊢; omega, fun x hx => ?_, fun i hi => ?_⟩
        · rcases List.mem_cons.1 hx with rfl | hx
          · exact hz
          · exact hm x hx
        · match i with
          | 0 => exact hzy
          | i + 1 => exact hs i (by simpa using hi)
  obtain ⟨l, hl, hm, hs⟩ := row M.length
  have hnd : ¬ l.Nodup := fun hn => by have := len_sub l M hn hm; omega
  have way : ∀ i j (hj : j < l.length) (hij : i < j), Way S (l[i]'(by omega)) (l[j]) := by
    intro i j
    induction j with
    | zero => intro _ h; omega
    | succ j ih =>
      intro hj hij
      rcases Nat.lt_or_ge i j with h1 | h1
      · exact .more (ih (by omega) h1) (hs j hj)
      · have : i = j := by omega
        subst this
        exact .one (hs i hj)
  have : ∃ i j, ∃ (hi : i < l.length) (hj : j < l.length), i < j ∧ l[i] = l[j] := by
    apply Classical.byContradiction
    intro hno
    apply hnd
    rw [List.nodup_iff_pairwise_ne, List.pairwise_iff_getElem]
    intro i j hi hj hij e
    exact hno ⟨i, j, hi, hj, hij, e⟩
  obtain ⟨i, j, hi, hj, hij, e⟩ := this
  refine ⟨l[i], hm _ (List.getElem_mem hi), ?_⟩
  have w := way i j hj hij
  rwa [← e] at w
/-! ### A table of ways -/
/-- A way whose names between are among the first k (by number). -/
inductive Thru (S : Nat → Nat → Prop) (k : Nat) : Nat → Nat → Prop
  | one {a b : Nat} : S a b → Thru S k a b
  | more {a b c : Nat} : Thru S k a b → b < k → Thru S k b c → Thru S k a c
theorem Thru.up {S : Nat → Nat → Prop} {k m : Nat} (hk : k ≤ m) {a b : Nat} (h : Thru S k a b) : Thru S m a b := by
  induction h with
  | one s => exact .one s
  | more _ hb _ i1 i2 => exact .more i1 (by omega) i2
theorem Thru.way {S : Nat → Nat → Prop} {k a b : Nat} (h : Thru S k a b) : Way S a b := by
  induction h with
  | one s => exact .one s
  | more _ _ _ i1 i2 => exact i1.trans i2
/-- With one name more between: as before, or by that name. -/
theorem Thru.split {S : Nat → Nat → Prop} {k a b : Nat} (h : Thru S (k + 1) a b) : Thru S k a b ∨ (Thru S k a k ∧ Thru S k k b) := by
  induction h with
  | one s => exact .inl (.one s)
  | @more a b c h1 hb h2 i1 i2 =>
    rcases Nat.lt_or_ge b k with hlt | hge
    · rcases i1 with i1 | ⟨i1, i1'⟩
      · rcases i2 with i2 | ⟨i2, i2'⟩
        · exact .inl (.more i1 hlt i2)
        · exact .inr ⟨.more i1 hlt i2, i2'⟩
      · rcases i2 with i2 | ⟨i2, i2'⟩
        · exact .inr ⟨i1, .more i1' hlt i2⟩
        · exact .inr ⟨i1, i2'⟩
    · have hbk : b = k := by omega
      subst hbk
      have t1 : Thru S b a b := by rcases i1 with i1 | ⟨i1, _⟩ <;> exact i1
      have t2 : Thru S b b c := by rcases i2 with i2 | ⟨_, i2⟩ <;> exact i2
      exact .inr ⟨t1, t2⟩
/-- Where all names are below n, each way goes through such alone. -/
theorem Thru.of_way {S : Nat → Nat → Prop} {n : Nat} (hS : ∀ a b, S a b → a < n ∧ b < n) {a b : Nat} (h : Way S a b) : Thru S n a b := by
  induction h with
  | one s => exact .one s
  | more w s ih => exact .more ih (hS _ _ s).1 (.one s)
end
end Go.Proofs.Ytijjbfdbhfjfmaa
