/- Plain ways among names: rounds, what is left where names to which no step leads are taken away, a table of ways. No condition. Plain: names to which no step leads are taken away, one by one: what is left is a round, or nothing. No condition. Plain: a table of ways, filled name by name. No condition. -/
import Derived.WalkKit
namespace Go.Proofs.YtmkillbanmbafaaGreat
section
variable {α : Type}
/-- A way of at least one step. -/
inductive Way (S : α → α → Prop) : α → α → Prop
  | one {a b : α} : S a b → Way S a b
  | more {a b c : α} : Way S a b → S b c → Way S a c
theorem Way.trans {S : α → α → Prop} {a b c : α} (h : Way S a b) (k : Way S b c) : Way S a c := by
  induction k with
  | one s => exact .more h s
  | more _ s ih => exact .more ih s
theorem Way.mono {S T : α → α → Prop} (h : ∀ a b, S a b → T a b) {a b : α} (w : Way S a b) : Way T a b := by
  induction w with
  | one s => exact .one (h _ _ s)
  | more _ s ih => exact .more ih (h _ _ s)
/-- The last step of a way. -/
theorem Way.last {S : α → α → Prop} {a c : α} (h : Way S a c) : ∃ b, S b c ∧ (a = b ∨ Way S a b) := by
  cases h with
  | one s => exact ⟨a, s, .inl rfl⟩
  | more w s => exact ⟨_, s, .inr w⟩
/-- The first step of a way. -/
theorem Way.first {S : α → α → Prop} {a c : α} (h : Way S a c) : ∃ b, S a b ∧ (b = c ∨ Way S b c) := by
  induction h with
  | one s => exact ⟨_, s, .inl rfl⟩
  | more _ s ih =>
    obtain ⟨b, h1, h2⟩ := ih
    refine ⟨b, h1, .inr ?_⟩
    rcases h2 with rfl | h2
    · exact .one s
    · exact .more h2 s
/-- Of what lies on a round there is a step to it from what lies on a round. -/
theorem round_back {S : α → α → Prop} {a : α} (h : Way S a a) : ∃ b, S b a ∧ Way S b b := by
  obtain ⟨b, s, rfl | w⟩ := h.last
  · exact ⟨a, s, h⟩
  · exact ⟨b, s, (Way.one s).trans w⟩
theorem len_sub [DecidableEq α] : ∀ (l m : List α), l.Nodup → (∀ x ∈ l, x ∈ m) → l.length ≤ m.length
  | [], m, _, _ => Nat.zero_le _
  | x :: l, m, hn, hs => by
    have hx := hs x (by simp)
    have hn' := List.nodup_cons.1 hn
    have := len_sub l (m.erase x) hn'.2 (fun y hy => by
      have hne : y ≠ x := fun e => hn'.1 (e ▸ hy)
      exact (List.mem_erase_of_ne hne).2 (hs y (by simp [hy])))
    rw [List.length_erase_of_mem hx] at this
    have hp := List.length_pos_of_mem hx
    simp only [List.length_cons]; omega
/-- Where each name has a step to it from another one, some way goes round. -/
theorem round_left [DecidableEq α] {S : α → α → Prop} (M : List α) (hM : M ≠ []) (h : ∀ n ∈ M, ∃ m ∈ M, S m n) : ∃ a ∈ M, Way S a a := by
  obtain ⟨x0, hx0⟩ := List.exists_mem_of_ne_nil M hM
  -- a row of names, each with a step to the one ahead of it
  have row : ∀ k : Nat, ∃ l : List α, l.length = k + 1 ∧ (∀ x ∈ l, x ∈ M) ∧ ∀ i (hi : i + 1 < l.length), S (l[i]'(by omega)) (l[i + 1]) := by
    intro k
    induction k with
    | zero => exact ⟨[x0], rfl, by simpa using hx0, fun i hi => by simp at hi⟩
    | succ k ih =>
      obtain ⟨l, hl, hm, hs⟩ := ih
      match l, hl with
      | y :: r, hl =>
        obtain ⟨z, hz, hzy⟩ := h y (hm y (by simp))
        refine ⟨z :: y :: r, by simp at hl ⊢; omega, fun x hx => ?_, fun i hi => ?_⟩
        · rcases List.mem_cons.1 hx with rfl | hx
          · exact hz
          · exact hm x hx
        · match i with
          | 0 => exact hzy
          | i + 1 => exact hs i (by simpa using hi)
  obtain ⟨l, hl, hm, hs⟩ := row M.length
  have hnd : ¬ l.Nodup := fun hn => by have := len_sub l M hn hm; omega
  have way : ∀ i j (hj : j < l.length) (hij : i < j), Way S (l[i]'(by omega)) (l[j]) := by
    intro i j
    induction j with
    | zero => intro _ h; omega
    | succ j ih =>
      intro hj hij
      rcases Nat.lt_or_ge i j with h1 | h1
      · exact .more (ih (by omega) h1) (hs j hj)
      · have : i = j := by omega
        subst this
        exact .one (hs i hj)
  have : ∃ i j, ∃ (hi : i < l.length) (hj : j < l.length), i < j ∧ l[i] = l[j] := by
    apply Classical.byContradiction
    intro hno
    apply hnd
    rw [List.nodup_iff_pairwise_ne, List.pairwise_iff_getElem]
    intro i j hi hj hij e
    exact hno ⟨i, j, hi, hj, hij, e⟩
  obtain ⟨i, j, hi, hj, hij, e⟩ := this
  refine ⟨l[i], hm _ (List.getElem_mem hi), ?_⟩
  have w := way i j hj hij
  rwa [← e] at w
/-! ### A table of ways -/
/-- A way whose names between are among the first k (by number). -/
inductive Thru (S : Nat → Nat → Prop) (k : Nat) : Nat → Nat → Prop
  | one {a b : Nat} : S a b → Thru S k a b
  | more {a b c : Nat} : Thru S k a b → b < k → Thru S k b c → Thru S k a c
theorem Thru.up {S : Nat → Nat → Prop} {k m : Nat} (hk : k ≤ m) {a b : Nat} (h : Thru S k a b) : Thru S m a b := by
  induction h with
  | one s => exact .one s
  | more _ hb _ i1 i2 => exact .more i1 (by omega) i2
theorem Thru.way {S : Nat → Nat → Prop} {k a b : Nat} (h : Thru S k a b) : Way S a b := by
  induction h with
  | one s => exact .one s
  | more _ _ _ i1 i2 => exact i1.trans i2
/-- With one name more between: as before, or by that name. -/
theorem Thru.split {S : Nat → Nat → Prop} {k a b : Nat} (h : Thru S (k + 1) a b) : Thru S k a b ∨ (Thru S k a k ∧ Thru S k k b) := by
  induction h with
  | one s => exact .inl (.one s)
  | @more a b c h1 hb h2 i1 i2 =>
    rcases Nat.lt_or_ge b k with hlt | hge
    · rcases i1 with i1 | ⟨i1, i1'⟩
      · rcases i2 with i2 | ⟨i2, i2'⟩
        · exact .inl (.more i1 hlt i2)
        · exact .inr ⟨.more i1 hlt i2, i2'⟩
      · rcases i2 with i2 | ⟨i2, i2'⟩
        · exact .inr ⟨i1, .more i1' hlt i2⟩
        · exact .inr ⟨i1, i2'⟩
    · have hbk : b = k := by omega
      subst hbk
      have t1 : Thru S b a b := by rcases i1 with i1 | ⟨i1, _⟩ <;> exact i1
      have t2 : Thru S b b c := by rcases i2 with i2 | ⟨_, i2⟩ <;> exact i2
      exact .inr ⟨t1, t2⟩
/-- Where all names are below n, each way goes through such alone. -/
theorem Thru.of_way {S : Nat → Nat → Prop} {n : Nat} (hS : ∀ a b, S a b → a < n ∧ b < n) {a b : Nat} (h : Way S a b) : Thru S n a b := by
  induction h with
  | one s => exact .one s
  | more w s ih => exact .more ih (hS _ _ s).1 (.one s)
end
end Go.Proofs.YtmkillbanmbafaaGreat
namespace Go.Proofs.YtmkillbanmbafaaGreat
section
variable {α : Type} [DecidableEq α]
/-- How many steps lead to a name from those that are left. -/
def occ (P : α → List α) (M : List α) (n : α) : Nat := (M.flatMap P).count n
theorem occ_pos {P : α → List α} {M : List α} {n : α} : 0 < occ P M n ↔ ∃ m ∈ M, n ∈ P m := by
  unfold occ
  rw [List.count_pos_iff, List.mem_flatMap]
theorem occ_erase {P : α → List α} {M : List α} {x : α} (hx : x ∈ M) (n : α) : occ P M n = (P x).count n + occ P (M.erase x) n := by
  unfold occ
  have h := (List.perm_cons_erase hx).flatMap_right P
  rw [h.count_eq, List.flatMap_cons, List.count_append]
theorem occ_erase_not {P : α → List α} {M : List α} {x : α} (hx : x ∉ M) (n : α) : occ P M n = occ P (M.erase x) n := by
  rw [List.erase_of_not_mem hx]
/-- Where the taking away stands: c: the counts; L: names to be taken away. -/
structure Kahn (P : α → List α) (K M L : List α) (c : α → Int) : Prop where
  cnt : ∀ n, c n = (occ P M n : Int)
  low : ∀ n ∈ M, c n = 0 → n ∈ L
  nil : ∀ n ∈ L, c n = 0
  rnd : ∀ a, Way (fun x y => x ∈ K ∧ y ∈ P x ∧ y ∈ K) a a → a ∈ M
  sub : ∀ n ∈ M, n ∈ K
theorem Kahn.start {P : α → List α} {K L : List α} {c : α → Int} (h1 : ∀ n, c n = (occ P K n : Int)) (h2 : ∀ n, n ∈ L ↔ n ∈ K ∧ c n = 0) : Kahn P K K L c :=
  ⟨h1, fun n hn h0 => (h2 n).2 ⟨hn, h0⟩, fun n hn => ((h2 n).1 hn).2, fun a w => by
    obtain ⟨b, ⟨h, _, _⟩, _⟩ := w.first
    exact h, fun _ h => h⟩
/-- Where the inner loop stands: j parents of the name are behind it. -/
structure KahnIn (P : α → List α) (K M L : List α) (c : α → Int) (x : α) (j : Nat) : Prop where
  cnt : ∀ n, c n = (occ P (M.erase x) n : Int) + ((if x ∈ M then (P x).drop j else []).count n : Int)
  low : ∀ n ∈ M.erase x, c n = 0 → n ∈ L
  nil : ∀ n ∈ L, c n = 0
  rnd : ∀ a, Way (fun x y => x ∈ K ∧ y ∈ P x ∧ y ∈ K) a a → a ∈ M.erase x
  sub : ∀ n ∈ M.erase x, n ∈ K
/-- The last name of the row is taken up. -/
theorem Kahn.take {P : α → List α} {K M L : List α} {c : α → Int} {x : α} (hM : M.Nodup) (h : Kahn P K M (L ++ [x]) c) : KahnIn P K M L c x 0 := by
  have hx : occ P M x = 0 := by
    have h1 := h.nil x (by simp)
    rw [h.cnt] at h1
    omega
  refine ⟨fun n => ?_, fun n hn h0 => ?_, fun n hn => h.nil n (by simp [hn]), fun a w => ?_, fun n hn => h.sub n (List.mem_of_mem_erase hn)⟩
  · rw [h.cnt, List.drop_zero]
    split
    · rename_i hm
      rw [occ_erase hm]; omega
    · rename_i hm
      rw [occ_erase_not hm]; simp
  · have := h.low n (List.mem_of_mem_erase hn) h0
    rw [List.mem_append] at this
    rcases this with h1 | h1
    · exact h1
    · simp at h1
      subst h1
      exact absurd hn (by rw [hM.mem_erase_iff]; simp)
  · have ha := h.rnd a w
    have hne : a ≠ x := by
      intro e
      subst e
      obtain ⟨b, ⟨hb, hp, _⟩, hw⟩ := round_back w
      have := (occ_pos (P := P) (M := M) (n := a)).2 ⟨b, h.rnd b hw, hp⟩
      omega
    exact (List.mem_erase_of_ne hne).2 ha
/-- One parent: its count falls by one; at nought it joins the row. -/
theorem KahnIn.step {P : α → List α} {K M L : List α} {c : α → Int} {x : α} {j : Nat} (h : KahnIn P K M L c x j) (hx : x ∈ M) (hj : j < (P x).length) :
    KahnIn P K M (if c (P x)[j] - 1 = 0 then L ++ [(P x)[j]] else L) (fun n => if n = (P x)[j] then c n - 1 else c n) x (j + 1) := by
  have hd : (P x).drop j = (P x)[j] :: (P x).drop (j + 1) := List.drop_eq_getElem_cons hj
  obtain ⟨p, hp⟩ : ∃ p, (P x)[j] = p := ⟨_, rfl⟩
  rw [hp] at hd ⊢
  have hc := h.cnt
  simp only [if_pos hx, hd, List.count_cons] at hc
  refine ⟨fun n => ?_, fun n hn h0 => ?_, fun n hn => ?_, h.rnd, h.sub⟩
  · simp only [if_pos hx]
    have := hc n
    by_cases e : n = p
    · rw [if_pos e, this, e]; simp; omega
    · rw [if_neg e, this]
      have : (p == n) = false := by simpa using fun e2 => e e2.symm
      simp [this]
  · by_cases e : n = p
    · rw [if_pos e] at h0
      rw [e] at h0
      rw [if_pos h0, e]; simp
    · rw [if_neg e] at h0
      have := h.low n hn h0
      split
      · simp [this]
      · exact this
  · have old : n ∈ L → (if n = p then c n - 1 else c n) = 0 := fun hn => by
      have h1 := h.nil n hn
      have h2 := hc n
      by_cases e : n = p
      · rw [h1, e] at h2
        simp at h2
        omega
      · rw [if_neg e]; exact h1
    by_cases e0 : c p - 1 = 0
    · rw [if_pos e0] at hn
      rcases List.mem_append.1 hn with hn | hn
      · exact old hn
      · simp at hn
        rw [if_pos hn, hn]; exact e0
    · rw [if_neg e0] at hn
      exact old hn
/-- Behind the inner loop the name is taken away. -/
theorem KahnIn.done {P : α → List α} {K M L : List α} {c : α → Int} {x : α} {j : Nat} (h : KahnIn P K M L c x j) (hj : x ∈ M → (P x).length ≤ j) : Kahn P K (M.erase x) L c := by
  refine ⟨fun n => ?_, h.low, h.nil, h.rnd, h.sub⟩
  rw [h.cnt]
  split
  · rename_i hx
    rw [List.drop_eq_nil_of_le (hj hx)]; simp
  · simp
/-- Where none is to be taken away, something is left just if some way goes round. -/
theorem Kahn.fin {P : α → List α} {K M : List α} {c : α → Int} (h : Kahn P K M [] c) : M ≠ [] ↔ ∃ a, Way (fun x y => x ∈ K ∧ y ∈ P x ∧ y ∈ K) a a := by
  constructor
  · intro hM
    have hp : ∀ n ∈ M, ∃ m ∈ M, (m ∈ K ∧ n ∈ P m ∧ n ∈ K) := fun n hn => by
      have h0 : c n ≠ 0 := fun e => by have := h.low n hn e; simp at this
      rw [h.cnt] at h0
      obtain ⟨m, hm, hq⟩ := occ_pos.1 (show 0 < occ P M n by omega)
      exact ⟨m, hm, h.sub m hm, hq, h.sub n hn⟩
    obtain ⟨a, _, w⟩ := round_left (S := fun x y => x ∈ K ∧ y ∈ P x ∧ y ∈ K) M hM hp
    exact ⟨a, w⟩
  · rintro ⟨a, w⟩ e
    have := h.rnd a w
    rw [e] at this; simp at this
end
end Go.Proofs.YtmkillbanmbafaaGreat
namespace Go.Proofs.YtmkillbanmbafaaGreat
theorem Thru.within {S : Nat → Nat → Prop} {n k a b : Nat} (hS : ∀ a b, S a b → a < n ∧ b < n) (h : Thru S k a b) : a < n ∧ b < n := by
  induction h with
  | one s => exact hS _ _ s
  | more _ _ _ i1 i2 => exact ⟨i1.1, i2.2⟩
/-- Where the filling stands: with the first k names between all ways are in the table; what is in it goes by the first k + 1; the rows ahead of i, and row i up to j, are done for these. -/
structure War (S : Nat → Nat → Prop) (k i j : Nat) (T : Nat → Nat → Bool) : Prop where
  old : ∀ a b, Thru S k a b → T a b = true
  new : ∀ a b, T a b = true → Thru S (k + 1) a b
  done : ∀ a b, (a < i ∨ (a = i ∧ b < j)) → Thru S (k + 1) a b → T a b = true
theorem War.start {S : Nat → Nat → Prop} {T : Nat → Nat → Bool} (h : ∀ a b, T a b = true ↔ S a b) : War S 0 0 0 T where
  old := fun a b t => by
    cases t with
    | one s => exact (h a b).2 s
    | more _ hb _ => exact absurd hb (Nat.not_lt_zero _)
  new := fun a b t => .one ((h a b).1 t)
  done := fun a b hd _ => by omega
theorem War.step {S : Nat → Nat → Prop} {k i j : Nat} {T : Nat → Nat → Bool} (h : War S k i j T) (T' : Nat → Nat → Bool) (hT : ∀ a b, T' a b = if a = i ∧ b = j then (T i j || (T i k && T k j)) else T a b) : War S k i (j + 1) T' where
  old := fun a b t => by
    have := h.old a b t
    rw [hT]
    split
    · rename_i e
      rw [← e.1, ← e.2, this]; rfl
    · exact this
  new := fun a b t => by
    rw [hT] at t
    split at t
    · rename_i e
      obtain ⟨rfl, rfl⟩ := e
      rw [Bool.or_eq_true, Bool.and_eq_true] at t
      rcases t with t | ⟨t1, t2⟩
      · exact h.new _ _ t
      · exact .more (h.new _ _ t1) (Nat.lt_succ_self k) (h.new _ _ t2)
    · exact h.new _ _ t
  done := fun a b hd t => by
    rw [hT]
    split
    · rename_i e
      obtain ⟨rfl, rfl⟩ := e
      rcases t.split with t | ⟨t1, t2⟩
      · rw [h.old _ _ t]; rfl
      · rw [h.old _ _ t1, h.old _ _ t2]; simp
    · rename_i e
      refine h.done a b ?_ t
      rcases hd with hd | ⟨rfl, hb⟩
      · exact .inl hd
      · refine .inr ⟨rfl, ?_⟩
        rcases Nat.lt_or_ge b j with h1 | h1
        · exact h1
        · exact absurd ⟨rfl, by omega⟩ e
theorem War.row {S : Nat → Nat → Prop} {n k i j : Nat} {T : Nat → Nat → Bool} (hS : ∀ a b, S a b → a < n ∧ b < n) (h : War S k i j T) (hj : n ≤ j) : War S k (i + 1) 0 T where
  old := h.old
  new := h.new
  done := fun a b hd t => h.done a b (by
    have := (t.within hS).2
    rcases hd with hd | hd
    · rcases Nat.lt_or_ge a i with h1 | h1
      · exact .inl h1
      · exact .inr ⟨by omega, by omega⟩
    · omega) t
theorem War.next {S : Nat → Nat → Prop} {n k i j : Nat} {T : Nat → Nat → Bool} (hS : ∀ a b, S a b → a < n ∧ b < n) (h : War S k i j T) (hi : n ≤ i) : War S (k + 1) 0 0 T where
  old := fun a b t => h.done a b (.inl (by have := (t.within hS).1; omega)) t
  new := fun a b t => (h.new a b t).up (by omega)
  done := fun a b hd _ => by omega
theorem War.fin {S : Nat → Nat → Prop} {n k : Nat} {T : Nat → Nat → Bool} (hS : ∀ a b, S a b → a < n ∧ b < n) (h : War S k 0 0 T) (hk : n ≤ k) (a b : Nat) : T a b = true ↔ Way S a b :=
  ⟨fun t => (h.new a b t).way, fun w => h.old a b ((Thru.of_way hS w).up hk)⟩
end Go.Proofs.YtmkillbanmbafaaGreat
