/- Plain ways among names: rounds, what is left where names to which no step leads are taken away, a table of ways. No condition. Plain: names to which no step leads are taken away, one by one: what is left is a round, or nothing. No condition. Plain: rows of names under names; what is reached of a name; a list that grows while it is gone through. No condition. Plain: names to which no step leads are taken away in a list that grows while it is gone through. No condition. -/
import Derived.WalkKit
namespace Go.Proofs.Ytijjbfdbhfjfmaa
section
variable {α : Type}
/-- A way of at least one step. -/
inductive Way (S : α → α → Prop) : α → α → Prop
  | one {a b : α} : S a b → Way S a b
  | more {a b c : α} : Way S a b → S b c → Way S a c
theorem Way.trans {S : α → α → Prop} {a b c : α} (h : Way S a b) (k : Way S b c) : Way S a c := by
  induction k with
  | one s => exact .more h s
  | more _ s ih => exact .more ih s
theorem Way.mono {S T : α → α → Prop} (h : ∀ a b, S a b → T a b) {a b : α} (w : Way S a b) : Way T a b := by
  induction w with
  | one s => exact .one (h _ _ s)
  | more _ s ih => exact .more ih (h _ _ s)
/-- The last step of a way. -/
theorem Way.last {S : α → α → Prop} {a c : α} (h : Way S a c) : ∃ b, S b c ∧ (a = b ∨ Way S a b) := by
  cases h with
  | one s => exact ⟨a, s, .inl rfl⟩
  | more w s => exact ⟨_, s, .inr w⟩
/-- The first step of a way. -/
theorem Way.first {S : α → α → Prop} {a c : α} (h : Way S a c) : ∃ b, S a b ∧ (b = c ∨ Way S b c) := by
  induction h with
  | one s => exact ⟨_, s, .inl rfl⟩
  | more _ s ih =>
    obtain ⟨b, h1, h2⟩ := ih
    refine ⟨b, h1, .inr ?_⟩
    rcases h2 with rfl | h2
    · exact .one s
    · exact .more h2 s
/-- Of what lies on a round there is a step to it from what lies on a round. -/
theorem round_back {S : α → α → Prop} {a : α} (h : Way S a a) : ∃ b, S b a ∧ Way S b b := by
  obtain ⟨b, s, rfl | w⟩ := h.last
  · exact ⟨a, s, h⟩
  · exact ⟨b, s, (Way.one s).trans w⟩
theorem len_sub [DecidableEq α] : ∀ (l m : List α), l.Nodup → (∀ x ∈ l, x ∈ m) → l.length ≤ m.length
  | [], m, _, _ => Nat.zero_le _
  | x :: l, m, hn, hs => by
    have hx := hs x (by simp)
    have hn' := List.nodup_cons.1 hn
    have := len_sub l (m.erase x) hn'.2 (fun y hy => by
      have hne : y ≠ x := fun e => hn'.1 (e ▸ hy)
      exact (List.mem_erase_of_ne hne).2 (hs y (by simp [hy])))
    rw [List.length_erase_of_mem hx] at this
    have hp := List.length_pos_of_mem hx
    simp only [List.length_cons]; omega
/-- Where each name has a step to it from another one, some way goes round. -/
theorem round_left [DecidableEq α] {S : α → α → Prop} (M : List α) (hM : M ≠ []) (h : ∀ n ∈ M, ∃ m ∈ M, S m n) : ∃ a ∈ M, Way S a a := by
  obtain ⟨x0, hx0⟩ := List.exists_mem_of_ne_nil M hM
  -- a row of names, each with a step to the one ahead of it
  have row : ∀ k : Nat, ∃ l : List α, l.length = k + 1 ∧ (∀ x ∈ l, x ∈ M) ∧ ∀ i (hi : i + 1 < l.length), S (l[i]'(by omega)) (l[i + 1]) := by
    intro k
    induction k with
    | zero => exact ⟨[x0], rfl, by simpa using hx0, fun i hi => by simp at hi⟩
    | succ k ih =>
      obtain ⟨l, hl, hm, hs⟩ := ih
      match l, hl with
      | y :: r, hl =>
        obtain ⟨z, hz, hzy⟩ := h y (hm y (by simp))
        refine ⟨z :: y :: r, by simp at hl ⊢; omega, fun x hx => ?_, fun i hi => ?_⟩
        · rcases List.mem_cons.1 hx with rfl | hx
          · exact hz
          · exact hm x hx
        · match i with
          | 0 => exact hzy
          | i + 1 => exact hs i (by simpa using hi)
  obtain ⟨l, hl, hm, hs⟩ := row M.length
  have hnd : ¬ l.Nodup := fun hn => by have := len_sub l M hn hm; omega
  have way : ∀ i j (hj : j < l.length) (hij : i < j), Way S (l[i]'(by omega)) (l[j]) := by
    intro i j
    induction j with
    | zero => intro _ h; omega
    | succ j ih =>
      intro hj hij
      rcases Nat.lt_or_ge i j with h1 | h1
      · exact .more (ih (by omega) h1) (hs j hj)
      · have : i = j := by omega
        subst this
        exact .one (hs i hj)
  have : ∃ i j, ∃ (hi : i < l.length) (hj : j < l.length), i < j ∧ l[i] = l[j] := by
    apply Classical.byContradiction
    intro hno
    apply hnd
    rw [List.nodup_iff_pairwise_ne, List.pairwise_iff_getElem]
    intro i j hi hj hij e
    exact hno ⟨i, j, hi, hj, hij, e⟩
  obtain ⟨i, j, hi, hj, hij, e⟩ := this
  refine ⟨l[i], hm _ (List.getElem_mem hi), ?_⟩
  have w := way i j hj hij
  rwa [← e] at w
/-! ### A table of ways -/
/-- A way whose names between are among the first k (by number). -/
inductive Thru (S : Nat → Nat → Prop) (k : Nat) : Nat → Nat → Prop
  | one {a b : Nat} : S a b → Thru S k a b
  | more {a b c : Nat} : Thru S k a b → b < k → Thru S k b c → Thru S k a c
theorem Thru.up {S : Nat → Nat → Prop} {k m : Nat} (hk : k ≤ m) {a b : Nat} (h : Thru S k a b) : Thru S m a b := by
  induction h with
  | one s => exact .one s
  | more _ hb _ i1 i2 => exact .more i1 (by omega) i2
theorem Thru.way {S : Nat → Nat → Prop} {k a b : Nat} (h : Thru S k a b) : Way S a b := by
  induction h with
  | one s => exact .one s
  | more _ _ _ i1 i2 => exact i1.trans i2
/-- With one name more between: as before, or by that name. -/
theorem Thru.split {S : Nat → Nat → Prop} {k a b : Nat} (h : Thru S (k + 1) a b) : Thru S k a b ∨ (Thru S k a k ∧ Thru S k k b) := by
  induction h with
  | one s => exact .inl (.one s)
  | @more a b c h1 hb h2 i1 i2 =>
    rcases Nat.lt_or_ge b k with hlt | hge
    · rcases i1 with i1 | ⟨i1, i1'⟩
      · rcases i2 with i2 | ⟨i2, i2'⟩
        · exact .inl (.more i1 hlt i2)
        · exact .inr ⟨.more i1 hlt i2, i2'⟩
      · rcases i2 with i2 | ⟨i2, i2'⟩
        · exact .inr ⟨i1, .more i1' hlt i2⟩
        · exact .inr ⟨i1, i2'⟩
    · have hbk : b = k := by omega
      subst hbk
      have t1 : Thru S b a b := by rcases i1 with i1 | ⟨i1, _⟩ <;> exact i1
      have t2 : Thru S b b c := by rcases i2 with i2 | ⟨_, i2⟩ <;> exact i2
      exact .inr ⟨t1, t2⟩
/-- Where all names are below n, each way goes through such alone. -/
theorem Thru.of_way {S : Nat → Nat → Prop} {n : Nat} (hS : ∀ a b, S a b → a < n ∧ b < n) {a b : Nat} (h : Way S a b) : Thru S n a b := by
  induction h with
  | one s => exact .one s
  | more w s ih => exact .more ih (hS _ _ s).1 (.one s)
end
end Go.Proofs.Ytijjbfdbhfjfmaa
namespace Go.Proofs.Ytijjbfdbhfjfmaa
section
variable {α : Type} [DecidableEq α]
/-- How many steps lead to a name from those that are left. -/
def occ (P : α → List α) (M : List α) (n : α) : Nat := (M.flatMap P).count n
theorem occ_pos {P : α → List α} {M : List α} {n : α} : 0 < occ P M n ↔ ∃ m ∈ M, n ∈ P m := by
  unfold occ
  rw [List.count_pos_iff, List.mem_flatMap]
theorem occ_erase {P : α → List α} {M : List α} {x : α} (hx : x ∈ M) (n : α) : occ P M n = (P x).count n + occ P (M.erase x) n := by
  unfold occ
  have h := (List.perm_cons_erase hx).flatMap_right P
  rw [h.count_eq, List.flatMap_cons, List.count_append]
theorem occ_erase_not {P : α → List α} {M : List α} {x : α} (hx : x ∉ M) (n : α) : occ P M n = occ P (M.erase x) n := by
  rw [List.erase_of_not_mem hx]
/-- Where the taking away stands: c: the counts; L: names to be taken away. -/
structure Kahn (P : α → List α) (K M L : List α) (c : α → Int) : Prop where
  cnt : ∀ n, c n = (occ P M n : Int)
  low : ∀ n ∈ M, c n = 0 → n ∈ L
  nil : ∀ n ∈ L, c n = 0
  rnd : ∀ a, Way (fun x y => x ∈ K ∧ y ∈ P x ∧ y ∈ K) a a → a ∈ M
  sub : ∀ n ∈ M, n ∈ K
theorem Kahn.start {P : α → List α} {K L : List α} {c : α → Int} (h1 : ∀ n, c n = (occ P K n : Int)) (h2 : ∀ n, n ∈ L ↔ n ∈ K ∧ c n = 0) : Kahn P K K L c :=
  ⟨h1, fun n hn h0 => (h2 n).2 ⟨hn, h0⟩, fun n hn => ((h2 n).1 hn).2, fun a w => by
    obtain ⟨b, ⟨h, _, _⟩, _⟩ := w.first
    exact h, fun _ h => h⟩
/-- Where the inner loop stands: j parents of the name are behind it. -/
structure KahnIn (P : α → List α) (K M L : List α) (c : α → Int) (x : α) (j : Nat) : Prop where
  cnt : ∀ n, c n = (occ P (M.erase x) n : Int) + ((if x ∈ M then (P x).drop j else []).count n : Int)
  low : ∀ n ∈ M.erase x, c n = 0 → n ∈ L
  nil : ∀ n ∈ L, c n = 0
  rnd : ∀ a, Way (fun x y => x ∈ K ∧ y ∈ P x ∧ y ∈ K) a a → a ∈ M.erase x
  sub : ∀ n ∈ M.erase x, n ∈ K
/-- The last name of the row is taken up. -/
theorem Kahn.take {P : α → List α} {K M L : List α} {c : α → Int} {x : α} (hM : M.Nodup) (h : Kahn P K M (L ++ [x]) c) : KahnIn P K M L c x 0 := by
  have hx : occ P M x = 0 := by
    have h1 := h.nil x (by simp)
    rw [h.cnt] at h1
    omega
  refine ⟨fun n => ?_, fun n hn h0 => ?_, fun n hn => h.nil n (by simp [hn]), fun a w => ?_, fun n hn => h.sub n (List.mem_of_mem_erase hn)⟩
  · rw [h.cnt, List.drop_zero]
    split
    · rename_i hm
      rw [occ_erase hm]; omega
    · rename_i hm
      rw [occ_erase_not hm]; simp
  · have := h.low n (List.mem_of_mem_erase hn) h0
    rw [List.mem_append] at this
    rcases this with h1 | h1
    · exact h1
    · simp at h1
      subst h1
      exact absurd hn (by rw [hM.mem_erase_iff]; simp)
  · have ha := h.rnd a w
    have hne : a ≠ x := by
      intro e
      subst e
      obtain ⟨b, ⟨hb, hp, _⟩, hw⟩ := round_back w
      have := (occ_pos (P := P) (M := M) (n := a)).2 ⟨b, h.rnd b hw, hp⟩
      omega
    exact (List.mem_erase_of_ne hne).2 ha
/-- One parent: its count falls by one; at nought it joins the row. -/
theorem KahnIn.step {P : α → List α} {K M L : List α} {c : α → Int} {x : α} {j : Nat} (h : KahnIn P K M L c x j) (hx : x ∈ M) (hj : j < (P x).length) :
    KahnIn P K M (if c (P x)[j] - 1 = 0 then L ++ [(P x)[j]] else L) (fun n => if n = (P x)[j] then c n - 1 else c n) x (j + 1) := by
  have hd : (P x).drop j = (P x)[j] :: (P x).drop (j + 1) := List.drop_eq_getElem_cons hj
  obtain ⟨p, hp⟩ : ∃ p, (P x)[j] = p := ⟨_, rfl⟩
  rw [hp] at hd ⊢
  have hc := h.cnt
  simp only [if_pos hx, hd, List.count_cons] at hc
  refine ⟨fun n => ?_, fun n hn h0 => ?_, fun n hn => ?_, h.rnd, h.sub⟩
  · simp only [if_pos hx]
    have := hc n
    by_cases e : n = p
    · rw [if_pos e, this, e]; simp; omega
    · rw [if_neg e, this]
      have : (p == n) = false := by simpa using fun e2 => e e2.symm
      simp [this]
  · by_cases e : n = p
    · rw [if_pos e] at h0
      rw [e] at h0
      rw [if_pos h0, e]; simp
    · rw [if_neg e] at h0
      have := h.low n hn h0
      split
      · simp [this]
      · exact this
  · have old : n ∈ L → (if n = p then c n - 1 else c n) = 0 := fun hn => by
      have h1 := h.nil n hn
      have h2 := hc n
      by_cases e : n = p
      · rw [h1, e] at h2
        simp at h2
        omega
      · rw [if_neg e]; exact h1
    by_cases e0 : c p - 1 = 0
    · rw [if_pos e0] at hn
      rcases List.mem_append.1 hn with hn | hn
      · exact old hn
      · simp at hn
        rw [if_pos hn, hn]; exact e0
    · rw [if_neg e0] at hn
      exact old hn
/-- Behind the inner loop the name is taken away. -/
theorem KahnIn.done {P : α → List α} {K M L : List α} {c : α → Int} {x : α} {j : Nat} (h : KahnIn P K M L c x j) (hj : x ∈ M → (P x).length ≤ j) : Kahn P K (M.erase x) L c := by
  refine ⟨fun n => ?_, h.low, h.nil, h.rnd, h.sub⟩
  rw [h.cnt]
  split
  · rename_i hx
    rw [List.drop_eq_nil_of_le (hj hx)]; simp
  · simp
/-- Where none is to be taken away, something is left just if some way goes round. -/
theorem Kahn.fin {P : α → List α} {K M : List α} {c : α → Int} (h : Kahn P K M [] c) : M ≠ [] ↔ ∃ a, Way (fun x y => x ∈ K ∧ y ∈ P x ∧ y ∈ K) a a := by
  constructor
  · intro hM
    have hp : ∀ n ∈ M, ∃ m ∈ M, (m ∈ K ∧ n ∈ P m ∧ n ∈ K) := fun n hn => by
      have h0 : c n ≠ 0 := fun e => by have := h.low n hn e; simp at this
      rw [h.cnt] at h0
      obtain ⟨m, hm, hq⟩ := occ_pos.1 (show 0 < occ P M n by omega)
      exact ⟨m, hm, h.sub m hm, hq, h.sub n hn⟩
    obtain ⟨a, _, w⟩ := round_left (S := fun x y => x ∈ K ∧ y ∈ P x ∧ y ∈ K) M hM hp
    exact ⟨a, w⟩
  · rintro ⟨a, w⟩ e
    have := h.rnd a w
    rw [e] at this; simp at this
end
end Go.Proofs.Ytijjbfdbhfjfmaa
namespace Go.Proofs.Ytijjbfdbhfjfmaa
structure Nm where
  s : ByteArray
  hs : s.size ≤ 9223372036854775807
theorem Nm.ext' : ∀ {a b : Nm}, a.s = b.s → a = b
  | ⟨_, _⟩, ⟨_, _⟩, rfl => rfl
instance : DecidableEq Nm := fun a b => if h : a.s = b.s then .isTrue (Nm.ext' h) else .isFalse fun e => h (e ▸ rfl)
/-- Rows under names: the first one of a name is meant. -/
abbrev Gra := List (Nm × List Nm)
def look (g : Gra) (x : Nm) : Option (List Nm) := (g.find? fun p => decide (p.1 = x)).map (·.2)
def nxt (g : Gra) (x : Nm) : List Nm := (look g x).getD []
def Stp (g : Gra) (x y : Nm) : Prop := y ∈ nxt g x
noncomputable def ways (g : Gra) (a b : Nm) : Bool := @decide (Way (Stp g) a b) (Classical.propDecidable _)
theorem ways_iff {g : Gra} {a b : Nm} : ways g a b = true ↔ Way (Stp g) a b := by
  unfold ways; exact @decide_eq_true_iff _ (Classical.propDecidable _)
theorem ways_of {g : Gra} {a b : Nm} {q : Bool} (h : q = true ↔ Way (Stp g) a b) : q = ways g a b := by
  rw [Bool.eq_iff_iff, ways_iff]; exact h
theorem ways_trans {g : Gra} {a b c : Nm} (h : ways g a b = true) (k : ways g b c = true) : ways g a c = true := ways_iff.2 ((ways_iff.1 h).trans (ways_iff.1 k))
/-- A lookup in one row more. -/
theorem look_more {g : Gra} {p : Nm × List Nm} (x : Nm) : look (g ++ [p]) x = if (look g x).isSome = true then look g x else if p.1 = x then some p.2 else none := by
  unfold look
  rw [List.find?_append]
  cases h : g.find? fun s => decide (s.1 = x) with
  | some v => simp
  | none =>
    by_cases e : p.1 = x
    · simp [e]
    · simp [e]
theorem look_there {g : Gra} {p : Nm × List Nm} (h : (look g p.1).isSome = true) : look (g ++ [p]) = look g := by
  funext x
  rw [look_more]
  by_cases e : (look g x).isSome = true
  · rw [if_pos e]
  · rw [if_neg e, if_neg (fun hx : p.1 = x => e (hx ▸ h))]
    cases hf : look g x with
    | none => rfl
    | some v => rw [hf] at e; simp at e
theorem look_new {g : Gra} {p : Nm × List Nm} (h : (look g p.1).isSome = false) (x : Nm) : look (g ++ [p]) x = if x = p.1 then some p.2 else look g x := by
  rw [look_more]
  by_cases e : x = p.1
  · rw [if_pos e, e, h]; simp
  · rw [if_neg e, if_neg (Ne.symm e)]
    by_cases e2 : (look g x).isSome = true
    · rw [if_pos e2]
    · rw [if_neg e2]
      cases hf : look g x with
      | none => rfl
      | some v => rw [hf] at e2; simp at e2
theorem look_mem {g : Gra} {x : Nm} : (look g x).isSome = true ↔ ∃ p ∈ g, p.1 = x := by
  unfold look
  simp
theorem look_in {g : Gra} {x : Nm} {l : List Nm} (h : look g x = some l) : ∃ p ∈ g, p.1 = x ∧ p.2 = l := by
  unfold look at h
  obtain ⟨p, hp, rfl⟩ := Option.map_eq_some_iff.1 h
  exact ⟨p, List.mem_of_find?_eq_some hp, by simpa using List.find?_some hp, rfl⟩
/-- Not too many. -/
def FewG (g : Gra) : Prop := g.length ≤ 100 ∧ ∀ p ∈ g, p.2.length ≤ 100
def tot (g : Gra) : List Nm := g.flatMap (·.2)
theorem nxt_tot {g : Gra} {x y : Nm} (h : y ∈ nxt g x) : y ∈ tot g := by
  unfold nxt at h
  cases hl : look g x with
  | none => rw [hl] at h; simp at h
  | some l =>
    rw [hl] at h
    obtain ⟨p, hp, -, rfl⟩ := look_in hl
    exact List.mem_flatMap.2 ⟨p, hp, h⟩
theorem nxt_len {g : Gra} (hg : FewG g) (x : Nm) : (nxt g x).length ≤ 100 := by
  unfold nxt
  cases hl : look g x with
  | none => simp
  | some l =>
    obtain ⟨p, hp, -, rfl⟩ := look_in hl
    exact hg.2 p hp
theorem flat_le {α β : Type} {f : α → List β} {m : Nat} : ∀ {l : List α}, (∀ x ∈ l, (f x).length ≤ m) → (l.flatMap f).length ≤ l.length * m
  | [], _ => by simp
  | x :: l, h => by
    have h1 := h x (by simp)
    have h2 := flat_le (l := l) fun y hy => h y (by simp [hy])
    rw [List.flatMap_cons, List.length_append, List.length_cons, Nat.add_mul]; omega
theorem tot_len {g : Gra} (hg : FewG g) : (tot g).length ≤ 10000 := by
  have h1 := flat_le (f := fun p : Nm × List Nm => p.2) hg.2
  have := hg.1
  show (g.flatMap (·.2)).length ≤ 10000
  calc _ ≤ g.length * 100 := h1
    _ ≤ 100 * 100 := Nat.mul_le_mul_right _ this
theorem keys_len {g : Gra} {ks : List Nm} (hn : ks.Nodup) (h : ∀ a ∈ ks, (look g a).isSome = true) : ks.length ≤ g.length := by
  have e : (g.map (·.1)).length = g.length := by simp
  rw [← e]
  exact len_sub ks _ hn fun x hx => by
    obtain ⟨p, hp, rfl⟩ := look_mem.1 (h x hx)
    exact List.mem_map_of_mem hp
theorem flat_len2 {g : Gra} (hg : FewG g) {ks : List Nm} (hn : ks.Nodup) (h : ∀ a ∈ ks, (look g a).isSome = true) : (ks.flatMap (nxt g)).length ≤ 10000 := by
  have h1 := flat_le (f := nxt g) (l := ks) fun x _ => nxt_len hg x
  have h2 := keys_len hn h
  have := hg.1
  calc _ ≤ ks.length * 100 := h1
    _ ≤ 100 * 100 := Nat.mul_le_mul_right _ (by omega)
/-- Names are one by one just if the keys are as many as the rows. -/
theorem nodup_len {α : Type} [DecidableEq α] : ∀ {l ks : List α}, ks.Nodup → (∀ x, x ∈ ks ↔ x ∈ l) → (ks.length < l.length ↔ ¬ l.Nodup) := by
  intro l
  induction l with
  | nil =>
    intro ks _ h
    simp
  | cons x l ih =>
    intro ks hn h
    have hx : x ∈ ks := (h x).2 (by simp)
    have hp := List.length_pos_of_mem hx
    by_cases hxl : x ∈ l
    · have h1 : ks.length ≤ l.length := len_sub ks l hn fun y hy => by
        rcases List.mem_cons.1 ((h y).1 hy) with rfl | e
        · exact hxl
        · exact e
      exact iff_of_true (by simp; omega) (fun hd => (List.nodup_cons.1 hd).1 hxl)
    · have h2 := ih (ks := ks.erase x) (hn.erase x) fun y => by
        rw [hn.mem_erase_iff]
        constructor
        · rintro ⟨h1, h2⟩
          rcases List.mem_cons.1 ((h y).1 h2) with e | e
          · exact absurd e h1
          · exact e
        · intro hy
          exact ⟨fun e => hxl (e ▸ hy), (h y).2 (by simp [hy])⟩
      rw [List.length_erase_of_mem hx] at h2
      rw [List.nodup_cons]
      constructor
      · intro hl hd
        exact h2.1 (by simp at hl; omega) hd.2
      · intro hd
        have := h2.2 fun e => hd ⟨hxl, e⟩
        simp; omega
/-! ### What is reached -/
structure Bf (g : Gra) (low : Nm) (L R : List Nm) (i : Nat) : Prop where
  way : ∀ r ∈ R, Way (Stp g) low r
  lw : ∀ x ∈ L, x = low ∨ x ∈ R
  rl : ∀ r ∈ R, r ∈ L
  shut : ∀ k x, k < i → L[k]? = some x → ∀ y ∈ nxt g x, y ∈ R
structure Bi (g : Gra) (low : Nm) (L R : List Nm) (i : Nat) (x : Nm) (k : Nat) : Prop where
  b : Bf g low L R i
  atx : L[i]? = some x
  row : ∀ y ∈ (nxt g x).take k, y ∈ R
theorem Bf.take {g : Gra} {low : Nm} {L R : List Nm} {i : Nat} {x : Nm} (h : Bf g low L R i) (hx : L[i]? = some x) : Bi g low L R i x 0 := ⟨h, hx, by simp⟩
theorem Bi.old {g : Gra} {low : Nm} {L R : List Nm} {i k : Nat} {x y : Nm} (h : Bi g low L R i x k) (hk : k < (nxt g x).length) (hy : (nxt g x)[k] = y) (hm : y ∈ R) : Bi g low L R i x (k + 1) :=
  ⟨h.b, h.atx, fun z hz => by
    rw [List.take_succ_eq_append_getElem hk, hy] at hz
    rcases List.mem_append.1 hz with hz | hz
    · exact h.row z hz
    · simp at hz; rw [hz]; exact hm⟩
theorem Bi.new {g : Gra} {low : Nm} {L R : List Nm} {i k : Nat} {x y : Nm} (h : Bi g low L R i x k) (hk : k < (nxt g x).length) (hy : (nxt g x)[k] = y) : Bi g low (L ++ [y]) (R ++ [y]) i x (k + 1) := by
  have hi : i < L.length := (List.getElem?_eq_some_iff.1 h.atx).1
  have hw : Way (Stp g) low y := by
    have hs : Stp g x y := by unfold Stp; rw [← hy]; exact List.getElem_mem hk
    rcases h.b.lw x (List.mem_of_getElem? h.atx) with rfl | hr
    · exact .one hs
    · exact .more (h.b.way x hr) hs
  refine ⟨⟨fun r hr => ?_, fun z hz => ?_, fun r hr => ?_, fun j z hj hz w hw' => ?_⟩, ?_, fun z hz => ?_⟩
  · rcases List.mem_append.1 hr with hr | hr
    · exact h.b.way r hr
    · simp at hr; rw [hr]; exact hw
  · rcases List.mem_append.1 hz with hz | hz
    · exact (h.b.lw z hz).imp id fun e => List.mem_append.2 (.inl e)
    · exact .inr (List.mem_append.2 (.inr hz))
  · rcases List.mem_append.1 hr with hr | hr
    · exact List.mem_append.2 (.inl (h.b.rl r hr))
    · exact List.mem_append.2 (.inr hr)
  · rw [List.getElem?_append_left (by omega)] at hz
    exact List.mem_append.2 (.inl (h.b.shut j z hj hz w hw'))
  · rw [List.getElem?_append_left hi]; exact h.atx
  · rw [List.take_succ_eq_append_getElem hk, hy] at hz
    rcases List.mem_append.1 hz with hz | hz
    · exact List.mem_append.2 (.inl (h.row z hz))
    · exact List.mem_append.2 (.inr hz)
theorem Bi.done {g : Gra} {low : Nm} {L R : List Nm} {i k : Nat} {x : Nm} (h : Bi g low L R i x k) (hk : (nxt g x).length ≤ k) : Bf g low L R (i + 1) :=
  ⟨h.b.way, h.b.lw, h.b.rl, fun j z hj hz w hw => by
    rcases Nat.lt_or_ge j i with h1 | h1
    · exact h.b.shut j z h1 hz w hw
    · obtain rfl : j = i := by omega
      rw [h.atx] at hz
      cases hz
      exact h.row w (by rw [List.take_of_length_le hk]; exact hw)⟩
theorem Bf.fin {g : Gra} {low high : Nm} {L R : List Nm} {i : Nat} (h : Bf g low L R i) (hi : L.length ≤ i) (h1 : ∀ y ∈ nxt g low, y ∈ R) : high ∈ R ↔ Way (Stp g) low high := by
  refine ⟨h.way high, fun w => ?_⟩
  induction w with
  | one s => exact h1 _ s
  | more _ s ih =>
    obtain ⟨k, hk, e⟩ := List.getElem_of_mem (h.rl _ ih)
    exact h.shut k _ (by omega) (by rw [List.getElem?_eq_getElem hk, e]) _ s
theorem Bf.len {g : Gra} {low : Nm} {L R : List Nm} {i : Nat} (h : Bf g low L R i) : ∀ r ∈ R, r ∈ tot g := fun r hr => by
  obtain ⟨b, s, -⟩ := (h.way r hr).last
  exact nxt_tot s
end Go.Proofs.Ytijjbfdbhfjfmaa
namespace Go.Proofs.Ytijjbfdbhfjfmaa
section
variable {α : Type} [DecidableEq α]
theorem Kahn.re {P : α → List α} {K M L L' : List α} {c : α → Int} (h : Kahn P K M L c) (e : ∀ n, n ∈ L ↔ n ∈ L') : Kahn P K M L' c :=
  ⟨h.cnt, fun n hn h0 => (e n).1 (h.low n hn h0), fun n hn => h.nil n ((e n).2 hn), h.rnd, h.sub⟩
structure KQ (P : α → List α) (K M L : List α) (i : Nat) (c : α → Int) : Prop where
  k : Kahn P K M (L.drop i) c
  nil : ∀ n ∈ L, c n = 0
  nd : L.Nodup
  pm : (L.take i ++ M).Perm K
  sub : ∀ n ∈ L, n ∈ K
structure KQi (P : α → List α) (K M L : List α) (i : Nat) (c : α → Int) (x : α) (j : Nat) : Prop where
  k : KahnIn P K M (L.drop (i + 1)) c x j
  nil : ∀ n ∈ L, c n = 0
  nd : L.Nodup
  pm : (L.take (i + 1) ++ M.erase x).Perm K
  sub : ∀ n ∈ L, n ∈ K
  xm : x ∈ M
  lx : i < L.length
theorem KQ.take {P : α → List α} {K M L : List α} {i : Nat} {c : α → Int} {x : α} (h : KQ P K M L i c) (hM : M.Nodup) (hx : L[i]? = some x) : KQi P K M L i c x 0 := by
  obtain ⟨hi, e⟩ := List.getElem?_eq_some_iff.1 hx
  have hd : L.drop i = x :: L.drop (i + 1) := by rw [List.drop_eq_getElem_cons hi, e]
  have hxK : x ∈ K := h.sub x (e ▸ List.getElem_mem hi)
  have hxt : x ∉ L.take i := fun hm => by
    obtain ⟨k, hk, e2⟩ := List.getElem_of_mem hm
    have hk2 : k < i := by simp at hk; omega
    rw [List.getElem_take] at e2
    have := (List.nodup_iff_pairwise_ne.1 h.nd)
    rw [List.pairwise_iff_getElem] at this
    exact this k i (by omega) hi hk2 (e2.trans e.symm)
  have hxM : x ∈ M := by
    rcases List.mem_append.1 (h.pm.symm.subset hxK) with h1 | h1
    · exact absurd h1 hxt
    · exact h1
  refine ⟨Kahn.take hM (h.k.re (L' := L.drop (i + 1) ++ [x]) fun n => ?_), h.nil, h.nd, ?_, h.sub, hxM, hi⟩
  · rw [hd]; simp [or_comm]
  · rw [List.take_succ_eq_append_getElem hi, e, List.append_assoc]
    exact ((List.perm_cons_erase hxM).symm.append_left _).trans h.pm
theorem KQi.pos {P : α → List α} {K M L : List α} {i j : Nat} {c : α → Int} {x : α} (h : KQi P K M L i c x j) (hj : j < (P x).length) : 0 < c (P x)[j] := by
  have := h.k.cnt (P x)[j]
  rw [if_pos h.xm, List.drop_eq_getElem_cons hj, List.count_cons] at this
  simp at this
  omega
def lowC (c : α → Int) (p : α) : α → Int := fun n => if n = p then c n - 1 else c n
theorem KQi.keep {P : α → List α} {K M L : List α} {i j : Nat} {c : α → Int} {x p : α} (h : KQi P K M L i c x j) (hj : j < (P x).length) (hp : (P x)[j] = p) (h0 : ¬ c p - 1 = 0) : KQi P K M L i (lowC c p) x (j + 1) := by
  have hs := h.k.step h.xm hj
  have hpos := h.pos hj
  rw [hp] at hs hpos
  rw [if_neg h0] at hs
  refine ⟨hs, fun n hn => ?_, h.nd, h.pm, h.sub, h.xm, h.lx⟩
  unfold lowC
  by_cases e : n = p
  · have := h.nil n hn
    rw [e] at this; omega
  · rw [if_neg e]; exact h.nil n hn
theorem KQi.zero {P : α → List α} {K M L : List α} {i j : Nat} {c : α → Int} {x p : α} (h : KQi P K M L i c x j) (hj : j < (P x).length) (hp : (P x)[j] = p) (hK : p ∈ K) (h0 : c p - 1 = 0) : KQi P K M (L ++ [p]) i (lowC c p) x (j + 1) := by
  have hs := h.k.step h.xm hj
  have hpos := h.pos hj
  rw [hp] at hs hpos
  rw [if_pos h0] at hs
  have hpL : p ∉ L := fun hm => by have := h.nil p hm; omega
  have hd : (L ++ [p]).drop (i + 1) = L.drop (i + 1) ++ [p] := List.drop_append_of_le_length (by have := h.lx; omega)
  have ht : (L ++ [p]).take (i + 1) = L.take (i + 1) := List.take_append_of_le_length (by have := h.lx; omega)
  refine ⟨by rw [hd]; exact hs, fun n hn => ?_, ?_, by rw [ht]; exact h.pm, fun n hn => ?_, h.xm, by have := h.lx; simp; omega⟩
  · unfold lowC
    rcases List.mem_append.1 hn with hn | hn
    · rw [if_neg (fun e : n = p => hpL (e ▸ hn))]; exact h.nil n hn
    · simp at hn
      rw [if_pos hn, hn]; exact h0
  · rw [List.nodup_append]
    refine ⟨h.nd, by simp, fun a ha b hb => ?_⟩
    simp at hb
    rw [hb]
    exact fun e => hpL (e ▸ ha)
  · rcases List.mem_append.1 hn with hn | hn
    · exact h.sub n hn
    · simp at hn; rw [hn]; exact hK
theorem KQi.done {P : α → List α} {K M L : List α} {i j : Nat} {c : α → Int} {x : α} (h : KQi P K M L i c x j) (hj : (P x).length ≤ j) : KQ P K (M.erase x) L (i + 1) c :=
  ⟨h.k.done fun _ => hj, h.nil, h.nd, h.pm, h.sub⟩
theorem KQ.len {P : α → List α} {K M L : List α} {i : Nat} {c : α → Int} (h : KQ P K M L i c) : L.length ≤ K.length := len_sub L K h.nd h.sub
theorem KQ.fin {P : α → List α} {K M L : List α} {i : Nat} {c : α → Int} (h : KQ P K M L i c) (hi : L.length ≤ i) : L.length < K.length ↔ ∃ a, Way (fun x y => x ∈ K ∧ y ∈ P x ∧ y ∈ K) a a := by
  have hk := h.k
  rw [List.drop_eq_nil_of_le hi] at hk
  rw [← hk.fin]
  have hl := h.pm.length_eq
  rw [List.take_of_length_le hi, List.length_append] at hl
  constructor
  · intro h1 e
    rw [e] at hl; simp at hl; omega
  · intro h1
    have := List.length_pos_iff.2 h1
    omega
theorem KQ.start {P : α → List α} {K L : List α} {c : α → Int} (h1 : ∀ n, c n = (occ P K n : Int)) (h2 : ∀ n, n ∈ L ↔ n ∈ K ∧ c n = 0) (hn : L.Nodup) : KQ P K K L 0 c :=
  ⟨by rw [List.drop_zero]; exact Kahn.start h1 h2, fun n hn => ((h2 n).1 hn).2, hn, by rw [List.take_zero]; exact List.Perm.refl _, fun n hn => ((h2 n).1 hn).1⟩
end
end Go.Proofs.Ytijjbfdbhfjfmaa
