/- Plain ways among names: rounds, what is left where names to which no step leads are taken away, a table of ways. No condition. Plain: names to which no step leads are taken away, one by one: what is left is a round, or nothing. No condition. Plain: rows of names under names; what is reached of a name; a list that grows while it is gone through. No condition. Of what was there nothing has turned: a word for what a call leaves of memory, and the last step of a law's proof from it. No condition. Types ats trees: how deep they are, whether they may be, which are below which, the least one above two, by definition; being below is an order and the least one is the least. No condition. Rows of several cells an element that a call makes itself: gone on with, one by one. No condition. -/
import Derived.WalkKit
import Derived.Test.YtnenjgngahipdaaGreatChecked
import Derived.Carry
import Derived.ChangeSame
import Derived.ProofKit
import Derived.Deep.Draws
import Derived.Lib.Small
import Derived.Shelf.Small.Strs
import Derived.ArgAppend
set_option linter.unusedVariables false
set_option linter.unusedSimpArgs false
set_option linter.unnecessarySimpa false
namespace Go.Proofs.YtnenjgngahipdaaGreat
section
variable {α : Type}
/-- A way of at least one step. -/
inductive Way (S : α → α → Prop) : α → α → Prop
  | one {a b : α} : S a b → Way S a b
  | more {a b c : α} : Way S a b → S b c → Way S a c
theorem Way.trans {S : α → α → Prop} {a b c : α} (h : Way S a b) (k : Way S b c) : Way S a c := by
  induction k with
  | one s => exact .more h s
  | more _ s ih => exact .more ih s
theorem Way.mono {S T : α → α → Prop} (h : ∀ a b, S a b → T a b) {a b : α} (w : Way S a b) : Way T a b := by
  induction w with
  | one s => exact .one (h _ _ s)
  | more _ s ih => exact .more ih (h _ _ s)
/-- The last step of a way. -/
theorem Way.last {S : α → α → Prop} {a c : α} (h : Way S a c) : ∃ b, S b c ∧ (a = b ∨ Way S a b) := by
  cases h with
  | one s => exact ⟨a, s, .inl rfl⟩
  | more w s => exact ⟨_, s, .inr w⟩
/-- The first step of a way. -/
theorem Way.first {S : α → α → Prop} {a c : α} (h : Way S a c) : ∃ b, S a b ∧ (b = c ∨ Way S b c) := by
  induction h with
  | one s => exact ⟨_, s, .inl rfl⟩
  | more _ s ih =>
    obtain ⟨b, h1, h2⟩ := ih
    refine ⟨b, h1, .inr ?_⟩
    rcases h2 with rfl | h2
    · exact .one s
    · exact .more h2 s
/-- Of what lies on a round there is a step to it from what lies on a round. -/
theorem round_back {S : α → α → Prop} {a : α} (h : Way S a a) : ∃ b, S b a ∧ Way S b b := by
  obtain ⟨b, s, rfl | w⟩ := h.last
  · exact ⟨a, s, h⟩
  · exact ⟨b, s, (Way.one s).trans w⟩
theorem len_sub [DecidableEq α] : ∀ (l m : List α), l.Nodup → (∀ x ∈ l, x ∈ m) → l.length ≤ m.length
  | [], m, _, _ => Nat.zero_le _
  | x :: l, m, hn, hs => by
    have hx := hs x (by simp)
    have hn' := List.nodup_cons.1 hn
    have := len_sub l (m.erase x) hn'.2 (fun y hy => by
      have hne : y ≠ x := fun e => hn'.1 (e ▸ hy)
      exact (List.mem_erase_of_ne hne).2 (hs y (by simp [hy])))
    rw [List.length_erase_of_mem hx] at this
    have hp := List.length_pos_of_mem hx
    simp only [List.length_cons]; omega
/-- Where each name has a step to it from another one, some way goes round. -/
theorem round_left [DecidableEq α] {S : α → α → Prop} (M : List α) (hM : M ≠ []) (h : ∀ n ∈ M, ∃ m ∈ M, S m n) : ∃ a ∈ M, Way S a a := by
  obtain ⟨x0, hx0⟩ := List.exists_mem_of_ne_nil M hM
  -- a row of names, each with a step to the one ahead of it
  have row : ∀ k : Nat, ∃ l : List α, l.length = k + 1 ∧ (∀ x ∈ l, x ∈ M) ∧ ∀ i (hi : i + 1 < l.length), S (l[i]'(by omega)) (l[i + 1]) := by
    intro k
    induction k with
    | zero => exact ⟨[x0], rfl, by simpa using hx0, fun i hi => by simp at hi⟩
    | succ k ih =>
      obtain ⟨l, hl, hm, hs⟩ := ih
      match l, hl with
      | y :: r, hl =>
        obtain ⟨z, hz, hzy⟩ := h y (hm y (by simp))
        refine ⟨z :: y :: r, by simp at hl ⊢; omega, fun x hx => ?_, fun i hi => ?_⟩
        · rcases List.mem_cons.1 hx with rfl | hx
          · exact hz
          · exact hm x hx
        · match i with
          | 0 => exact hzy
          | i + 1 => exact hs i (by simpa using hi)
  obtain ⟨l, hl, hm, hs⟩ := row M.length
  have hnd : ¬ l.Nodup := fun hn => by have := len_sub l M hn hm; omega
  have way : ∀ i j (hj : j < l.length) (hij : i < j), Way S (l[i]'(by omega)) (l[j]) := by
    intro i j
    induction j with
    | zero => intro _ h; omega
    | succ j ih =>
      intro hj hij
      rcases Nat.lt_or_ge i j with h1 | h1
      · exact .more (ih (by omega) h1) (hs j hj)
      · have : i = j := by omega
        subst this
        exact .one (hs i hj)
  have : ∃ i j, ∃ (hi : i < l.length) (hj : j < l.length), i < j ∧ l[i] = l[j] := by
    apply Classical.byContradiction
    intro hno
    apply hnd
    rw [List.nodup_iff_pairwise_ne, List.pairwise_iff_getElem]
    intro i j hi hj hij e
    exact hno ⟨i, j, hi, hj, hij, e⟩
  obtain ⟨i, j, hi, hj, hij, e⟩ := this
  refine ⟨l[i], hm _ (List.getElem_mem hi), ?_⟩
  have w := way i j hj hij
  rwa [← e] at w
/-! ### A table of ways -/
/-- A way whose names between are among the first k (by number). -/
inductive Thru (S : Nat → Nat → Prop) (k : Nat) : Nat → Nat → Prop
  | one {a b : Nat} : S a b → Thru S k a b
  | more {a b c : Nat} : Thru S k a b → b < k → Thru S k b c → Thru S k a c
theorem Thru.up {S : Nat → Nat → Prop} {k m : Nat} (hk : k ≤ m) {a b : Nat} (h : Thru S k a b) : Thru S m a b := by
  induction h with
  | one s => exact .one s
  | more _ hb _ i1 i2 => exact .more i1 (by omega) i2
theorem Thru.way {S : Nat → Nat → Prop} {k a b : Nat} (h : Thru S k a b) : Way S a b := by
  induction h with
  | one s => exact .one s
  | more _ _ _ i1 i2 => exact i1.trans i2
/-- With one name more between: as before, or by that name. -/
theorem Thru.split {S : Nat → Nat → Prop} {k a b : Nat} (h : Thru S (k + 1) a b) : Thru S k a b ∨ (Thru S k a k ∧ Thru S k k b) := by
  induction h with
  | one s => exact .inl (.one s)
  | @more a b c h1 hb h2 i1 i2 =>
    rcases Nat.lt_or_ge b k with hlt | hge
    · rcases i1 with i1 | ⟨i1, i1'⟩
      · rcases i2 with i2 | ⟨i2, i2'⟩
        · exact .inl (.more i1 hlt i2)
        · exact .inr ⟨.more i1 hlt i2, i2'⟩
      · rcases i2 with i2 | ⟨i2, i2'⟩
        · exact .inr ⟨i1, .more i1' hlt i2⟩
        · exact .inr ⟨i1, i2'⟩
    · have hbk : b = k := by omega
      subst hbk
      have t1 : Thru S b a b := by rcases i1 with i1 | ⟨i1, _⟩ <;> exact i1
      have t2 : Thru S b b c := by rcases i2 with i2 | ⟨_, i2⟩ <;> exact i2
      exact .inr ⟨t1, t2⟩
/-- Where all names are below n, each way goes through such alone. -/
theorem Thru.of_way {S : Nat → Nat → Prop} {n : Nat} (hS : ∀ a b, S a b → a < n ∧ b < n) {a b : Nat} (h : Way S a b) : Thru S n a b := by
  induction h with
  | one s => exact .one s
  | more w s ih => exact .more ih (hS _ _ s).1 (.one s)
end
end Go.Proofs.YtnenjgngahipdaaGreat
namespace Go.Proofs.YtnenjgngahipdaaGreat
section
variable {α : Type} [DecidableEq α]
/-- How many steps lead to a name from those that are left. -/
def occ (P : α → List α) (M : List α) (n : α) : Nat := (M.flatMap P).count n
theorem occ_pos {P : α → List α} {M : List α} {n : α} : 0 < occ P M n ↔ ∃ m ∈ M, n ∈ P m := by
  unfold occ
  rw [List.count_pos_iff, List.mem_flatMap]
theorem occ_erase {P : α → List α} {M : List α} {x : α} (hx : x ∈ M) (n : α) : occ P M n = (P x).count n + occ P (M.erase x) n := by
  unfold occ
  have h := (List.perm_cons_erase hx).flatMap_right P
  rw [h.count_eq, List.flatMap_cons, List.count_append]
theorem occ_erase_not {P : α → List α} {M : List α} {x : α} (hx : x ∉ M) (n : α) : occ P M n = occ P (M.erase x) n := by
  rw [List.erase_of_not_mem hx]
/-- Where the taking away stands: c: the counts; L: names to be taken away. -/
structure Kahn (P : α → List α) (K M L : List α) (c : α → Int) : Prop where
  cnt : ∀ n, c n = (occ P M n : Int)
  low : ∀ n ∈ M, c n = 0 → n ∈ L
  nil : ∀ n ∈ L, c n = 0
  rnd : ∀ a, Way (fun x y => x ∈ K ∧ y ∈ P x ∧ y ∈ K) a a → a ∈ M
  sub : ∀ n ∈ M, n ∈ K
theorem Kahn.start {P : α → List α} {K L : List α} {c : α → Int} (h1 : ∀ n, c n = (occ P K n : Int)) (h2 : ∀ n, n ∈ L ↔ n ∈ K ∧ c n = 0) : Kahn P K K L c :=
  ⟨h1, fun n hn h0 => (h2 n).2 ⟨hn, h0⟩, fun n hn => ((h2 n).1 hn).2, fun a w => by
    obtain ⟨b, ⟨h, _, _⟩, _⟩ := w.first
    exact h, fun _ h => h⟩
/-- Where the inner loop stands: j parents of the name are behind it. -/
structure KahnIn (P : α → List α) (K M L : List α) (c : α → Int) (x : α) (j : Nat) : Prop where
  cnt : ∀ n, c n = (occ P (M.erase x) n : Int) + ((if x ∈ M then (P x).drop j else []).count n : Int)
  low : ∀ n ∈ M.erase x, c n = 0 → n ∈ L
  nil : ∀ n ∈ L, c n = 0
  rnd : ∀ a, Way (fun x y => x ∈ K ∧ y ∈ P x ∧ y ∈ K) a a → a ∈ M.erase x
  sub : ∀ n ∈ M.erase x, n ∈ K
/-- The last name of the row is taken up. -/
theorem Kahn.take {P : α → List α} {K M L : List α} {c : α → Int} {x : α} (hM : M.Nodup) (h : Kahn P K M (L ++ [x]) c) : KahnIn P K M L c x 0 := by
  have hx : occ P M x = 0 := by
    have h1 := h.nil x (by simp)
    rw [h.cnt] at h1
    omega
  refine ⟨fun n => ?_, fun n hn h0 => ?_, fun n hn => h.nil n (by simp [hn]), fun a w => ?_, fun n hn => h.sub n (List.mem_of_mem_erase hn)⟩
  · rw [h.cnt, List.drop_zero]
    split
    · rename_i hm
      rw [occ_erase hm]; omega
    · rename_i hm
      rw [occ_erase_not hm]; simp
  · have := h.low n (List.mem_of_mem_erase hn) h0
    rw [List.mem_append] at this
    rcases this with h1 | h1
    · exact h1
    · simp at h1
      subst h1
      exact absurd hn (by rw [hM.mem_erase_iff]; simp)
  · have ha := h.rnd a w
    have hne : a ≠ x := by
      intro e
      subst e
      obtain ⟨b, ⟨hb, hp, _⟩, hw⟩ := round_back w
      have := (occ_pos (P := P) (M := M) (n := a)).2 ⟨b, h.rnd b hw, hp⟩
      omega
    exact (List.mem_erase_of_ne hne).2 ha
/-- One parent: its count falls by one; at nought it joins the row. -/
theorem KahnIn.step {P : α → List α} {K M L : List α} {c : α → Int} {x : α} {j : Nat} (h : KahnIn P K M L c x j) (hx : x ∈ M) (hj : j < (P x).length) :
    KahnIn P K M (if c (P x)[j] - 1 = 0 then L ++ [(P x)[j]] else L) (fun n => if n = (P x)[j] then c n - 1 else c n) x (j + 1) := by
  have hd : (P x).drop j = (P x)[j] :: (P x).drop (j + 1) := List.drop_eq_getElem_cons hj
  obtain ⟨p, hp⟩ : ∃ p, (P x)[j] = p := ⟨_, rfl⟩
  rw [hp] at hd ⊢
  have hc := h.cnt
  simp only [if_pos hx, hd, List.count_cons] at hc
  refine ⟨fun n => ?_, fun n hn h0 => ?_, fun n hn => ?_, h.rnd, h.sub⟩
  · simp only [if_pos hx]
    have := hc n
    by_cases e : n = p
    · rw [if_pos e, this, e]; simp; omega
    · rw [if_neg e, this]
      have : (p == n) = false := by simpa using fun e2 => e e2.symm
      simp [this]
  · by_cases e : n = p
    · rw [if_pos e] at h0
      rw [e] at h0
      rw [if_pos h0, e]; simp
    · rw [if_neg e] at h0
      have := h.low n hn h0
      split
      · simp [this]
      · exact this
  · have old : n ∈ L → (if n = p then c n - 1 else c n) = 0 := fun hn => by
      have h1 := h.nil n hn
      have h2 := hc n
      by_cases e : n = p
      · rw [h1, e] at h2
        simp at h2
        omega
      · rw [if_neg e]; exact h1
    by_cases e0 : c p - 1 = 0
    · rw [if_pos e0] at hn
      rcases List.mem_append.1 hn with hn | hn
      · exact old hn
      · simp at hn
        rw [if_pos hn, hn]; exact e0
    · rw [if_neg e0] at hn
      exact old hn
/-- Behind the inner loop the name is taken away. -/
theorem KahnIn.done {P : α → List α} {K M L : List α} {c : α → Int} {x : α} {j : Nat} (h : KahnIn P K M L c x j) (hj : x ∈ M → (P x).length ≤ j) : Kahn P K (M.erase x) L c := by
  refine ⟨fun n => ?_, h.low, h.nil, h.rnd, h.sub⟩
  rw [h.cnt]
  split
  · rename_i hx
    rw [List.drop_eq_nil_of_le (hj hx)]; simp
  · simp
/-- Where none is to be taken away, something is left just if some way goes round. -/
theorem Kahn.fin {P : α → List α} {K M : List α} {c : α → Int} (h : Kahn P K M [] c) : M ≠ [] ↔ ∃ a, Way (fun x y => x ∈ K ∧ y ∈ P x ∧ y ∈ K) a a := by
  constructor
  · intro hM
    have hp : ∀ n ∈ M, ∃ m ∈ M, (m ∈ K ∧ n ∈ P m ∧ n ∈ K) := fun n hn => by
      have h0 : c n ≠ 0 := fun e => by have := h.low n hn e; simp at this
      rw [h.cnt] at h0
      obtain ⟨m, hm, hq⟩ := occ_pos.1 (show 0 < occ P M n by omega)
      exact ⟨m, hm, h.sub m hm, hq, h.sub n hn⟩
    obtain ⟨a, _, w⟩ := round_left (S := fun x y => x ∈ K ∧ y ∈ P x ∧ y ∈ K) M hM hp
    exact ⟨a, w⟩
  · rintro ⟨a, w⟩ e
    have := h.rnd a w
    rw [e] at this; simp at this
end
end Go.Proofs.YtnenjgngahipdaaGreat
namespace Go.Proofs.YtnenjgngahipdaaGreat
structure Nm where
  s : ByteArray
  hs : s.size ≤ 9223372036854775807
theorem Nm.ext' : ∀ {a b : Nm}, a.s = b.s → a = b
  | ⟨_, _⟩, ⟨_, _⟩, rfl => rfl
instance : DecidableEq Nm := fun a b => if h : a.s = b.s then .isTrue (Nm.ext' h) else .isFalse fun e => h (e ▸ rfl)
/-- Rows under names: the first one of a name is meant. -/
abbrev Gra := List (Nm × List Nm)
def look (g : Gra) (x : Nm) : Option (List Nm) := (g.find? fun p => decide (p.1 = x)).map (·.2)
def nxt (g : Gra) (x : Nm) : List Nm := (look g x).getD []
def Stp (g : Gra) (x y : Nm) : Prop := y ∈ nxt g x
noncomputable def ways (g : Gra) (a b : Nm) : Bool := @decide (Way (Stp g) a b) (Classical.propDecidable _)
theorem ways_iff {g : Gra} {a b : Nm} : ways g a b = true ↔ Way (Stp g) a b := by
  unfold ways; exact @decide_eq_true_iff _ (Classical.propDecidable _)
theorem ways_of {g : Gra} {a b : Nm} {q : Bool} (h : q = true ↔ Way (Stp g) a b) : q = ways g a b := by
  rw [Bool.eq_iff_iff, ways_iff]; exact h
theorem look_mem {g : Gra} {x : Nm} : (look g x).isSome = true ↔ ∃ p ∈ g, p.1 = x := by
  unfold look
  simp
theorem look_in {g : Gra} {x : Nm} {l : List Nm} (h : look g x = some l) : ∃ p ∈ g, p.1 = x ∧ p.2 = l := by
  unfold look at h
  obtain ⟨p, hp, rfl⟩ := Option.map_eq_some_iff.1 h
  exact ⟨p, List.mem_of_find?_eq_some hp, by simpa using List.find?_some hp, rfl⟩
/-- Not too many. -/
def FewG (g : Gra) : Prop := g.length ≤ 100 ∧ ∀ p ∈ g, p.2.length ≤ 100
def tot (g : Gra) : List Nm := g.flatMap (·.2)
theorem nxt_tot {g : Gra} {x y : Nm} (h : y ∈ nxt g x) : y ∈ tot g := by
  unfold nxt at h
  cases hl : look g x with
  | none => rw [hl] at h; simp at h
  | some l =>
    rw [hl] at h
    obtain ⟨p, hp, -, rfl⟩ := look_in hl
    exact List.mem_flatMap.2 ⟨p, hp, h⟩
theorem nxt_len {g : Gra} (hg : FewG g) (x : Nm) : (nxt g x).length ≤ 100 := by
  unfold nxt
  cases hl : look g x with
  | none => simp
  | some l =>
    obtain ⟨p, hp, -, rfl⟩ := look_in hl
    exact hg.2 p hp
theorem flat_le {α β : Type} {f : α → List β} {m : Nat} : ∀ {l : List α}, (∀ x ∈ l, (f x).length ≤ m) → (l.flatMap f).length ≤ l.length * m
  | [], _ => by simp
  | x :: l, h => by
    have h1 := h x (by simp)
    have h2 := flat_le (l := l) fun y hy => h y (by simp [hy])
    rw [List.flatMap_cons, List.length_append, List.length_cons, Nat.add_mul]; omega
theorem tot_len {g : Gra} (hg : FewG g) : (tot g).length ≤ 10000 := by
  have h1 := flat_le (f := fun p : Nm × List Nm => p.2) hg.2
  have := hg.1
  show (g.flatMap (·.2)).length ≤ 10000
  calc _ ≤ g.length * 100 := h1
    _ ≤ 100 * 100 := Nat.mul_le_mul_right _ this
/-! ### What is reached -/
structure Bf (g : Gra) (low : Nm) (L R : List Nm) (i : Nat) : Prop where
  way : ∀ r ∈ R, Way (Stp g) low r
  lw : ∀ x ∈ L, x = low ∨ x ∈ R
  rl : ∀ r ∈ R, r ∈ L
  shut : ∀ k x, k < i → L[k]? = some x → ∀ y ∈ nxt g x, y ∈ R
structure Bi (g : Gra) (low : Nm) (L R : List Nm) (i : Nat) (x : Nm) (k : Nat) : Prop where
  b : Bf g low L R i
  atx : L[i]? = some x
  row : ∀ y ∈ (nxt g x).take k, y ∈ R
theorem Bf.take {g : Gra} {low : Nm} {L R : List Nm} {i : Nat} {x : Nm} (h : Bf g low L R i) (hx : L[i]? = some x) : Bi g low L R i x 0 := ⟨h, hx, by simp⟩
theorem Bi.old {g : Gra} {low : Nm} {L R : List Nm} {i k : Nat} {x y : Nm} (h : Bi g low L R i x k) (hk : k < (nxt g x).length) (hy : (nxt g x)[k] = y) (hm : y ∈ R) : Bi g low L R i x (k + 1) :=
  ⟨h.b, h.atx, fun z hz => by
    rw [List.take_succ_eq_append_getElem hk, hy] at hz
    rcases List.mem_append.1 hz with hz | hz
    · exact h.row z hz
    · simp at hz; rw [hz]; exact hm⟩
theorem Bi.new {g : Gra} {low : Nm} {L R : List Nm} {i k : Nat} {x y : Nm} (h : Bi g low L R i x k) (hk : k < (nxt g x).length) (hy : (nxt g x)[k] = y) : Bi g low (L ++ [y]) (R ++ [y]) i x (k + 1) := by
  have hi : i < L.length := (List.getElem?_eq_some_iff.1 h.atx).1
  have hw : Way (Stp g) low y := by
    have hs : Stp g x y := by unfold Stp; rw [← hy]; exact List.getElem_mem hk
    rcases h.b.lw x (List.mem_of_getElem? h.atx) with rfl | hr
    · exact .one hs
    · exact .more (h.b.way x hr) hs
  refine ⟨⟨fun r hr => ?_, fun z hz => ?_, fun r hr => ?_, fun j z hj hz w hw' => ?_⟩, ?_, fun z hz => ?_⟩
  · rcases List.mem_append.1 hr with hr | hr
    · exact h.b.way r hr
    · simp at hr; rw [hr]; exact hw
  · rcases List.mem_append.1 hz with hz | hz
    · exact (h.b.lw z hz).imp id fun e => List.mem_append.2 (.inl e)
    · exact .inr (List.mem_append.2 (.inr hz))
  · rcases List.mem_append.1 hr with hr | hr
    · exact List.mem_append.2 (.inl (h.b.rl r hr))
    · exact List.mem_append.2 (.inr hr)
  · rw [List.getElem?_append_left (by omega)] at hz
    exact List.mem_append.2 (.inl (h.b.shut j z hj hz w hw'))
  · rw [List.getElem?_append_left hi]; exact h.atx
  · rw [List.take_succ_eq_append_getElem hk, hy] at hz
    rcases List.mem_append.1 hz with hz | hz
    · exact List.mem_append.2 (.inl (h.row z hz))
    · exact List.mem_append.2 (.inr hz)
theorem Bi.done {g : Gra} {low : Nm} {L R : List Nm} {i k : Nat} {x : Nm} (h : Bi g low L R i x k) (hk : (nxt g x).length ≤ k) : Bf g low L R (i + 1) :=
  ⟨h.b.way, h.b.lw, h.b.rl, fun j z hj hz w hw => by
    rcases Nat.lt_or_ge j i with h1 | h1
    · exact h.b.shut j z h1 hz w hw
    · obtain rfl : j = i := by omega
      rw [h.atx] at hz
      cases hz
      exact h.row w (by rw [List.take_of_length_le hk]; exact hw)⟩
theorem Bf.fin {g : Gra} {low high : Nm} {L R : List Nm} {i : Nat} (h : Bf g low L R i) (hi : L.length ≤ i) (h1 : ∀ y ∈ nxt g low, y ∈ R) : high ∈ R ↔ Way (Stp g) low high := by
  refine ⟨h.way high, fun w => ?_⟩
  induction w with
  | one s => exact h1 _ s
  | more _ s ih =>
    obtain ⟨k, hk, e⟩ := List.getElem_of_mem (h.rl _ ih)
    exact h.shut k _ (by omega) (by rw [List.getElem?_eq_getElem hk, e]) _ s
theorem Bf.len {g : Gra} {low : Nm} {L R : List Nm} {i : Nat} (h : Bf g low L R i) : ∀ r ∈ R, r ∈ tot g := fun r hr => by
  obtain ⟨b, s, -⟩ := (h.way r hr).last
  exact nxt_tot s
end Go.Proofs.YtnenjgngahipdaaGreat
namespace Go.Proofs.YtnenjgngahipdaaGreat
open Go.RowKit Go.ChangeShapes Go.WideShapes
/-- Each block that was there is as it was, and the streams. -/
def Low (w w' : World) : Prop := w'.os = w.os ∧ w'.output = w.output ∧ w.heap.size ≤ w'.heap.size ∧ ∀ k, k < w.heap.size → w'.heap[k]? = w.heap[k]?
theorem Low.refl (w : World) : Low w w := ⟨rfl, rfl, Nat.le_refl _, fun _ _ => rfl⟩
theorem Low.trans {a b c : World} (h : Low a b) (k : Low b c) : Low a c :=
  ⟨k.1.trans h.1, k.2.1.trans h.2.1, Nat.le_trans h.2.2.1 k.2.2.1, fun i hi => (k.2.2.2 i (Nat.lt_of_lt_of_le hi h.2.2.1)).trans (h.2.2.2 i hi)⟩
theorem Low.size {w w' : World} (h : Low w w') : w.heap.size ≤ w'.heap.size := h.2.2.1
theorem Low.of_below {w w' : World} (h : Below w.heap.size w w') : Low w w' := ⟨h.os, h.output, h.size, h.block⟩
theorem Low.drewN (w : World) (n : Nat) : Low w (w.drewN n) := ⟨rfl, rfl, Nat.le_refl _, fun _ _ => rfl⟩
theorem grown_block {W W' : World} (h : Grown W W') {k : Nat} (hk : k < W.heap.size) : W'.heap[k]? = W.heap[k]? := by
  have h3 := h.1.2.2 k hk
  cases e : W.heap[k]? with
  | none => rw [e] at h3; cases e' : W'.heap[k]? <;> simp_all
  | some o =>
    cases e' : W'.heap[k]? with
    | none => rw [e, e'] at h3; cases o <;> simp at h3
    | some o' =>
      rw [e, e'] at h3
      cases o <;> cases o' <;> simp at h3
      · obtain ⟨a, b, c, d⟩ := h3
        subst a b
        rw [Array.ext_getElem? d]
      all_goals simp_all
theorem Low.of_grown {w w' : World} (h : Grown w w') : Low w w' := ⟨h.1.1, h.1.2.1, h.2.2, fun _ hk => grown_block h hk⟩
theorem Low.cell {w w' : World} (h : Low w w') {p : Addr} (hp : p.block < w.heap.size) : w'.cell? p = w.cell? p := World.cell?_of_block (w := w) (h.2.2.2 p.block hp)
theorem Low.frozen {w w' : World} (h : Low w w') {p : Addr} (hp : p.block < w.heap.size) : w'.frozen? p = w.frozen? p := World.frozen?_of_block (w := w) (h.2.2.2 p.block hp)
theorem cell_lt {w : World} {p : Addr} {v : Value} (h : w.cell? p = some v) : p.block < w.heap.size := by
  rcases Nat.lt_or_ge p.block w.heap.size with k | k
  · exact k
  · have e : w.heap[p.block]? = none := by simp; exact k
    cases p with
    | mk b o f => simp [World.cell?, e] at h
theorem Low.keep {w w' : World} (h : Low w w') {p : Addr} {v : Value} (hc : w.cell? p = some v) : w'.cell? p = some v := (h.cell (cell_lt hc)).trans hc
theorem Low.frame {w w' : World} (h : Low w w') (may : MemPlace → Prop) : w.keptBut w' may := by
  refine ⟨h.1, h.2.1, fun i hi => ?_⟩
  rw [h.2.2.2 i hi]
  split <;> simp_all
theorem Low.same {W W' : World} (h : Low W W') {p : MemPlace} (hp : p.block < W.heap.size) : W.sameAt W' p := by
  cases p with
  | cell b o => exact World.cell?_of_block (w := W) (h.2.2.2 b hp)
  | map b => exact h.2.2.2 b hp
/-- The last step of a law's proof, where it is known alone that what was there is as it was. -/
theorem post_of_low {H : Type} {enc : TypeId × Value → H} {P : Program} {f : Func} {s : ChangeSpec} {apart fresh handsOn again : Bool} {W W' : World} {args : Array Value} {v : Value} {ds gs : List (DataW H)} {before pa pv : List MemPlace}
    (hW : DataW.Whole enc P f.params.toList s.vars apart W args.toList ds gs before)
    (hres : ∀ (b : Nat) (sp : Nat → Bool) (hd : Bool), DataW.TrodAll enc P W' b sp hd f.resultTypes.toList (v.resultList f.resultTypes.size) (s.fn H (ds ++ gs)).results [])
    (hargs : ∀ sp : Nat → Bool, (∀ p ∈ before, sp p.block = true) → DataW.TrodAll enc P W' 0 sp true f.params.toList args.toList (s.fn H (ds ++ gs)).args pa)
    (hvars : ∀ sp : Nat → Bool, (∀ p ∈ before, sp p.block = true) → DataW.TrodVars enc P W' sp s.vars (s.fn H (ds ++ gs)).vars pv)
    (hps : before = pa ++ pv) (hb : Low W W')
    (hok : ∀ (j : Nat) (t : TypeId) (r : Value), f.resultTypes[j]? = some t → (v.resultList f.resultTypes.size)[j]? = some r → Value.okWide P W' .any 0 t r) :
    s.post enc P f apart fresh handsOn again W args v W' := by
  have hlt : ∀ p ∈ before, p.block < W.heap.size := fun p hp => hW.lt p hp
  have old : ∀ p ∈ before, (fun b => decide (b < W.heap.size)) p.block = true := fun p hp => decide_eq_true (hlt p hp)
  refine ⟨ds, gs, before, [], pa, pv, hW, hres _ _ _, hargs _ old, hvars _ old, World.keptBut_mono (fun p hp => ⟨hp, ?_⟩) (hb.frame (· ∈ before)), fun _ => ?_⟩
  · rw [hps, List.mem_append] at hp
    exact .inr hp
  · obtain ⟨_, _, _, _, _, hz, hn⟩ := hW
    refine ⟨hok, _, _, ([] ++ pa) ++ pv, ⟨[] ++ pa, pv, trodAll_append (hargs _ fun _ _ => rfl) (hres _ _ _), hvars _ fun _ _ => rfl, rfl, fun b off hp => ?_, fun ha => ?_⟩, fun p hp _ => ?_⟩
    · have hin : MemPlace.cell b off ∈ before := by rw [hps]; simpa using hp
      rw [hb.frozen (hlt _ hin)]
      exact hz b off hin
    · have h := hn ha
      rw [hps] at h
      simpa using h
    · rw [hps]
      simpa using hp
end Go.Proofs.YtnenjgngahipdaaGreat
namespace Go.Proofs.YtnenjgngahipdaaGreat
open Go.RowKit
set_option linter.unusedVariables false
inductive T where
  | mk (k : Int) (n : ByteArray) (l : List T) (ats : List (ByteArray × T × Bool))
abbrev At := ByteArray × T × Bool
namespace T
def k : T → Int | .mk k _ _ _ => k
def n : T → ByteArray | .mk _ n _ _ => n
def l : T → List T | .mk _ _ l _ => l
def ats : T → List At | .mk _ _ _ ats => ats
end T
theorem T.eta : ∀ t : T, t = .mk t.k t.n t.l t.ats | .mk _ _ _ _ => rfl
abbrev an (x : At) : ByteArray := x.1
abbrev aty (x : At) : T := x.2.1
abbrev ao (x : At) : Bool := x.2.2
def noT : T := .mk 0 ⟨#[]⟩ [] []
def T.hd (t : T) : T := t.l.headD noT
/-- All that is right inside. -/
def T.ins (t : T) : List T := t.l ++ t.ats.map aty
theorem ins_l {t x : T} (h : x ∈ t.l) : x ∈ t.ins := List.mem_append.2 (.inl h)
theorem ins_as {t : T} {x : At} (h : x ∈ t.ats) : aty x ∈ t.ins := List.mem_append.2 (.inr (List.mem_map.2 ⟨x, h, rfl⟩))
/-! ### How deep -/
/-- No deeper than so many. -/
def Dp : Nat → T → Prop
  | 0, _ => False
  | n + 1, t => ∀ x ∈ t.ins, Dp n x
theorem Dp.succ : ∀ {n : Nat} {t : T}, Dp n t → Dp (n + 1) t
  | 0, _, h => h.elim
  | n + 1, _, h => fun x hx => Dp.succ (h x hx)
theorem Dp.le {n m : Nat} {t : T} (h : Dp n t) (hm : n ≤ m) : Dp m t := by
  induction m with
  | zero => obtain rfl : n = 0 := by omega
            exact h
  | succ m ih =>
    rcases Nat.lt_or_ge n (m + 1) with k | k
    · exact (ih (by omega)).succ
    · obtain rfl : n = m + 1 := by omega
      exact h
def mxL : List Nat → Nat
  | [] => 0
  | x :: l => max x (mxL l)
theorem mxL_append (l m : List Nat) : mxL (l ++ m) = max (mxL l) (mxL m) := by
  induction l with
  | nil => simp [mxL]
  | cons x l ih => rw [List.cons_append, mxL, mxL, ih]; omega
theorem mxL_le {l : List Nat} {n : Nat} : mxL l ≤ n ↔ ∀ x ∈ l, x ≤ n := by
  induction l with
  | nil => simp [mxL]
  | cons x l ih => rw [mxL, Nat.max_le, ih]; simp
/-- How deep a type is nested. -/
def dpt : Nat → T → Nat
  | 0, _ => 0
  | n + 1, t => mxL (t.ins.map (dpt n)) + 1
theorem dpt_le : ∀ (n : Nat) (t : T), dpt n t ≤ n
  | 0, _ => Nat.le_refl _
  | n + 1, t => by
    rw [dpt]
    have : mxL (t.ins.map (dpt n)) ≤ n := mxL_le.2 fun x hx => by
      obtain ⟨y, -, rfl⟩ := List.mem_map.1 hx
      exact dpt_le n y
    omega
/-! ### What may be -/
def cmpB (a b : ByteArray) : Int := Lib.compareBytes a.data.toList b.data.toList
/-- Each name is less than the next one. -/
def rises : List ByteArray → Bool
  | [] => true
  | [_] => true
  | x :: y :: l => decide (cmpB x y < 0) && rises (y :: l)
theorem rises_iff : ∀ l : List ByteArray, rises l = true ↔ ∀ i (h : i + 1 < l.length), cmpB (l[i]'(by omega)) l[i + 1] < 0
  | [] => by simp [rises]
  | [_] => by simp [rises]
  | x :: y :: l => by
    rw [rises, Bool.and_eq_true, decide_eq_true_iff, rises_iff (y :: l)]
    constructor
    · rintro ⟨h1, h2⟩ i h
      match i, h with
      | 0, _ => exact h1
      | i + 1, h => exact h2 i (by simpa using h)
    · intro h
      exact ⟨h 0 (by simp), fun i hi => h (i + 1) (by simpa using hi)⟩
def mayH (t : T) : Bool := decide (0 ≤ t.k ∧ t.k ≤ 8 ∧ (t.k = 7 → t.l.length = 1))
def mayB : Nat → T → Bool
  | 0, _ => false
  | n + 1, t => mayH t && rises (t.ats.map an) && t.ins.all (mayB n)
theorem mayB_succ {n : Nat} {t : T} : mayB (n + 1) t = true ↔ mayH t = true ∧ rises (t.ats.map an) = true ∧ ∀ x ∈ t.ins, mayB n x = true := by
  rw [mayB, Bool.and_eq_true, Bool.and_eq_true, List.all_eq_true]
  exact ⟨fun h => ⟨h.1.1, h.1.2, h.2⟩, fun h => ⟨⟨h.1, h.2.1⟩, h.2.2⟩⟩
theorem may_set {n : Nat} {t : T} (h : mayB (n + 1) t = true) (hk : t.k = 7) : ∃ x, t.l = [x] ∧ t.hd = x ∧ mayB n x = true := by
  obtain ⟨h1, -, h3⟩ := mayB_succ.1 h
  unfold mayH at h1
  obtain ⟨-, -, h4⟩ := of_decide_eq_true h1
  obtain ⟨x, hx⟩ := List.length_eq_one_iff.1 (h4 hk)
  exact ⟨x, hx, by unfold T.hd; rw [hx]; rfl, h3 x (ins_l (by rw [hx]; simp))⟩
theorem may_as {n : Nat} {t : T} (h : mayB (n + 1) t = true) {x : At} (hx : x ∈ t.ats) : mayB n (aty x) = true := (mayB_succ.1 h).2.2 _ (ins_as hx)
/-! ### Which are below which -/
/-- Two rows have the same names, and something is so of each pair. -/
def pairB (f : At → At → Bool) : List At → List At → Bool
  | [], [] => true
  | x :: l, y :: m => decide (an x = an y) && f x y && pairB f l m
  | _, _ => false
theorem pairB_iff {f : At → At → Bool} : ∀ l m : List At, pairB f l m = true ↔ l.length = m.length ∧ ∀ j (h1 : j < l.length) (h2 : j < m.length), an l[j] = an m[j] ∧ f l[j] m[j] = true
  | [], [] => by simp [pairB]
  | [], _ :: _ => by simp [pairB]
  | _ :: _, [] => by simp [pairB]
  | x :: l, y :: m => by
    rw [pairB, Bool.and_eq_true, Bool.and_eq_true, decide_eq_true_iff, pairB_iff l m]
    constructor
    · rintro ⟨⟨h1, h2⟩, h3, h4⟩
      refine ⟨by simp [h3], fun j j1 j2 => ?_⟩
      match j, j1, j2 with
      | 0, _, _ => exact ⟨h1, h2⟩
      | j + 1, j1, j2 => exact h4 j (by simpa using j1) (by simpa using j2)
    · rintro ⟨h3, h4⟩
      refine ⟨?_, by simpa using h3, fun j j1 j2 => h4 (j + 1) (by simpa using j1) (by simpa using j2)⟩
      exact h4 0 (by simp) (by simp)
def belB : Nat → T → T → Bool
  | 0, _, _ => false
  | n + 1, a, b =>
    if a.k = 0 ∨ ((a.k = 1 ∨ a.k = 2) ∧ b.k = 3) then true
    else if a.k ≠ b.k then false
    else if a.k = 6 then decide (a.n = b.n)
    else if a.k = 7 then belB n a.hd b.hd
    else if a.k = 8 then pairB (fun x y => (!ao x || ao y) && belB n (aty x) (aty y)) a.ats b.ats
    else true
/-! ### The least one above two -/
end Go.Proofs.YtnenjgngahipdaaGreat
namespace Go.Proofs.YtnenjgngahipdaaGreat
open Go.RowKit
section
variable {α : Type}
/-- The slice holds just these, in a block of the call's own. -/
def OwnR (e : TypeId) (k : Nat) (enc : α → List Value) (B : Nat) (w : World) (v : Value) (l : List α) : Prop := w.ownsRow B e k v l.length (l.flatMap enc)
theorem flat_len {k : Nat} {enc : α → List Value} (hk : ∀ x, (enc x).length = k) (l : List α) : (l.flatMap enc).length = l.length * k := by
  induction l with
  | nil => simp
  | cons x l ih => rw [List.flatMap_cons, List.length_append, hk, ih, List.length_cons, Nat.add_mul]; omega
theorem flat_at {k : Nat} {enc : α → List Value} (hk : ∀ x, (enc x).length = k) : ∀ (l : List α) (j c : Nat) (hj : j < l.length), c < k → (l.flatMap enc)[j * k + c]? = (enc l[j])[c]?
  | [], j, c, hj, _ => absurd hj (Nat.not_lt_zero _)
  | x :: l, 0, c, _, hc => by
    rw [List.flatMap_cons, Nat.zero_mul, Nat.zero_add, List.getElem?_append_left (by rw [hk]; exact hc)]; rfl
  | x :: l, j + 1, c, hj, hc => by
    rw [List.flatMap_cons, List.getElem?_append_right (by rw [hk, Nat.add_mul]; omega), hk, show (j + 1) * k + c - k = j * k + c by rw [Nat.add_mul]; omega, flat_at hk l j c (by simpa using hj) hc]
    simp
theorem OwnR.nil (e : TypeId) (k : Nat) (enc : α → List Value) (B : Nat) (w : World) : OwnR e k enc B w (.slice none 0 0) [] := World.ownsRow_nil _ _ _ _
theorem OwnR.alloc {e : TypeId} {k : Nat} {enc : α → List Value} {B : Nat} {w : World} {v : Value} {l : List α} (h : OwnR e k enc B w v l) (o : Obj) : OwnR e k enc B (w.alloc o) v l := World.ownsRow.alloc h o
/-- The row's block as it was: the row as it was. -/
theorem OwnR.to {e : TypeId} {k : Nat} {enc : α → List Value} {B : Nat} {w w' : World} {v : Value} {l : List α} (h : OwnR e k enc B w v l) (hb : ∀ g, v.ownBlock = some g → w'.heap[g]? = w.heap[g]?) : OwnR e k enc B w' v l := by
  refine ⟨h.1, ?_⟩
  rcases h.2 with hn | ⟨g, cap, cur, rfl, h1, h2, h3⟩
  · exact .inl hn
  · exact .inr ⟨g, cap, cur, rfl, h1, (hb g rfl).trans h2, h3⟩
theorem OwnR.low {e : TypeId} {k : Nat} {enc : α → List Value} {B : Nat} {w w' : World} {v : Value} {l : List α} (h : OwnR e k enc B w v l) (hl : Low w w') : OwnR e k enc B w' v l :=
  h.to fun g hg => hl.2.2.2 g (World.ownsRow.lt h g hg).2
theorem OwnR.base {e : TypeId} {k : Nat} {enc : α → List Value} {B B' : Nat} {w : World} {v : Value} {l : List α} (h : OwnR e k enc B w v l) (hb : B' ≤ B) : OwnR e k enc B' w v l := by
  refine ⟨h.1, ?_⟩
  rcases h.2 with hn | ⟨g, cap, cur, rfl, h1, h2, h3⟩
  · exact .inl hn
  · exact .inr ⟨g, cap, cur, rfl, Nat.le_trans hb h1, h2, h3⟩
theorem OwnR.shape {e : TypeId} {k : Nat} {enc : α → List Value} {B : Nat} {w : World} {v : Value} {l : List α} (h : OwnR e k enc B w v l) : ∃ ao cap, v = .slice ao l.length cap ∧ l.length ≤ cap ∧ cap ≤ 9223372036854775807 ∧ (l = [] ∨ ∃ g, ao = some ⟨g, 0, none⟩ ∧ B ≤ g ∧ g < w.heap.size) := by
  have hlt := World.ownsRow.lt h
  rcases h.2 with ⟨rfl, hn⟩ | ⟨g, cap, cur, rfl, h1, h2, h3, h4, h5⟩
  · exact ⟨none, 0, by rw [hn], by omega, by omega, .inl (List.eq_nil_of_length_eq_zero hn)⟩
  · exact ⟨_, cap, rfl, h3, by unfold maxLen at h4; omega, .inr ⟨g, rfl, h1, (hlt g rfl).2⟩⟩
theorem OwnR.cell {e : TypeId} {k : Nat} {enc : α → List Value} (hk : ∀ x, (enc x).length = k) {B : Nat} {w : World} {g cap n : Nat} {l : List α} (h : OwnR e k enc B w (.slice (some ⟨g, 0, none⟩) n cap) l) (j c : Nat) (hj : j < l.length) (hc : c < k) :
    w.cell? ⟨g, j * k + c, none⟩ = (enc l[j])[c]? := by
  have h1 := World.ownsRow.cells h (g := g) rfl (j * k + c) ((enc l[j])[c]'(by rw [hk]; exact hc)) (by rw [flat_at hk l j c hj hc]; exact List.getElem?_eq_getElem _)
  rw [Addr.add_lit, Nat.zero_add] at h1
  rw [h1, List.getElem?_eq_getElem (by rw [hk]; exact hc)]
theorem OwnR.frozen {e : TypeId} {k : Nat} {enc : α → List Value} {B : Nat} {w : World} {g cap n : Nat} {l : List α} (h : OwnR e k enc B w (.slice (some ⟨g, 0, none⟩) n cap) l) (j : Nat) : w.frozen? ⟨g, j, none⟩ = false := by
  rcases h.2 with ⟨hv, _⟩ | ⟨g', cap', cur, hv, h1, h2, _⟩
  · simp at hv
  · simp only [Value.slice.injEq, Option.some.injEq, Addr.mk.injEq] at hv
    obtain ⟨⟨rfl, -, -⟩, -, -⟩ := hv
    simp [World.frozen?, h2]
/-- append of one element: the row as it was and the element; in the same block, or in a new one. -/
theorem appR {e : TypeId} {k : Nat} {enc : α → List Value} {ops : Array Oper} {rest : List Oper} {o : Oper} {a : Act} {w : World} {Q : Exit → Act → World → Prop} (hgd : o.guard = none) (s x : Operand) (t : TypeId)
    (ho : o.op = .call { callee := .builtin .append, args := #[s, x], argTypes := #[t, t] }) (ht : Tryz.prog.underlying t = some (.slice e)) {z : Value} {bytes : Nat}
    (hinfo : (Tryz.prog.info? e).map (fun i => (i.zero, i.size, i.bytes)) = some (some z, k, bytes)) (hz : z.cells.size = k) (hk0 : 0 < k) (hby : bytes ≤ 1000)
    (hk : ∀ x, (enc x).length = k) (h1 : ∀ x, ∀ u ∈ enc x, u.oneCell' = true)
    (B : Nat) (v : Value) (l : List α) (hs : a.eval s = v) (hown : OwnR e k enc B w v l) (y : α) (ad : Addr) (c : Nat) (hx : a.eval x = .slice (some ad) 1 c)
    (hnews : ∀ j u, (enc y)[j]? = some u → w.cell? (ad.add j) = some u) (hlen : l.length ≤ 1000000) (hb : B ≤ w.heap.size)
    (h : ∀ v' w', OwnR e k enc B w' v' (l ++ [y]) → Below B w w' → (∀ b, b < w.heap.size → some b ≠ v.ownBlock → w'.heap[b]? = w.heap[b]?) → (v'.ownBlock = v.ownBlock ∨ ∀ g, v'.ownBlock = some g → w.heap.size ≤ g) → wpList Tryz.prog ops Q rest (a.put o.dst v') w') :
    wpList Tryz.prog ops Q (o :: rest) a w := by
  obtain ⟨i0, hi, hz0, hz1, hz2⟩ := info_parts hinfo
  have hby2 : (l.length + 1) * bytes ≤ 140737488355328 := by
    have := Nat.mul_le_mul (show l.length + 1 ≤ 1000001 by omega) hby
    omega
  have hnl : (enc y).length = 1 * k := by rw [hk, Nat.one_mul]
  have happ : (l ++ [y]).flatMap enc = l.flatMap enc ++ enc y := by simp
  have hlt := World.ownsRow.lt hown
  rcases hown.2 with ⟨rfl, hn⟩ | ⟨g, cap, cur, rfl, hbg, hg, hnc, hcm, hcs, htake⟩
  · have hl : l = [] := List.eq_nil_of_length_eq_zero hn
    subst hl
    refine wpList_append_grows w hgd s x t ho e i0 z k bytes ht hi hz0 hz1 hz2 hz hk0 none 0 0 [] hs (fun _ => ⟨rfl, rfl⟩) (by simp) (fun b hb => by simp at hb) ad 1 c (enc y) hx hnl hnews (h1 y) (by omega) (by unfold maxLen; omega) (by simpa using hby2) fun v' w' r1 r2 => ?_
    have r3 : OwnR e k enc w.heap.size w' v' ([] ++ [y]) := by unfold OwnR; rw [happ]; exact r1
    exact h v' w' (r3.base hb) ((Below.refl _ _).grown r2 hb (by simp)) (fun b hb _ => r2.block b hb (by simp)) (.inr fun g hg => (World.ownsRow.lt r3 g hg).1)
  · by_cases hroom : l.length + 1 ≤ cap
    · refine wpList_append_fits w hgd s x t ho B e i0 k ht hi hz1 g l.length cap (l.flatMap enc) hs hown ad 1 c (enc y) hx hnl hnews (h1 y) hroom fun w' r1 r2 => ?_
      refine h _ w' ?_ ((Below.refl _ _).grown r2 hb fun k hk => by simp at hk; subst hk; exact hbg) (fun b hb hne => r2.block b hb hne) (.inl rfl)
      unfold OwnR; rw [happ, List.length_append]; exact r1
    · have holds : ∀ b, some (⟨g, 0, none⟩ : Addr) = some b → ∀ j u, (l.flatMap enc)[j]? = some u → w.cell? (b.add j) = some u := fun b hb => by
        simp only [Option.some.injEq] at hb
        subst hb
        exact World.ownsRow.cells hown (g := g) rfl
      refine wpList_append_grows w hgd s x t ho e i0 z k bytes ht hi hz0 hz1 hz2 hz hk0 (some ⟨g, 0, none⟩) l.length cap (l.flatMap enc) hs (fun h => by simp at h) hown.1 holds ad 1 c (enc y) hx hnl hnews (h1 y) (by omega) (by unfold maxLen; omega) hby2 fun v' w' r1 r2 => ?_
      have r3 : OwnR e k enc w.heap.size w' v' (l ++ [y]) := by unfold OwnR; rw [happ, List.length_append]; exact r1
      exact h v' w' (r3.base hb) ((Below.refl _ _).grown r2 hb (by simp)) (fun b hb _ => r2.block b hb (by simp)) (.inr fun g hg => (World.ownsRow.lt r3 g hg).1)
end
/-- The cells of a new block. -/
theorem newcell_at (w : World) (C : Array Value) (t : TypeId) (n : Nat) (cs : List Value) (hC : C = cs.toArray) {j : Nat} {u : Value} (hj : cs[j]? = some u) (hn : n = w.heap.size := by simp) : (w.alloc (.cells C t)).cell? ((⟨n, 0, none⟩ : Addr).add j) = some u := by
  rw [hn, Addr.add_lit, Nat.zero_add, World.cell?_alloc_mark, hC]
  simpa using hj
end Go.Proofs.YtnenjgngahipdaaGreat
