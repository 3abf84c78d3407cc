/- Plain: rows of names under names; what is reached of a name; a list that grows while it is gone through. No condition. -/
import Derived.Test.YtijjbfdbhfjfmaaKahP
namespace Go.Proofs.Ytijjbfdbhfjfmaa
structure Nm where
  s : ByteArray
  hs : s.size ≤ 9223372036854775807
theorem Nm.ext' : ∀ {a b : Nm}, a.s = b.s → a = b
  | ⟨_, _⟩, ⟨_, _⟩, rfl => rfl
instance : DecidableEq Nm := fun a b => if h : a.s = b.s then .isTrue (Nm.ext' h) else .isFalse fun e => h (e ▸ rfl)
/-- Rows under names: the first one of a name is meant. -/
abbrev Gra := List (Nm × List Nm)
def look (g : Gra) (x : Nm) : Option (List Nm) := (g.find? fun p => decide (p.1 = x)).map (·.2)
def nxt (g : Gra) (x : Nm) : List Nm := (look g x).getD []
def Stp (g : Gra) (x y : Nm) : Prop := y ∈ nxt g x
noncomputable def ways (g : Gra) (a b : Nm) : Bool := @decide (Way (Stp g) a b) (Classical.propDecidable _)
theorem ways_iff {g : Gra} {a b : Nm} : ways g a b = true ↔ Way (Stp g) a b := by
  unfold ways; exact @decide_eq_true_iff _ (Classical.propDecidable _)
theorem ways_of {g : Gra} {a b : Nm} {q : Bool} (h : q = true ↔ Way (Stp g) a b) : q = ways g a b := by
  rw [Bool.eq_iff_iff, ways_iff]; exact h
theorem ways_trans {g : Gra} {a b c : Nm} (h : ways g a b = true) (k : ways g b c = true) : ways g a c = true := ways_iff.2 ((ways_iff.1 h).trans (ways_iff.1 k))
/-- A lookup in one row more. -/
theorem look_more {g : Gra} {p : Nm × List Nm} (x : Nm) : look (g ++ [p]) x = if (look g x).isSome = true then look g x else if p.1 = x then some p.2 else none := by
  unfold look
  rw [List.find?_append]
  cases h : g.find? fun s => decide (s.1 = x) with
  | some v => simp
  | none =>
    by_cases e : p.1 = x
    · simp [e]
    · simp [e]
theorem look_there {g : Gra} {p : Nm × List Nm} (h : (look g p.1).isSome = true) : look (g ++ [p]) = look g := by
  funext x
  rw [look_more]
  by_cases e : (look g x).isSome = true
  · rw [if_pos e]
  · rw [if_neg e, if_neg (fun hx : p.1 = x => e (hx ▸ h))]
    cases hf : look g x with
    | none => rfl
    | some v => rw [hf] at e; simp at e
theorem look_new {g : Gra} {p : Nm × List Nm} (h : (look g p.1).isSome = false) (x : Nm) : look (g ++ [p]) x = if x = p.1 then some p.2 else look g x := by
  rw [look_more]
  by_cases e : x = p.1
  · rw [if_pos e, e, h]; simp
  · rw [if_neg e, if_neg (Ne.symm e)]
    by_cases e2 : (look g x).isSome = true
    · rw [if_pos e2]
    · rw [if_neg e2]
      cases hf : look g x with
      | none => rfl
      | some v => rw [hf] at e2; simp at e2
theorem look_mem {g : Gra} {x : Nm} : (look g x).isSome = true ↔ ∃ p ∈ g, p.1 = x := by
  unfold look
  simp
theorem look_in {g : Gra} {x : Nm} {l : List Nm} (h : look g x = some l) : ∃ p ∈ g, p.1 = x ∧ p.2 = l := by
  unfold look at h
  obtain ⟨p, hp, rfl⟩ := Option.map_eq_some_iff.1 h
  exact ⟨p, List.mem_of_find?_eq_some hp, by simpa using List.find?_some hp, rfl⟩
/-- Not too many. -/
def FewG (g : Gra) : Prop := g.length ≤ 100 ∧ ∀ p ∈ g, p.2.length ≤ 100
def tot (g : Gra) : List Nm := g.flatMap (·.2)
theorem nxt_tot {g : Gra} {x y : Nm} (h : y ∈ nxt g x) : y ∈ tot g := by
  unfold nxt at h
  cases hl : look g x with
  | none => rw [hl] at h; simp at h
  | some l =>
    rw [hl] at h
    obtain ⟨p, hp, -, rfl⟩ := look_in hl
    exact List.mem_flatMap.2 ⟨p, hp, h⟩
theorem nxt_len {g : Gra} (hg : FewG g) (x : Nm) : (nxt g x).length ≤ 100 := by
  unfold nxt
  cases hl : look g x with
  | none => simp
  | some l =>
    obtain ⟨p, hp, -, rfl⟩ := look_in hl
    exact hg.2 p hp
theorem flat_le {α β : Type} {f : α → List β} {m : Nat} : ∀ {l : List α}, (∀ x ∈ l, (f x).length ≤ m) → (l.flatMap f).length ≤ l.length * m
  | [], _ => by simp
  | x :: l, h => by
    have h1 := h x (by simp)
    have h2 := flat_le (l := l) fun y hy => h y (by simp [hy])
    rw [List.flatMap_cons, List.length_append, List.length_cons, Nat.add_mul]; omega
theorem tot_len {g : Gra} (hg : FewG g) : (tot g).length ≤ 10000 := by
  have h1 := flat_le (f := fun p : Nm × List Nm => p.2) hg.2
  have := hg.1
  show (g.flatMap (·.2)).length ≤ 10000
  calc _ ≤ g.length * 100 := h1
    _ ≤ 100 * 100 := Nat.mul_le_mul_right _ this
theorem keys_len {g : Gra} {ks : List Nm} (hn : ks.Nodup) (h : ∀ a ∈ ks, (look g a).isSome = true) : ks.length ≤ g.length := by
  have e : (g.map (·.1)).length = g.length := by simp
  rw [← e]
  exact len_sub ks _ hn fun x hx => by
    obtain ⟨p, hp, rfl⟩ := look_mem.1 (h x hx)
    exact List.mem_map_of_mem hp
theorem flat_len2 {g : Gra} (hg : FewG g) {ks : List Nm} (hn : ks.Nodup) (h : ∀ a ∈ ks, (look g a).isSome = true) : (ks.flatMap (nxt g)).length ≤ 10000 := by
  have h1 := flat_le (f := nxt g) (l := ks) fun x _ => nxt_len hg x
  have h2 := keys_len hn h
  have := hg.1
  calc _ ≤ ks.length * 100 := h1
    _ ≤ 100 * 100 := Nat.mul_le_mul_right _ (by omega)
/-- Names are one by one just if the keys are as many as the rows. -/
theorem nodup_len {α : Type} [DecidableEq α] : ∀ {l ks : List α}, ks.Nodup → (∀ x, x ∈ ks ↔ x ∈ l) → (ks.length < l.length ↔ ¬ l.Nodup) := by
  intro l
  induction l with
  | nil =>
    intro ks _ h
    simp
  | cons x l ih =>
    intro ks hn h
    have hx : x ∈ ks := (h x).2 (by simp)
    have hp := List.length_pos_of_mem hx
    by_cases hxl : x ∈ l
    · have h1 : ks.length ≤ l.length := len_sub ks l hn fun y hy => by
        rcases List.mem_cons.1 ((h y).1 hy) with rfl | e
        · exact hxl
        · exact e
      exact iff_of_true (by simp; omega) (fun hd => (List.nodup_cons.1 hd).1 hxl)
    · have h2 := ih (ks := ks.erase x) (hn.erase x) fun y => by
        rw [hn.mem_erase_iff]
        constructor
        · rintro ⟨h1, h2⟩
          rcases List.mem_cons.1 ((h y).1 h2) with e | e
          · exact absurd e h1
          · exact e
        · intro hy
          exact ⟨fun e => hxl (e ▸ hy), (h y).2 (by simp [hy])⟩
      rw [List.length_erase_of_mem hx] at h2
      rw [List.nodup_cons]
      constructor
      · intro hl hd
        exact h2.1 (by simp at hl; omega) hd.2
      · intro hd
        have := h2.2 fun e => hd ⟨hxl, e⟩
        simp; omega
/-! ### What is reached -/
structure Bf (g : Gra) (low : Nm) (L R : List Nm) (i : Nat) : Prop where
  way : ∀ r ∈ R, Way (Stp g) low r
  lw : ∀ x ∈ L, x = low ∨ x ∈ R
  rl : ∀ r ∈ R, r ∈ L
  shut : ∀ k x, k < i → L[k]? = some x → ∀ y ∈ nxt g x, y ∈ R
structure Bi (g : Gra) (low : Nm) (L R : List Nm) (i : Nat) (x : Nm) (k : Nat) : Prop where
  b : Bf g low L R i
  atx : L[i]? = some x
  row : ∀ y ∈ (nxt g x).take k, y ∈ R
theorem Bf.take {g : Gra} {low : Nm} {L R : List Nm} {i : Nat} {x : Nm} (h : Bf g low L R i) (hx : L[i]? = some x) : Bi g low L R i x 0 := ⟨h, hx, by simp⟩
theorem Bi.old {g : Gra} {low : Nm} {L R : List Nm} {i k : Nat} {x y : Nm} (h : Bi g low L R i x k) (hk : k < (nxt g x).length) (hy : (nxt g x)[k] = y) (hm : y ∈ R) : Bi g low L R i x (k + 1) :=
  ⟨h.b, h.atx, fun z hz => by
    rw [List.take_succ_eq_append_getElem hk, hy] at hz
    rcases List.mem_append.1 hz with hz | hz
    · exact h.row z hz
    · simp at hz; rw [hz]; exact hm⟩
theorem Bi.new {g : Gra} {low : Nm} {L R : List Nm} {i k : Nat} {x y : Nm} (h : Bi g low L R i x k) (hk : k < (nxt g x).length) (hy : (nxt g x)[k] = y) : Bi g low (L ++ [y]) (R ++ [y]) i x (k + 1) := by
  have hi : i < L.length := (List.getElem?_eq_some_iff.1 h.atx).1
  have hw : Way (Stp g) low y := by
    have hs : Stp g x y := by unfold Stp; rw [← hy]; exact List.getElem_mem hk
    rcases h.b.lw x (List.mem_of_getElem? h.atx) with rfl | hr
    · exact .one hs
    · exact .more (h.b.way x hr) hs
  refine ⟨⟨fun r hr => ?_, fun z hz => ?_, fun r hr => ?_, fun j z hj hz w hw' => ?_⟩, ?_, fun z hz => ?_⟩
  · rcases List.mem_append.1 hr with hr | hr
    · exact h.b.way r hr
    · simp at hr; rw [hr]; exact hw
  · rcases List.mem_append.1 hz with hz | hz
    · exact (h.b.lw z hz).imp id fun e => List.mem_append.2 (.inl e)
    · exact .inr (List.mem_append.2 (.inr hz))
  · rcases List.mem_append.1 hr with hr | hr
    · exact List.mem_append.2 (.inl (h.b.rl r hr))
    · exact List.mem_append.2 (.inr hr)
  · rw [List.getElem?_append_left (by omega)] at hz
    exact List.mem_append.2 (.inl (h.b.shut j z hj hz w hw'))
  · rw [List.getElem?_append_left hi]; exact h.atx
  · rw [List.take_succ_eq_append_getElem hk, hy] at hz
    rcases List.mem_append.1 hz with hz | hz
    · exact List.mem_append.2 (.inl (h.row z hz))
    · exact List.mem_append.2 (.inr hz)
theorem Bi.done {g : Gra} {low : Nm} {L R : List Nm} {i k : Nat} {x : Nm} (h : Bi g low L R i x k) (hk : (nxt g x).length ≤ k) : Bf g low L R (i + 1) :=
  ⟨h.b.way, h.b.lw, h.b.rl, fun j z hj hz w hw => by
    rcases Nat.lt_or_ge j i with h1 | h1
    · exact h.b.shut j z h1 hz w hw
    · obtain rfl : j = i := by omega
      rw [h.atx] at hz
      cases hz
      exact h.row w (by rw [List.take_of_length_le hk]; exact hw)⟩
theorem Bf.fin {g : Gra} {low high : Nm} {L R : List Nm} {i : Nat} (h : Bf g low L R i) (hi : L.length ≤ i) (h1 : ∀ y ∈ nxt g low, y ∈ R) : high ∈ R ↔ Way (Stp g) low high := by
  refine ⟨h.way high, fun w => ?_⟩
  induction w with
  | one s => exact h1 _ s
  | more _ s ih =>
    obtain ⟨k, hk, e⟩ := List.getElem_of_mem (h.rl _ ih)
    exact h.shut k _ (by omega) (by rw [List.getElem?_eq_getElem hk, e]) _ s
theorem Bf.len {g : Gra} {low : Nm} {L R : List Nm} {i : Nat} (h : Bf g low L R i) : ∀ r ∈ R, r ∈ tot g := fun r hr => by
  obtain ⟨b, s, -⟩ := (h.way r hr).last
  exact nxt_tot s
end Go.Proofs.Ytijjbfdbhfjfmaa
