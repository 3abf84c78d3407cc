/- Plain: names to which no step leads are taken away, one by one: what is left is a round, or nothing. No condition. -/
import Derived.Test.YtijjbfdbhfjfmaaCycP
namespace Go.Proofs.Ytijjbfdbhfjfmaa
section
variable {α : Type} [DecidableEq α]
/-- How many steps lead to a name from those that are left. -/
def occ (P : α → List α) (M : List α) (n : α) : Nat := (M.flatMap P).count n
theorem occ_pos {P : α → List α} {M : List α} {n : α} : 0 < occ P M n ↔ ∃ m ∈ M, n ∈ P m := by
  unfold occ
  rw [List.count_pos_iff, List.mem_flatMap]
theorem occ_erase {P : α → List α} {M : List α} {x : α} (hx : x ∈ M) (n : α) : occ P M n = (P x).count n + occ P (M.erase x) n := by
  unfold occ
  have h := (List.perm_cons_erase hx).flatMap_right P
  rw [h.count_eq, List.flatMap_cons, List.count_append]
theorem occ_erase_not {P : α → List α} {M : List α} {x : α} (hx : x ∉ M) (n : α) : occ P M n = occ P (M.erase x) n := by
  rw [List.erase_of_not_mem hx]
/-- Where the taking away stands: c: the counts; L: names to be taken away. -/
structure Kahn (P : α → List α) (K M L : List α) (c : α → Int) : Prop where
  cnt : ∀ n, c n = (occ P M n : Int)
  low : ∀ n ∈ M, c n = 0 → n ∈ L
  nil : ∀ n ∈ L, c n = 0
  rnd : ∀ a, Way (fun x y => x ∈ K ∧ y ∈ P x ∧ y ∈ K) a a → a ∈ M
  sub : ∀ n ∈ M, n ∈ K
theorem Kahn.start {P : α → List α} {K L : List α} {c : α → Int} (h1 : ∀ n, c n = (occ P K n : Int)) (h2 : ∀ n, n ∈ L ↔ n ∈ K ∧ c n = 0) : Kahn P K K L c :=
  ⟨h1, fun n hn h0 => (h2 n).2 ⟨hn, h0⟩, fun n hn => ((h2 n).1 hn).2, fun a w => by
    obtain ⟨b, ⟨h, _, _⟩, _⟩ := w.first
    exact h, fun _ h => h⟩
/-- Where the inner loop stands: j parents of the name are behind it. -/
structure KahnIn (P : α → List α) (K M L : List α) (c : α → Int) (x : α) (j : Nat) : Prop where
  cnt : ∀ n, c n = (occ P (M.erase x) n : Int) + ((if x ∈ M then (P x).drop j else []).count n : Int)
  low : ∀ n ∈ M.erase x, c n = 0 → n ∈ L
  nil : ∀ n ∈ L, c n = 0
  rnd : ∀ a, Way (fun x y => x ∈ K ∧ y ∈ P x ∧ y ∈ K) a a → a ∈ M.erase x
  sub : ∀ n ∈ M.erase x, n ∈ K
/-- The last name of the row is taken up. -/
theorem Kahn.take {P : α → List α} {K M L : List α} {c : α → Int} {x : α} (hM : M.Nodup) (h : Kahn P K M (L ++ [x]) c) : KahnIn P K M L c x 0 := by
  have hx : occ P M x = 0 := by
    have h1 := h.nil x (by simp)
    rw [h.cnt] at h1
    omega
  refine ⟨fun n => ?_, fun n hn h0 => ?_, fun n hn => h.nil n (by simp [hn]), fun a w => ?_, fun n hn => h.sub n (List.mem_of_mem_erase hn)⟩
  · rw [h.cnt, List.drop_zero]
    split
    · rename_i hm
      rw [occ_erase hm]; omega
    · rename_i hm
      rw [occ_erase_not hm]; simp
  · have := h.low n (List.mem_of_mem_erase hn) h0
    rw [List.mem_append] at this
    rcases this with h1 | h1
    · exact h1
    · simp at h1
      subst h1
      exact absurd hn (by rw [hM.mem_erase_iff]; simp)
  · have ha := h.rnd a w
    have hne : a ≠ x := by
      intro e
      subst e
      obtain ⟨b, ⟨hb, hp, _⟩, hw⟩ := round_back w
      have := (occ_pos (P := P) (M := M) (n := a)).2 ⟨b, h.rnd b hw, hp⟩
      omega
    exact (List.mem_erase_of_ne hne).2 ha
/-- One parent: its count falls by one; at nought it joins the row. -/
theorem KahnIn.step {P : α → List α} {K M L : List α} {c : α → Int} {x : α} {j : Nat} (h : KahnIn P K M L c x j) (hx : x ∈ M) (hj : j < (P x).length) :
    KahnIn P K M (if c (P x)[j] - 1 = 0 then L ++ [(P x)[j]] else L) (fun n => if n = (P x)[j] then c n - 1 else c n) x (j + 1) := by
  have hd : (P x).drop j = (P x)[j] :: (P x).drop (j + 1) := List.drop_eq_getElem_cons hj
  obtain ⟨p, hp⟩ : ∃ p, (P x)[j] = p := ⟨_, rfl⟩
  rw [hp] at hd ⊢
  have hc := h.cnt
  simp only [if_pos hx, hd, List.count_cons] at hc
  refine ⟨fun n => ?_, fun n hn h0 => ?_, fun n hn => ?_, h.rnd, h.sub⟩
  · simp only [if_pos hx]
    have := hc n
    by_cases e : n = p
    · rw [if_pos e, this, e]; simp; omega
    · rw [if_neg e, this]
      have : (p == n) = false := by simpa using fun e2 => e e2.symm
      simp [this]
  · by_cases e : n = p
    · rw [if_pos e] at h0
      rw [e] at h0
      rw [if_pos h0, e]; simp
    · rw [if_neg e] at h0
      have := h.low n hn h0
      split
      · simp [this]
      · exact this
  · have old : n ∈ L → (if n = p then c n - 1 else c n) = 0 := fun hn => by
      have h1 := h.nil n hn
      have h2 := hc n
      by_cases e : n = p
      · rw [h1, e] at h2
        simp at h2
        omega
      · rw [if_neg e]; exact h1
    by_cases e0 : c p - 1 = 0
    · rw [if_pos e0] at hn
      rcases List.mem_append.1 hn with hn | hn
      · exact old hn
      · simp at hn
        rw [if_pos hn, hn]; exact e0
    · rw [if_neg e0] at hn
      exact old hn
/-- Behind the inner loop the name is taken away. -/
theorem KahnIn.done {P : α → List α} {K M L : List α} {c : α → Int} {x : α} {j : Nat} (h : KahnIn P K M L c x j) (hj : x ∈ M → (P x).length ≤ j) : Kahn P K (M.erase x) L c := by
  refine ⟨fun n => ?_, h.low, h.nil, h.rnd, h.sub⟩
  rw [h.cnt]
  split
  · rename_i hx
    rw [List.drop_eq_nil_of_le (hj hx)]; simp
  · simp
/-- Where none is to be taken away, something is left just if some way goes round. -/
theorem Kahn.fin {P : α → List α} {K M : List α} {c : α → Int} (h : Kahn P K M [] c) : M ≠ [] ↔ ∃ a, Way (fun x y => x ∈ K ∧ y ∈ P x ∧ y ∈ K) a a := by
  constructor
  · intro hM
    have hp : ∀ n ∈ M, ∃ m ∈ M, (m ∈ K ∧ n ∈ P m ∧ n ∈ K) := fun n hn => by
      have h0 : c n ≠ 0 := fun e => by have := h.low n hn e; simp at this
      rw [h.cnt] at h0
      obtain ⟨m, hm, hq⟩ := occ_pos.1 (show 0 < occ P M n by omega)
      exact ⟨m, hm, h.sub m hm, hq, h.sub n hn⟩
    obtain ⟨a, _, w⟩ := round_left (S := fun x y => x ∈ K ∧ y ∈ P x ∧ y ∈ K) M hM hp
    exact ⟨a, w⟩
  · rintro ⟨a, w⟩ e
    have := h.rnd a w
    rw [e] at this; simp at this
end
end Go.Proofs.Ytijjbfdbhfjfmaa
