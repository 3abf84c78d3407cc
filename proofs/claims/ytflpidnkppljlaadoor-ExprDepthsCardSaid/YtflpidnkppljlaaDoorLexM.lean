/- The longest mark that stands ahead, found by a look at each mark in its order. No condition. -/
import Derived.Test.YtflpidnkppljlaaDoorExP
set_option linter.unusedVariables false
set_option linter.unnecessarySimpa false
set_option linter.unusedSimpArgs false
namespace Go.Proofs.YtflpidnkppljlaaDoor
/-! ### Marks -/
def marksL : List (List UInt8) := [[40], [41], [123], [125], [91], [93], [44], [59], [58], [58, 58], [46], [61, 61], [33, 61], [60], [60, 61], [62], [62, 61], [38, 38], [124, 124], [33], [43], [45], [42], [64]]
def mkL (i : Nat) : List UInt8 := marksL.getD i []
def mkS (i : Nat) : ByteArray := ⟨(mkL i).toArray⟩
/-- The longest of the first marks that stands ahead. -/
def bst (l : List UInt8) : Nat → List UInt8
  | 0 => []
  | i + 1 => if (decide ((bst l i).length < (mkL i).length) && (mkL i).isPrefixOf l) = true then mkL i else bst l i
def dcls (d : UInt8) : UInt8 := if d == 58 || d == 61 || d == 38 || d == 124 then d else 0
theorem bst_none : bst [] 24 = [] := by decide +kernel
theorem bst_one' : ∀ c : Fin 256, bst [UInt8.ofNat c.val] 24 = if mrk1 (UInt8.ofNat c.val) = true then [UInt8.ofNat c.val] else [] := by decide +kernel
theorem bst_two' : ∀ c : Fin 256, ∀ d : Fin 5, bst [UInt8.ofNat c.val, [(58 : UInt8), 61, 38, 124, 0].getD d.val 0] 24 = if mrk2 (UInt8.ofNat c.val) ([(58 : UInt8), 61, 38, 124, 0].getD d.val 0) = true then [UInt8.ofNat c.val, [(58 : UInt8), 61, 38, 124, 0].getD d.val 0] else if mrk1 (UInt8.ofNat c.val) = true then [UInt8.ofNat c.val] else [] := by decide +kernel
theorem bst_one (c : UInt8) : bst [c] 24 = if mrk1 c = true then [c] else [] := by
  have := bst_one' ⟨c.toNat, c.toNat_lt⟩
  simpa using this
theorem bst_two (c d : UInt8) (h : d = 58 ∨ d = 61 ∨ d = 38 ∨ d = 124 ∨ d = 0) : bst [c, d] 24 = if mrk2 c d = true then [c, d] else if mrk1 c = true then [c] else [] := by
  rcases h with rfl | rfl | rfl | rfl | rfl
  · have := bst_two' ⟨c.toNat, c.toNat_lt⟩ 0; simpa using this
  · have := bst_two' ⟨c.toNat, c.toNat_lt⟩ 1; simpa using this
  · have := bst_two' ⟨c.toNat, c.toNat_lt⟩ 2; simpa using this
  · have := bst_two' ⟨c.toNat, c.toNat_lt⟩ 3
    rwa [show [(58 : UInt8), 61, 38, 124, 0].getD (3 : Fin 5).val 0 = 124 from rfl, show UInt8.ofNat (⟨c.toNat, c.toNat_lt⟩ : Fin 256).val = c from by simp] at this
  · have := bst_two' ⟨c.toNat, c.toNat_lt⟩ 4
    rwa [show [(58 : UInt8), 61, 38, 124, 0].getD (4 : Fin 5).val 0 = 0 from rfl, show UInt8.ofNat (⟨c.toNat, c.toNat_lt⟩ : Fin 256).val = c from by simp] at this
theorem mk_pre (c d : UInt8) (r : List UInt8) : ∀ i : Nat, (mkL i).isPrefixOf (c :: d :: r) = (mkL i).isPrefixOf [c, dcls d] := by
  have all : ∀ m ∈ marksL, m.length = 1 ∨ (m.length = 2 ∧ (m.getLast? = some 58 ∨ m.getLast? = some 61 ∨ m.getLast? = some 38 ∨ m.getLast? = some 124)) := by decide
  have key : ∀ i : Nat, mkL i = [] ∨ (∃ a, mkL i = [a]) ∨ ∃ a b, mkL i = [a, b] ∧ (b = 58 ∨ b = 61 ∨ b = 38 ∨ b = 124) := by
    intro i
    unfold mkL
    rw [List.getD_eq_getElem?_getD]
    cases hm : marksL[i]? with
    | none => exact .inl rfl
    | some m =>
      right
      have h := all m (List.mem_of_getElem? hm)
      simp only [Option.getD_some]
      match m with
      | [] => simp at h
      | [a] => exact .inl ⟨a, rfl⟩
      | [a, b] => exact .inr ⟨a, b, rfl, by simpa using h⟩
      | _ :: _ :: _ :: _ => simp at h
  intro i
  rcases key i with h | ⟨a, h⟩ | ⟨a, b, h, hb⟩
  · rw [h]; rfl
  · rw [h]; simp [List.isPrefixOf]
  · rw [h]
    have hd : (b == d) = (b == dcls d) := by
      unfold dcls
      by_cases h1 : (d == 58 || d == 61 || d == 38 || d == 124) = true
      · rw [if_pos h1]
      · rw [if_neg h1]
        simp at h1
        obtain ⟨⟨⟨n1, n2⟩, n3⟩, n4⟩ := h1
        rcases hb with rfl | rfl | rfl | rfl
        · rw [beq_eq_false_iff_ne.2 (Ne.symm n1)]; decide
        · rw [beq_eq_false_iff_ne.2 (Ne.symm n2)]; decide
        · rw [beq_eq_false_iff_ne.2 (Ne.symm n3)]; decide
        · rw [beq_eq_false_iff_ne.2 (Ne.symm n4)]; decide
    simp [List.isPrefixOf, hd]
theorem bst_cls (c d : UInt8) (r : List UInt8) : ∀ i, bst (c :: d :: r) i = bst [c, dcls d] i
  | 0 => rfl
  | i + 1 => by rw [bst, bst, bst_cls c d r i, mk_pre]
theorem bst_all (l : List UInt8) : bst l 24 = l.take (mrkN l) := by
  match l with
  | [] => exact bst_none
  | [c] =>
    rw [bst_one]
    show _ = [c].take (if mrk1 c = true then 1 else 0)
    split <;> rfl
  | c :: d :: r =>
    rw [bst_cls]
    show _ = (c :: d :: r).take (if mrk2 c d = true then 2 else if mrk1 c = true then 1 else 0)
    by_cases h1 : (d == 58 || d == 61 || d == 38 || d == 124) = true
    · have hd : dcls d = d := by unfold dcls; rw [if_pos h1]
      rw [hd, bst_two c d (by simp at h1; rcases h1 with ((h | h) | h) | h <;> simp [h])]
      split
      · rfl
      · split <;> rfl
    · have hd : dcls d = 0 := by unfold dcls; rw [if_neg h1]
      have h2 : mrk2 c d = false := by
        simp at h1
        obtain ⟨⟨⟨n1, n2⟩, n3⟩, n4⟩ := h1
        unfold mrk2
        simp [n1, n2, n3, n4]
      have h3 : mrk2 c 0 = false := by unfold mrk2; simp
      rw [hd, bst_two c 0 (by simp), h2, h3]
      show (if mrk1 c = true then [c] else []) = (c :: d :: r).take (if mrk1 c = true then 1 else 0)
      split <;> rfl
end Go.Proofs.YtflpidnkppljlaaDoor
