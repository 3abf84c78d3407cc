/- Plain names: which rows of bytes are a name, and which are several with two colons between. No condition. -/
import Derived.WalkKit
namespace Go.Proofs.Ytijjbfdbhfjfmaa
def digB (c : UInt8) : Bool := decide (48 ≤ (c.toNat : Int) ∧ (c.toNat : Int) ≤ 57)
def letB (c : UInt8) : Bool := decide (97 ≤ (c.toNat : Int) ∧ (c.toNat : Int) ≤ 122 ∨ 65 ≤ (c.toNat : Int) ∧ (c.toNat : Int) ≤ 90)
def namB (c : UInt8) : Bool := letB c || digB c || c == 95
def letR (c : UInt8) : Bool := letB c || c == 95
def nameB (l : List UInt8) : Bool := match l with
  | [] => false
  | c :: r => !digB c && (c :: r).all namB
/-- Names with two colons between; 'acc': what stands ahead, of the name at hand. -/
def pathS (acc : List UInt8) : List UInt8 → Bool
  | [] => nameB acc
  | [c] => nameB (acc ++ [c])
  | c :: d :: r => if c == 58 && d == 58 then nameB acc && pathS [] r else pathS (acc ++ [c]) (d :: r)
def pathB (l : List UInt8) : Bool := pathS [] l
theorem pathS_colons (acc r : List UInt8) : pathS acc (58 :: 58 :: r) = (nameB acc && pathS [] r) := by
  simp [pathS]
theorem pathS_other (acc : List UInt8) (c : UInt8) (l : List UInt8) (h : ¬ (c = 58 ∧ l.head? = some 58)) : pathS acc (c :: l) = pathS (acc ++ [c]) l := by
  cases l with
  | nil => simp [pathS]
  | cons d r =>
    have h' : (c == 58 && d == 58) = false := by
      rw [Bool.eq_false_iff]; intro e
      simp at e
      exact h ⟨e.1, by simp [e.2]⟩
    rw [pathS, h']
    simp
theorem all_take {l : List UInt8} {k : Nat} (h : k < l.length) (hn : (l.take k).all namB = true) (hc : namB l[k] = true) : (l.take (k + 1)).all namB = true := by
  rw [List.take_succ_eq_append_getElem h, List.all_append, hn]; simp [hc]
theorem all_not {l : List UInt8} {k : Nat} (h : k < l.length) (hc : namB l[k] = false) : l.all namB = false := by
  rw [List.all_eq_false]; exact ⟨_, List.getElem_mem h, by simp [hc]⟩
theorem name_dig {l : List UInt8} (h : 0 < l.length) (hd : digB l[0] = true) : nameB l = false := by
  cases l with
  | nil => rfl
  | cons c r => simp at hd; simp [nameB, hd]
theorem name_all {l : List UInt8} (h : 0 < l.length) (hd : digB l[0] = false) : nameB l = l.all namB := by
  cases l with
  | nil => simp at h
  | cons c r => simp at hd; simp [nameB, hd]
/-- Where the first two colons stand, names are parted. -/
theorem pathS_none (acc l : List UInt8) (h : ∀ i, i + 1 < l.length → ¬ (l[i]? = some 58 ∧ l[i + 1]? = some 58)) : pathS acc l = nameB (acc ++ l) := by
  induction l generalizing acc with
  | nil => simp [pathS]
  | cons c r ih =>
    rw [pathS_other, ih]
    · simp
    · intro i hi
      have := h (i + 1) (by simp; omega)
      simpa using this
    · intro ⟨e1, e2⟩
      cases r with
      | nil => simp at e2
      | cons d r => exact h 0 (by simp) (by simp at e2; simpa using ⟨e1, e2⟩)
theorem pathS_at (k : Nat) : ∀ (acc l : List UInt8), k + 1 < l.length → (∀ i, i < k → ¬ (l[i]? = some 58 ∧ l[i + 1]? = some 58)) → l[k]? = some 58 → l[k + 1]? = some 58 →
    pathS acc l = (nameB (acc ++ l.take k) && pathB (l.drop (k + 2))) := by
  induction k with
  | zero =>
    intro acc l hl _ h1 h2
    match l, hl with
    | c :: d :: r, _ =>
      simp at h1 h2
      subst h1 h2
      rw [pathS_colons]; simp [pathB]
  | succ k ih =>
    intro acc l hl hn h1 h2
    match l, hl with
    | c :: r, hl =>
      rw [pathS_other, ih]
      · simp
      · simp at hl; omega
      · intro i hi
        have := hn (i + 1) (by omega)
        simpa using this
      · simpa using h1
      · simpa using h2
      · intro ⟨e1, e2⟩
        have := hn 0 (by omega)
        cases r with
        | nil => simp at e2
        | cons d r => exact this (by simp at e2; simpa using ⟨e1, e2⟩)
end Go.Proofs.Ytijjbfdbhfjfmaa
