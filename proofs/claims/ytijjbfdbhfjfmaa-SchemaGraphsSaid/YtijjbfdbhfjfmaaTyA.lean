/- The reference's Attr and Names, and its Check. Condition: as said. -/
import Derived.Test.YtijjbfdbhfjfmaaTyX
namespace Go.Proofs.Ytijjbfdbhfjfmaa
open Go.RowKit
/-- Where a name is first; -1: nowhere. -/
def atI (l : List At) (s : ByteArray) : Int := match l.findIdx? (fun x => decide (an x = s)) with | some i => (i : Int) | none => -1
theorem atI_some {l : List At} {s : ByteArray} {i : Nat} (hi : i < l.length) (h : an l[i] = s) (h2 : ∀ j (hj : j < l.length), j < i → an l[j] ≠ s) : atI l s = (i : Int) := by
  unfold atI
  have : l.findIdx? (fun x => decide (an x = s)) = some i := by
    rw [List.findIdx?_eq_some_iff_getElem]
    exact ⟨hi, by simpa using h, fun j hj => by simpa using h2 j (by omega) hj⟩
  rw [this]
theorem atI_none {l : List At} {s : ByteArray} (h2 : ∀ j (hj : j < l.length), an l[j] ≠ s) : atI l s = -1 := by
  unfold atI
  have : l.findIdx? (fun x => decide (an x = s)) = none := by
    rw [List.findIdx?_eq_none_iff]
    intro x hx
    obtain ⟨j, hj, rfl⟩ := List.getElem_of_mem hx
    simpa using h2 j hj
  rw [this]
theorem atI_cases (l : List At) (s : ByteArray) : (∃ i, ∃ hi : i < l.length, atI l s = (i : Int) ∧ an l[i] = s) ∨ atI l s = -1 := by
  unfold atI
  cases h : l.findIdx? (fun x => decide (an x = s)) with
  | none => exact .inr rfl
  | some i =>
    rw [List.findIdx?_eq_some_iff_getElem] at h
    obtain ⟨hi, h, -⟩ := h
    exact .inl ⟨i, hi, rfl, by simpa using h⟩
def namesB (l m : List At) : Bool := decide (l.map an = m.map an)
theorem namesB_no {l m : List At} {j : Nat} (h1 : j < l.length) (h2 : j < m.length) (h : an l[j] ≠ an m[j]) : namesB l m = false := decide_eq_false fun e => h (by
  have := congrArg (fun x => x[j]?) e
  simpa [h1, h2] using this)
theorem namesB_len {l m : List At} (h : l.length ≠ m.length) : namesB l m = false := decide_eq_false fun e => h (by simpa using congrArg List.length e)
theorem namesB_yes {l m : List At} (h : l.length = m.length) (h2 : ∀ j (h1 : j < l.length) (h2 : j < m.length), an l[j] = an m[j]) : namesB l m = true := decide_eq_true (List.ext_getElem (by simpa using h) fun j h3 h4 => by
  simp only [List.getElem_map]; exact h2 j (by simpa using h3) (by simpa using h4))
end Go.Proofs.Ytijjbfdbhfjfmaa
