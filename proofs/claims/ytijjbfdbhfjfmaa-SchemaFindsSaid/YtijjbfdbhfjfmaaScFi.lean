/- Types and actions of any name, and all kinds of requests, are the document's. No condition but that the library's variable holds a number. -/
import Derived.Test.YtijjbfdbhfjfmaaScX
namespace Go.Proofs.Ytijjbfdbhfjfmaa
open Go.RowKit
set_option linter.unusedVariables false
theorem envs_at {acs : List Ac} {i k m : Nat} (hi : i < acs.length) (hk : k < acs[i].ps.length) (hm : m < acs[i].rs.length) : ∃ post, envs acs = (envs (acs.take i) ++ ((acs[i].ps.take k).flatMap (envR acs[i]) ++ (acs[i].rs.take m).map fun r => (⟨acs[i].ps[k], acs[i].nm, r⟩ : Ev))) ++ (⟨acs[i].ps[k], acs[i].nm, acs[i].rs[m]⟩ : Ev) :: post := by
  have h1 : acs = acs.take i ++ acs[i] :: acs.drop (i + 1) := by rw [← List.drop_eq_getElem_cons hi, List.take_append_drop]
  have h2 : acs[i].ps = acs[i].ps.take k ++ acs[i].ps[k] :: acs[i].ps.drop (k + 1) := by rw [← List.drop_eq_getElem_cons hk, List.take_append_drop]
  have h3 : acs[i].rs = acs[i].rs.take m ++ acs[i].rs[m] :: acs[i].rs.drop (m + 1) := by rw [← List.drop_eq_getElem_cons hm, List.take_append_drop]
  have e1 : envs acs = envs (acs.take i) ++ (envA acs[i] ++ envs (acs.drop (i + 1))) := by
    have : ∀ l : List Ac, l = acs → l.flatMap envA = (acs.take i).flatMap envA ++ (envA acs[i] ++ (acs.drop (i + 1)).flatMap envA) := fun l hl => by
      rw [hl.trans h1, List.flatMap_append, List.flatMap_cons]
    exact this _ rfl
  have e2 : envA acs[i] = (acs[i].ps.take k).flatMap (envR acs[i]) ++ (envR acs[i] acs[i].ps[k] ++ (acs[i].ps.drop (k + 1)).flatMap (envR acs[i])) := by
    have : ∀ l : List Nm, l = acs[i].ps → l.flatMap (envR acs[i]) = (acs[i].ps.take k).flatMap (envR acs[i]) ++ (envR acs[i] acs[i].ps[k] ++ (acs[i].ps.drop (k + 1)).flatMap (envR acs[i])) := fun l hl => by
      rw [hl.trans h2, List.flatMap_append, List.flatMap_cons]
    exact this _ rfl
  have e3 : envR acs[i] acs[i].ps[k] = ((acs[i].rs.take m).map fun r => (⟨acs[i].ps[k], acs[i].nm, r⟩ : Ev)) ++ (⟨acs[i].ps[k], acs[i].nm, acs[i].rs[m]⟩ : Ev) :: ((acs[i].rs.drop (m + 1)).map fun r => (⟨acs[i].ps[k], acs[i].nm, r⟩ : Ev)) := by
    have : ∀ l : List Nm, l = acs[i].rs → (l.map fun r => (⟨acs[i].ps[k], acs[i].nm, r⟩ : Ev)) = ((acs[i].rs.take m).map fun r => (⟨acs[i].ps[k], acs[i].nm, r⟩ : Ev)) ++ (⟨acs[i].ps[k], acs[i].nm, acs[i].rs[m]⟩ : Ev) :: ((acs[i].rs.drop (m + 1)).map fun r => (⟨acs[i].ps[k], acs[i].nm, r⟩ : Ev)) := fun l hl => by
      rw [hl.trans h3, List.map_append, List.map_cons]
    exact this _ rfl
  exact ⟨_, by rw [e1, e2, e3]; simp only [List.append_assoc, List.cons_append]; rfl⟩
def cnt3 (acs : List Ac) (i : Nat) : Nat := (envs (acs.take i)).length
theorem cnt3_next {acs : List Ac} {i : Nat} (hi : i < acs.length) : cnt3 acs (i + 1) = cnt3 acs i + acs[i].ps.length * acs[i].rs.length := by
  have : ∀ a : Ac, (envA a).length = a.ps.length * a.rs.length := fun a => by
    unfold envA
    rw [List.length_flatMap]
    have : ∀ l : List Nm, (l.map fun p => (envR a p).length).sum = l.length * a.rs.length := fun l => by
      induction l with
      | nil => simp
      | cons x l ih => rw [List.map_cons, List.sum_cons, ih, List.length_cons, Nat.add_mul]; simp [envR]; omega
    exact this _
  unfold cnt3 envs
  rw [List.take_succ_eq_append_getElem hi, List.flatMap_append, List.length_append, List.flatMap_cons, List.flatMap_nil, List.append_nil, this]
theorem pre_len {acs : List Ac} {i k m : Nat} (hi : i < acs.length) (hk : k ≤ acs[i].ps.length) (hm : m ≤ acs[i].rs.length) (p : Nm) : (envs (acs.take i) ++ ((acs[i].ps.take k).flatMap (envR acs[i]) ++ (acs[i].rs.take m).map fun r => (⟨p, acs[i].nm, r⟩ : Ev))).length = cnt3 acs i + (k * acs[i].rs.length + m) := by
  have : ∀ l : List Nm, (l.flatMap (envR acs[i])).length = l.length * acs[i].rs.length := fun l => by
    induction l with
    | nil => simp
    | cons x l ih => rw [List.flatMap_cons, List.length_append, ih, List.length_cons, Nat.add_mul]; simp [envR]; omega
  unfold cnt3
  rw [List.length_append, List.length_append, this, List.length_map, List.length_take, List.length_take, Nat.min_eq_left hk, Nat.min_eq_left hm]
theorem cnt3_next2 {acs : List Ac} {i : Nat} {a : Ac} (ha : acs[i]? = some a) : cnt3 acs (i + 1) = cnt3 acs i + a.ps.length * a.rs.length := by
  obtain ⟨hi, rfl⟩ := List.getElem?_eq_some_iff.1 ha
  exact cnt3_next hi
theorem envs_get {acs : List Ac} {i k m T : Nat} {a : Ac} {p r : Nm} (ha : acs[i]? = some a) (hk : a.ps[k]? = some p) (hm : a.rs[m]? = some r) (hT : T = cnt3 acs i + (k * a.rs.length + m)) : ∃ h : T < (envs acs).length, (envs acs)[T] = (⟨p, a.nm, r⟩ : Ev) := by
  obtain ⟨hi, rfl⟩ := List.getElem?_eq_some_iff.1 ha
  obtain ⟨hk2, rfl⟩ := List.getElem?_eq_some_iff.1 hk
  obtain ⟨hm2, rfl⟩ := List.getElem?_eq_some_iff.1 hm
  obtain ⟨post, hpost⟩ := envs_at hi hk2 hm2
  have hlen := pre_len (k := k) (m := m) hi (Nat.le_of_lt hk2) (Nat.le_of_lt hm2) acs[i].ps[k]
  have hTN : T < (envs acs).length := by rw [hpost, List.length_append, hlen, hT, List.length_cons]; omega
  refine ⟨hTN, ?_⟩
  have h1 : (envs acs)[T]? = some (⟨acs[i].ps[k], acs[i].nm, acs[i].rs[m]⟩ : Ev) := by
    rw [hpost, List.getElem?_append_right (by rw [hlen, hT]; omega), hlen, hT, Nat.sub_self]
    rfl
  rw [List.getElem?_eq_getElem hTN] at h1
  exact Option.some.inj h1
end Go.Proofs.Ytijjbfdbhfjfmaa
