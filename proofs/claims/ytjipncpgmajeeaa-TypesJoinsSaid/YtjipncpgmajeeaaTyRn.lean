/- The reference's Join of n levels. Condition: types that may be, small. -/
import Derived.Test.YtjipncpgmajeeaaTyR8
namespace Go.Proofs.Ytjipncpgmajeeaa
theorem rjoin_n (n : Nat) : RJnC n := by
  induction n with
  | zero => intro A a b w e v e' v' h; exact h.elim
  | succ n ih =>
    intro A a b w e v e' v' ha hb sa sb ma mb
    by_cases h1 : belB (n + 1) a b = true
    · exact rjoinA_c a b w e v e' v' ha hb ma mb h1
    have h1 : belB (n + 1) a b = false := by simpa using h1
    by_cases h2 : belB (n + 1) b a = true
    · exact rjoinB_c a b w e v e' v' ha hb ma mb h1 h2
    have h2 : belB (n + 1) b a = false := by simpa using h2
    by_cases h3 : trB a = true ∧ trB b = true
    · exact rjoinT_c a b w e v e' v' ha hb ma mb h1 h2 h3
    by_cases hk : a.k = b.k
    rotate_left
    · exact rjoinK_c a b w e v e' v' ha hb ma mb h1 h2 h3 hk
    have ht : trB a = false := by
      cases h : trB a with
      | false => rfl
      | true => exact absurd ⟨h, by unfold trB at h ⊢; rw [← hk]; exact h⟩ h3
    by_cases h7 : a.k = 7
    · exact rjoin7_c ih a b w e v e' v' ha hb ma mb sa sb h1 h2 ht hk h7
    by_cases h8 : a.k = 8
    · by_cases hnm : namesB a.ats b.ats = true
      · exact rjoin8_c ih a b w e v e' v' ha hb ma mb h1 h2 ht hk h8 hnm (fun j h => ⟨sa.2.2 _ (ins_as (List.getElem_mem h)), (mayB_succ.1 ma).2.2 _ (ins_as (List.getElem_mem h))⟩) (fun j h => ⟨sb.2.2 _ (ins_as (List.getElem_mem h)), (mayB_succ.1 mb).2.2 _ (ins_as (List.getElem_mem h))⟩) (by have := sa.2.1; omega)
      · exact rjoinN_c a b w e v e' v' ha hb ma mb h1 h2 ht hk h8 (by simpa using hnm)
    exact rjoinX_c a b w e v e' v' ha hb ma mb h1 h2 ht hk h7 h8
end Go.Proofs.Ytjipncpgmajeeaa
