/- Records of one attribute. No condition. -/
import Derived.Test.YtjipncpgmajeeaaTyQ
namespace Go.Proofs.Ytjipncpgmajeeaa
def rec1 (a : T) (p : Bool) : T := .mk 8 ⟨#[]⟩ [] [(⟨#[110]⟩, a, p)]
def rec0 : T := .mk 8 ⟨#[]⟩ [] []
theorem bel_rec1 (n : Nat) (a b : T) (p q : Bool) : belB (n + 1) (rec1 a p) (rec1 b q) = ((!p || q) && belB n a b) := by
  rw [bel8 rfl rfl]
  simp [rec1, pairB, T.ats, an, aty, ao]
theorem bel_rec10 (n : Nat) (a : T) (p : Bool) : belB (n + 1) (rec1 a p) rec0 = false := by
  rw [bel8 rfl rfl]
  simp [rec1, rec0, pairB, T.ats]
theorem bel_rec01 (n : Nat) (a : T) (p : Bool) : belB (n + 1) rec0 (rec1 a p) = false := by
  rw [bel8 rfl rfl]
  simp [rec1, rec0, pairB, T.ats]
theorem jn_rec (n : Nat) (a b : T) (p q : Bool) : jn (n + 1) (rec1 a p) (rec1 b q) = if belB (n + 1) (rec1 a p) (rec1 b q) = true then some (rec1 b q) else if belB (n + 1) (rec1 b q) (rec1 a p) = true then some (rec1 a p) else (jn n a b).map fun t => rec1 t (p || q) := by
  rw [jn]
  split
  · rfl
  split
  · rfl
  rw [if_neg (by simp [trB, rec1, T.k]), if_neg (by simp [rec1, T.k]), if_neg (by simp [rec1, T.k]), if_pos (by simp [rec1, T.k])]
  cases hj : jn n a b with
  | none => simp [rec1, T.ats, pairJ, an, aty, ao, hj]
  | some t => simp [rec1, T.ats, pairJ, an, aty, ao, hj]
theorem jn_rec1 (n : Nat) (a b : T) (p q : Bool) (ma : mayB (n + 1) a = true) (mb : mayB (n + 1) b = true) : (jn (n + 1) a b = none ∧ jn (n + 2) (rec1 a p) (rec1 b q) = none) ∨ ∃ t t', jn (n + 1) a b = some t ∧ jn (n + 2) (rec1 a p) (rec1 b q) = some (rec1 t' (p || q)) ∧ smB (n + 1) t' t = true := by
  have ra := bel_refl (n + 1) a ma
  have rb := bel_refl (n + 1) b mb
  rw [jn_rec, bel_rec1, bel_rec1]
  by_cases hab : belB (n + 1) a b = true
  · have hj : jn (n + 1) a b = some b := by rw [jn, if_pos hab]
    refine .inr ?_
    rw [hj, hab]
    by_cases hba : belB (n + 1) b a = true
    · rw [hba]
      cases p <;> cases q
      all_goals first
        | exact ⟨b, b, rfl, rfl, by rw [smB_bel, rb]; rfl⟩
        | exact ⟨b, a, rfl, rfl, by rw [smB_bel, hab, hba]; rfl⟩
    · have hba : belB (n + 1) b a = false := by simpa using hba
      rw [hba]
      cases p <;> cases q
      all_goals exact ⟨b, b, rfl, rfl, by rw [smB_bel, rb]; rfl⟩
  · have hab : belB (n + 1) a b = false := by simpa using hab
    rw [hab]
    by_cases hba : belB (n + 1) b a = true
    · have hj : jn (n + 1) a b = some a := by rw [jn, if_neg (by rw [hab]; simp), if_pos hba]
      refine .inr ?_
      rw [hj, hba]
      cases p <;> cases q
      all_goals exact ⟨a, a, rfl, rfl, by rw [smB_bel, ra]; rfl⟩
    · have hba : belB (n + 1) b a = false := by simpa using hba
      rw [hba]
      cases hj : jn (n + 1) a b with
      | none => exact .inl ⟨rfl, by simp⟩
      | some t => exact .inr ⟨t, t, rfl, by simp, by rw [smB_bel, bel_refl (n + 1) t (jn_may (n + 1) a b t ma mb hj)]; rfl⟩
theorem may_rec1 {n : Nat} {a : T} (p : Bool) (h : mayB n a = true) : mayB (n + 1) (rec1 a p) = true := by
  refine mayB_succ.2 ⟨rfl, rfl, fun x hx => ?_⟩
  simp [rec1, T.ins, T.l, T.ats, aty] at hx
  subst hx; exact h
theorem may_rec0 (n : Nat) : mayB (n + 1) rec0 = true := mayB_succ.2 ⟨rfl, rfl, fun x hx => by simp [rec0, T.ins, T.l, T.ats] at hx⟩
theorem sm_rec1 {n : Nat} {a : T} (p : Bool) (h : Sm n a) : Sm (n + 1) (rec1 a p) := ⟨by simp [rec1, T.l], by simp [rec1, T.ats], fun x hx => by
  simp [rec1, T.ins, T.l, T.ats, aty] at hx
  subst hx; exact h⟩
theorem sm_rec0 (n : Nat) : Sm (n + 1) rec0 := ⟨by simp [rec0, T.l], by simp [rec0, T.ats], fun x hx => by simp [rec0, T.ins, T.l, T.ats] at hx⟩
end Go.Proofs.Ytjipncpgmajeeaa
