/- Plain texts out of quotes. No condition. -/
import Derived.Test.YtdblkjcimegoeaaDoorQuoteP
namespace Go.Proofs.YtdblkjcimegoeaaDoor
/-- A small hexadecimal digit's number; 16: it is none. -/
def hexV (c : UInt8) : Nat := if 48 ≤ c.toNat ∧ c.toNat ≤ 57 then c.toNat - 48 else if 97 ≤ c.toNat ∧ c.toNat ≤ 102 then c.toNat - 87 else 16
theorem hexV_le (c : UInt8) : hexV c ≤ 16 := by
  unfold hexV; repeat' split
  all_goals omega
def hexB (a b : UInt8) : UInt8 := UInt8.ofNat (16 * hexV a + hexV b)
theorem hexB_nat {a b : UInt8} (ha : hexV a < 16) (hb : hexV b < 16) : (hexB a b).toNat = 16 * hexV a + hexV b := by unfold hexB; simp; omega
theorem hexN_v (n : Nat) (h : n < 16) : hexV (hexN n) = n := by
  have : ∀ m : Fin 16, hexV (hexN m.val) = m.val := by decide
  exact this ⟨n, h⟩
theorem hexV_n (c : UInt8) (h : hexV c < 16) : hexN (hexV c) = c := by
  have : ∀ m : Fin 256, hexV (UInt8.ofNat m.val) < 16 → hexN (hexV (UInt8.ofNat m.val)) = UInt8.ofNat m.val := by decide +kernel
  have e : UInt8.ofNat c.toNat = c := by simp
  have := this ⟨c.toNat, c.toNat_lt⟩
  simp only [e] at this
  exact this h
/-- The strict reading of one byte. -/
def fstL (l : List UInt8) : Option (UInt8 × Nat) := match l with
  | [] => none
  | c :: r =>
    if c == 92 then
      match r with
      | [] => none
      | d :: r2 =>
        if markB d = true then some (d, 2)
        else match r2 with
          | a :: b :: _ => if d == 120 && decide (hexV a < 16) && decide (hexV b < 16) && !prinB (hexB a b) then some (hexB a b, 4) else none
          | _ => none
    else if c == 34 || !prinB c then none else some (c, 1)
/-- The loose reading of one byte: what isn't understood stands for itself. -/
def looL (c : UInt8) (r : List UInt8) : UInt8 × Nat :=
  if c == 92 then
    match r with
    | d :: r2 => if markB d = true then (d, 2) else match r2 with
      | a :: b :: _ => if d == 120 && decide (hexV a < 16) && decide (hexV b < 16) then (hexB a b, 4) else (c, 1)
      | _ => (c, 1)
    | [] => (c, 1)
  else (c, 1)
theorem looL_pos (c : UInt8) (r : List UInt8) : 1 ≤ (looL c r).2 := by
  unfold looL; repeat' split
  all_goals simp
def looF : Nat → List UInt8 → List UInt8
  | 0, _ => []
  | _, [] => []
  | n + 1, c :: r => (looL c r).1 :: looF n ((c :: r).drop (looL c r).2)
theorem looF_more : ∀ (n : Nat) (l : List UInt8), l.length ≤ n → looF n l = looF l.length l := by
  intro n
  induction n using Nat.strongRecOn with
  | ind n ih =>
    intro l hl
    match n, l with
    | 0, [] => rfl
    | n + 1, [] => rfl
    | n + 1, c :: r =>
      have hp := looL_pos c r
      have hd : ((c :: r).drop (looL c r).2).length ≤ r.length := by rw [List.length_drop]; simp; omega
      simp only [List.length_cons] at hl
      rw [List.length_cons, looF, looF, ih n (by omega) _ (by omega)]
      rcases Nat.lt_or_ge r.length (n + 1) with h | h
      · rw [ih r.length (by omega) _ hd]
      · omega
def loo (l : List UInt8) : List UInt8 := looF l.length l
theorem loo_nil : loo [] = [] := rfl
theorem loo_cons (c : UInt8) (r : List UInt8) : loo (c :: r) = (looL c r).1 :: loo ((c :: r).drop (looL c r).2) := by
  have hp := looL_pos c r
  unfold loo
  rw [List.length_cons, looF, looF_more]
  rw [List.length_drop]; simp; omega
/-- One byte of a quote is read as that byte. -/
theorem looL_quo (c : UInt8) (r : List UInt8) : ∃ d r', quo1 c ++ r = d :: r' ∧ looL d r' = (c, (quo1 c).length) := by
  cases hm : markB c with
  | true => rw [quo1_mark hm]; exact ⟨92, c :: r, rfl, by simp [looL, hm]⟩
  | false =>
    cases hp : prinB c with
    | true =>
      rw [quo1_plain hm hp]
      refine ⟨c, r, rfl, ?_⟩
      have : (c == 92) = false := by unfold markB at hm; simp at hm; simpa using hm.2
      simp [looL, this]
    | false =>
      rw [quo1_hex hm hp]
      refine ⟨92, 120 :: hexN (c.toNat / 16) :: hexN (c.toNat % 16) :: r, rfl, ?_⟩
      have h1 := hexN_v (c.toNat / 16) (by have := c.toNat_lt; omega)
      have h2 := hexN_v (c.toNat % 16) (by omega)
      have h3 : 16 * (c.toNat / 16) + c.toNat % 16 = c.toNat := by omega
      have l1 : c.toNat / 16 < 16 := by have := c.toNat_lt; omega
      have l2 : c.toNat % 16 < 16 := by omega
      have m120 : markB 120 = false := by decide
      have h4 : hexB (hexN (c.toNat / 16)) (hexN (c.toNat % 16)) = c := by unfold hexB; rw [h1, h2, h3]; simp
      simp [looL, m120, h1, h2, h4, l1, l2]
theorem loo_quo (t : List UInt8) : loo (quoI t) = t := by
  induction t with
  | nil => rfl
  | cons c r ih =>
    rw [quoI_cons]
    obtain ⟨d, r', e, hl⟩ := looL_quo c (quoI r)
    have hd : (d :: r').drop (quo1 c).length = quoI r := by rw [← e]; simp
    rw [e, loo_cons, hl, hd, ih]
/-- What is strictly read of a quote's beginning is that byte. -/
theorem fst_quo (c : UInt8) (r : List UInt8) : fstL (quo1 c ++ r) = some (c, (quo1 c).length) := by
  cases hm : markB c with
  | true => rw [quo1_mark hm]; simp [fstL, hm]
  | false =>
    cases hp : prinB c with
    | true =>
      rw [quo1_plain hm hp]
      unfold markB at hm; simp at hm
      simp [fstL, hm, hp]
    | false =>
      rw [quo1_hex hm hp]
      have h1 := hexN_v (c.toNat / 16) (by have := c.toNat_lt; omega)
      have h2 := hexN_v (c.toNat % 16) (by omega)
      have h3 : 16 * (c.toNat / 16) + c.toNat % 16 = c.toNat := by omega
      have l1 : c.toNat / 16 < 16 := by have := c.toNat_lt; omega
      have l2 : c.toNat % 16 < 16 := by omega
      have m120 : markB 120 = false := by decide
      have h4 : hexB (hexN (c.toNat / 16)) (hexN (c.toNat % 16)) = c := by unfold hexB; rw [h1, h2, h3]; simp
      simp [fstL, m120, h1, h2, h4, l1, l2, hp]
/-- What is strictly read is a quote's beginning. -/
theorem fst_back {l : List UInt8} {c : UInt8} {n : Nat} (h : fstL l = some (c, n)) : l.take n = quo1 c ∧ 1 ≤ n ∧ n ≤ l.length := by
  match l with
  | [] => simp [fstL] at h
  | d :: r =>
    unfold fstL at h
    simp only at h
    split at h
    · rename_i h92
      have h92 : d = 92 := by simpa using h92
      subst h92
      match r with
      | [] => simp at h
      | e :: r2 =>
        simp only at h
        split at h
        · rename_i hm
          simp at h
          obtain ⟨rfl, rfl⟩ := h
          exact ⟨by rw [quo1_mark hm]; rfl, by omega, by simp⟩
        · rename_i hm
          match r2 with
          | [] => simp at h
          | [_] => simp at h
          | a :: b :: r3 =>
            simp only at h
            split at h
            · rename_i hc
              simp at hc
              obtain ⟨⟨⟨rfl, ha⟩, hb⟩, hp⟩ := hc
              simp at h
              obtain ⟨hc, rfl⟩ := h
              have hl : 16 * hexV a + hexV b < 256 := by omega
              have ht := hexB_nat ha hb
              have hmk : markB (hexB a b) = false := by
                cases hmm : markB (hexB a b) with
                | false => rfl
                | true =>
                  exfalso
                  have : prinB (hexB a b) = true := by
                    unfold markB at hmm
                    simp only [Bool.or_eq_true, beq_iff_eq] at hmm
                    rcases hmm with e | e <;> rw [e] <;> decide
                  rw [hp] at this; exact absurd this (by decide)
              rw [← hc]
              refine ⟨?_, by omega, by simp⟩
              have hd : (16 * hexV a + hexV b) / 16 = hexV a := by omega
              have hr : (16 * hexV a + hexV b) % 16 = hexV b := by omega
              rw [quo1_hex hmk hp, ht, hd, hr, hexV_n a ha, hexV_n b hb]; rfl
            · simp at h
    · split at h
      · simp at h
      · rename_i h1 h2
        simp at h h1 h2
        obtain ⟨rfl, rfl⟩ := h
        refine ⟨?_, by omega, by simp⟩
        have hm : markB d = false := by unfold markB; simp [h1, h2]
        rw [quo1_plain hm h2.2]; rfl
end Go.Proofs.YtdblkjcimegoeaaDoor
