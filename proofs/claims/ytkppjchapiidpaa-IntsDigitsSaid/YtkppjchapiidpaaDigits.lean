/- Plain digits of a number, and how they are laid into twenty places from behind. No condition. -/
import Derived.Test.YtkppjchapiidpaaText
namespace Go.Proofs.Ytkppjchapiidpaa
open Go.RowKit
def digB (n : Nat) : UInt8 := UInt8.ofNat (48 + n % 10)
/-- The digits of a number of at most f + 1 of them. -/
def decF : Nat → Nat → List UInt8
  | 0, n => [digB n]
  | f + 1, n => if n < 10 then [digB n] else decF f (n / 10) ++ [digB n]
def decD (n : Nat) : List UInt8 := decF 19 n
def showL (a : Int) : List UInt8 := if a < 0 then 45 :: decD a.natAbs else decD a.natAbs
def lowD (n : Nat) : Nat → List UInt8
  | 0 => []
  | j + 1 => digB (n / 10 ^ j) :: lowD n j
theorem lowD_succ (n j : Nat) : lowD n (j + 1) = lowD (n / 10) j ++ [digB n] := by
  induction j with
  | zero => simp [lowD]
  | succ j ih =>
    rw [lowD, ih]
    show _ = (digB (n / 10 / 10 ^ j) :: lowD (n / 10) j) ++ [digB n]
    rw [Nat.div_div_eq_div_mul, Nat.pow_succ, Nat.mul_comm (10 ^ j) 10]; rfl
theorem decF_one (f n : Nat) (h : n < 10) : decF f n = [digB n] := by
  cases f with
  | zero => rfl
  | succ f => exact if_pos h
theorem lowD_decF (j : Nat) : ∀ n f : Nat, j ≤ f → n / 10 ^ (j + 1) = 0 → (j = 0 ∨ n / 10 ^ j ≠ 0) → lowD n (j + 1) = decF f n := by
  induction j with
  | zero =>
    intro n f _ h _
    have : n < 10 := by
      have := Nat.div_eq_zero_iff.1 h
      omega
    rw [decF_one f n this]; simp [lowD]
  | succ j ih =>
    intro n f hf h1 h2
    have hp : 0 < 10 ^ j := Nat.pow_pos (by decide)
    have h2 : n / 10 ^ (j + 1) ≠ 0 := by rcases h2 with h | h; (· exact absurd h (by omega)); exact h
    have e1 : n / 10 / 10 ^ (j + 1) = 0 := by rw [Nat.div_div_eq_div_mul, Nat.mul_comm, ← Nat.pow_succ]; exact h1
    have e2 : n / 10 / 10 ^ j ≠ 0 := by rw [Nat.div_div_eq_div_mul, Nat.mul_comm, ← Nat.pow_succ]; exact h2
    have hn : ¬ n < 10 := fun hlt => h2 (Nat.div_eq_of_lt (Nat.lt_of_lt_of_le hlt (by rw [Nat.pow_succ]; omega)))
    cases f with
    | zero => exact absurd hf (by omega)
    | succ f =>
      rw [lowD_succ, ih _ f (by omega) e1 (.inr e2)]
      exact (if_neg hn).symm
theorem lowD_dec (j n : Nat) (hj : j ≤ 19) (h1 : n / 10 ^ (j + 1) = 0) (h2 : j = 0 ∨ n / 10 ^ j ≠ 0) : lowD n (j + 1) = decD n := lowD_decF j n 19 hj h1 h2
theorem lowD_len (n j : Nat) : (lowD n j).length = j := by
  induction j with
  | zero => rfl
  | succ j ih => simp [lowD, ih]
/-- A byte as a value. -/
def byV (c : UInt8) : Value := .int .u8 (c.toNat : Int)
/-- Twenty places: the last 19 - p hold digits. -/
def arrOf (n p : Nat) : Array Value := (List.replicate (p + 1) (Value.int .u8 0) ++ (lowD n (19 - p)).map byV).toArray
theorem digB_val (n : Nat) : byV (digB n) = .int .u8 (48 + (n : Int) % 10) := by
  have h : (digB n).toNat = 48 + n % 10 := by
    unfold digB
    rw [UInt8.toNat_ofNat']
    omega
  unfold byV
  rw [h]; congr 1
theorem arr_set (n p q : Nat) (hp : p ≤ 19) (h1 : 1 ≤ p) (hq : q = n / 10 ^ (19 - p)) : (arrOf n p).setIfInBounds p (.int .u8 (48 + (q : Int) % 10)) = arrOf n (p - 1) := by
  unfold arrOf
  have e : 19 - (p - 1) = (19 - p) + 1 := by omega
  rw [e, lowD, List.map_cons, digB_val, ← hq, List.setIfInBounds_toArray]
  congr 1
  have e2 : p - 1 + 1 = p := by omega
  rw [e2, List.replicate_succ', List.append_assoc, List.set_append]
  simp
/-- The minus laid ahead of the digits. -/
theorem arr_minus (n p : Nat) : ((arrOf n p).setIfInBounds p (.int .u8 45)).toList.drop p = (45 :: lowD n (19 - p)).map byV := by
  unfold arrOf
  rw [List.setIfInBounds_toArray, List.replicate_succ', List.append_assoc, List.set_append]
  simp [byV]
theorem arr_plain (n p : Nat) : (arrOf n p).toList.drop (p + 1) = (lowD n (19 - p)).map byV := by
  unfold arrOf
  simp
theorem arr_size (n p : Nat) (hp : p ≤ 19) : (arrOf n p).size = 20 := by
  unfold arrOf
  simp [lowD_len]; omega
theorem arr_get (n p : Nat) : (arrOf n p)[p]? = some (.int .u8 0) := by
  unfold arrOf
  simp [List.getElem?_append]
theorem arr_start (n : Nat) : arrOf n 19 = (List.replicate 20 (Value.int .u8 0)).toArray := by
  unfold arrOf; simp [lowD]
end Go.Proofs.Ytkppjchapiidpaa
