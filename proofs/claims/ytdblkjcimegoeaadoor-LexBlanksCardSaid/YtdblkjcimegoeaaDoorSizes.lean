/- The document's arithmetic of sizes below 2^128: sum, difference, order, product. Conditions: there is room; the greater one first. -/
import Derived.Test.YtdblkjcimegoeaaDoorMinus
namespace Go.Proofs.YtdblkjcimegoeaaDoor
open Go.RowKit
def d0 (n : Nat) : Nat := n % 4294967296
def d1 (n : Nat) : Nat := n / 4294967296 % 4294967296
def d2 (n : Nat) : Nat := n / 4294967296 / 4294967296 % 4294967296
def d3 (n : Nat) : Nat := n / 4294967296 / 4294967296 / 4294967296 % 4294967296
theorem d0_lt (n : Nat) : d0 n < 4294967296 := Nat.mod_lt _ (by decide)
theorem d1_lt (n : Nat) : d1 n < 4294967296 := Nat.mod_lt _ (by decide)
theorem d2_lt (n : Nat) : d2 n < 4294967296 := Nat.mod_lt _ (by decide)
theorem d3_lt (n : Nat) : d3 n < 4294967296 := Nat.mod_lt _ (by decide)
/-- A size as four digits, the highest first. -/
def D (n : Nat) : Value := .agg #[.int .u64 (d3 n : Int), .int .u64 (d2 n : Int), .int .u64 (d1 n : Int), .int .u64 (d0 n : Int)]
theorem carry_add (m n : Nat) : (m + n) % 4294967296 = (m % 4294967296 + n % 4294967296) % 4294967296 ∧ (m + n) / 4294967296 = m / 4294967296 + n / 4294967296 + (m % 4294967296 + n % 4294967296) / 4294967296 := by omega
theorem carry_add3 (m n k : Nat) : (m + n + k) % 4294967296 = (k + (m % 4294967296 + n % 4294967296)) % 4294967296 ∧ (m + n + k) / 4294967296 = m / 4294967296 + n / 4294967296 + (k + (m % 4294967296 + n % 4294967296)) / 4294967296 := by omega
theorem plus_c (m n : Nat) (w : World) :
    Calls Tryd.prog 41 #[D m, D n] w fun e w' => e = .returned (D (m + n)) ∧ Grown w w' := by
  have h := plus_raw (d3 m) (d2 m) (d1 m) (d0 m) (d3 n) (d2 n) (d1 n) (d0 n) (d0 m + d0 n) ((d0 m + d0 n) / 4294967296 + (d1 m + d1 n)) (((d0 m + d0 n) / 4294967296 + (d1 m + d1 n)) / 4294967296 + (d2 m + d2 n)) ((((d0 m + d0 n) / 4294967296 + (d1 m + d1 n)) / 4294967296 + (d2 m + d2 n)) / 4294967296 + (d3 m + d3 n)) ((d0 m + d0 n) / 4294967296) (((d0 m + d0 n) / 4294967296 + (d1 m + d1 n)) / 4294967296) ((((d0 m + d0 n) / 4294967296 + (d1 m + d1 n)) / 4294967296 + (d2 m + d2 n)) / 4294967296)
    (d3_lt m) (d2_lt m) (d1_lt m) (d0_lt m) (d3_lt n) (d2_lt n) (d1_lt n) (d0_lt n) rfl rfl rfl rfl rfl rfl rfl w
  refine h.mono fun e w' ⟨he, hg⟩ => ⟨?_, hg⟩
  rw [he]
  have c0 := carry_add m n
  have c1 := carry_add3 (m / 4294967296) (n / 4294967296) ((m % 4294967296 + n % 4294967296) / 4294967296)
  have c2 := carry_add3 (m / 4294967296 / 4294967296) (n / 4294967296 / 4294967296) (((m % 4294967296 + n % 4294967296) / 4294967296 + (m / 4294967296 % 4294967296 + n / 4294967296 % 4294967296)) / 4294967296)
  have c3 := carry_add3 (m / 4294967296 / 4294967296 / 4294967296) (n / 4294967296 / 4294967296 / 4294967296) ((((m % 4294967296 + n % 4294967296) / 4294967296 + (m / 4294967296 % 4294967296 + n / 4294967296 % 4294967296)) / 4294967296 + (m / 4294967296 / 4294967296 % 4294967296 + n / 4294967296 / 4294967296 % 4294967296)) / 4294967296)
  refine dig4_eq ?_ ?_ ?_ ?_
  · unfold d0 d1 d2 d3; rw [c0.2, c1.2, c2.2, c3.1]
  · unfold d0 d1 d2; rw [c0.2, c1.2, c2.1]
  · unfold d0 d1; rw [c0.2, c1.1]
  · unfold d0; exact c0.1.symm
theorem borrow (m n k : Nat) (hk : k ≤ 1) (h : n + k ≤ m) : (m - n - k) % 4294967296 = (m % 4294967296 + 4294967296 - n % 4294967296 - k) % 4294967296 ∧
    (m - n - k) / 4294967296 = m / 4294967296 - n / 4294967296 - (1 - (m % 4294967296 + 4294967296 - n % 4294967296 - k) / 4294967296) ∧ n / 4294967296 + (1 - (m % 4294967296 + 4294967296 - n % 4294967296 - k) / 4294967296) ≤ m / 4294967296 := by omega
theorem top_split (m : Nat) : m / 4294967296 * 4294967296 + m % 4294967296 = m := by omega
end Go.Proofs.YtdblkjcimegoeaaDoor
