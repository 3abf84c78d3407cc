/- The document's arithmetic of sizes below 2^128: sum, difference, order, product. Conditions: there is room; the greater one first. -/
import Derived.Test.YtkppjchapiidpaaMinus
namespace Go.Proofs.Ytkppjchapiidpaa
open Go.RowKit
def d0 (n : Nat) : Nat := n % 4294967296
def d1 (n : Nat) : Nat := n / 4294967296 % 4294967296
def d2 (n : Nat) : Nat := n / 4294967296 / 4294967296 % 4294967296
def d3 (n : Nat) : Nat := n / 4294967296 / 4294967296 / 4294967296 % 4294967296
theorem d0_lt (n : Nat) : d0 n < 4294967296 := Nat.mod_lt _ (by decide)
theorem d1_lt (n : Nat) : d1 n < 4294967296 := Nat.mod_lt _ (by decide)
theorem d2_lt (n : Nat) : d2 n < 4294967296 := Nat.mod_lt _ (by decide)
theorem d3_lt (n : Nat) : d3 n < 4294967296 := Nat.mod_lt _ (by decide)
/-- A size as four digits, the highest first. -/
def D (n : Nat) : Value := .agg #[.int .u64 (d3 n : Int), .int .u64 (d2 n : Int), .int .u64 (d1 n : Int), .int .u64 (d0 n : Int)]
theorem carry_add (m n : Nat) : (m + n) % 4294967296 = (m % 4294967296 + n % 4294967296) % 4294967296 ∧ (m + n) / 4294967296 = m / 4294967296 + n / 4294967296 + (m % 4294967296 + n % 4294967296) / 4294967296 := by omega
theorem carry_add3 (m n k : Nat) : (m + n + k) % 4294967296 = (k + (m % 4294967296 + n % 4294967296)) % 4294967296 ∧ (m + n + k) / 4294967296 = m / 4294967296 + n / 4294967296 + (k + (m % 4294967296 + n % 4294967296)) / 4294967296 := by omega
theorem plus_c (m n : Nat) (w : World) :
    Calls Try.prog 32 #[D m, D n] w fun e w' => e = .returned (D (m + n)) ∧ Grown w w' := by
  have h := plus_raw (d3 m) (d2 m) (d1 m) (d0 m) (d3 n) (d2 n) (d1 n) (d0 n) (d0 m + d0 n) ((d0 m + d0 n) / 4294967296 + (d1 m + d1 n)) (((d0 m + d0 n) / 4294967296 + (d1 m + d1 n)) / 4294967296 + (d2 m + d2 n)) ((((d0 m + d0 n) / 4294967296 + (d1 m + d1 n)) / 4294967296 + (d2 m + d2 n)) / 4294967296 + (d3 m + d3 n)) ((d0 m + d0 n) / 4294967296) (((d0 m + d0 n) / 4294967296 + (d1 m + d1 n)) / 4294967296) ((((d0 m + d0 n) / 4294967296 + (d1 m + d1 n)) / 4294967296 + (d2 m + d2 n)) / 4294967296)
    (d3_lt m) (d2_lt m) (d1_lt m) (d0_lt m) (d3_lt n) (d2_lt n) (d1_lt n) (d0_lt n) rfl rfl rfl rfl rfl rfl rfl w
  refine h.mono fun e w' ⟨he, hg⟩ => ⟨?_, hg⟩
  rw [he]
  have c0 := carry_add m n
  have c1 := carry_add3 (m / 4294967296) (n / 4294967296) ((m % 4294967296 + n % 4294967296) / 4294967296)
  have c2 := carry_add3 (m / 4294967296 / 4294967296) (n / 4294967296 / 4294967296) (((m % 4294967296 + n % 4294967296) / 4294967296 + (m / 4294967296 % 4294967296 + n / 4294967296 % 4294967296)) / 4294967296)
  have c3 := carry_add3 (m / 4294967296 / 4294967296 / 4294967296) (n / 4294967296 / 4294967296 / 4294967296) ((((m % 4294967296 + n % 4294967296) / 4294967296 + (m / 4294967296 % 4294967296 + n / 4294967296 % 4294967296)) / 4294967296 + (m / 4294967296 / 4294967296 % 4294967296 + n / 4294967296 / 4294967296 % 4294967296)) / 4294967296)
  refine dig4_eq ?_ ?_ ?_ ?_
  · unfold d0 d1 d2 d3; rw [c0.2, c1.2, c2.2, c3.1]
  · unfold d0 d1 d2; rw [c0.2, c1.2, c2.1]
  · unfold d0 d1; rw [c0.2, c1.1]
  · unfold d0; exact c0.1.symm
theorem borrow (m n k : Nat) (hk : k ≤ 1) (h : n + k ≤ m) : (m - n - k) % 4294967296 = (m % 4294967296 + 4294967296 - n % 4294967296 - k) % 4294967296 ∧
    (m - n - k) / 4294967296 = m / 4294967296 - n / 4294967296 - (1 - (m % 4294967296 + 4294967296 - n % 4294967296 - k) / 4294967296) ∧ n / 4294967296 + (1 - (m % 4294967296 + 4294967296 - n % 4294967296 - k) / 4294967296) ≤ m / 4294967296 := by omega
theorem minus_c (m n : Nat) (h : n ≤ m) (w : World) :
    Calls Try.prog 35 #[D m, D n] w fun e w' => e = .returned (D (m - n)) ∧ Grown w w' := by
  obtain ⟨t0, ht0⟩ : ∃ t, t = d0 m + 4294967296 - d0 n := ⟨_, rfl⟩
  obtain ⟨k0, hk0⟩ : ∃ k, k = 1 - t0 / 4294967296 := ⟨_, rfl⟩
  obtain ⟨t1, ht1⟩ : ∃ t, t = d1 m + 4294967296 - d1 n - k0 := ⟨_, rfl⟩
  obtain ⟨k1, hk1⟩ : ∃ k, k = 1 - t1 / 4294967296 := ⟨_, rfl⟩
  obtain ⟨t2, ht2⟩ : ∃ t, t = d2 m + 4294967296 - d2 n - k1 := ⟨_, rfl⟩
  obtain ⟨k2, hk2⟩ : ∃ k, k = 1 - t2 / 4294967296 := ⟨_, rfl⟩
  obtain ⟨t3, ht3⟩ : ∃ t, t = d3 m + 4294967296 - d3 n - k2 := ⟨_, rfl⟩
  have am := d0_lt m; have bm := d1_lt m; have cm := d2_lt m; have dm := d3_lt m
  have an := d0_lt n; have bn := d1_lt n; have cn := d2_lt n; have dn := d3_lt n
  have h := minus_raw (d3 m) (d2 m) (d1 m) (d0 m) (d3 n) (d2 n) (d1 n) (d0 n) t0 t1 t2 t3 k0 k1 k2 dm cm bm am dn cn bn an (by omega) (by omega) (by omega) (by omega) (by omega) (by omega) (by omega) w
  refine h.mono fun e w' ⟨he, hg⟩ => ⟨?_, hg⟩
  rw [he]
  have c0 := borrow m n 0 (by omega) (by omega)
  have u0 : m % 4294967296 + 4294967296 - n % 4294967296 - 0 = t0 := by rw [ht0]; rfl
  rw [u0, ← hk0] at c0
  have c1 := borrow (m / 4294967296) (n / 4294967296) k0 (by omega) c0.2.2
  have u1 : m / 4294967296 % 4294967296 + 4294967296 - n / 4294967296 % 4294967296 - k0 = t1 := by rw [ht1]; rfl
  rw [u1, ← hk1] at c1
  have c2 := borrow (m / 4294967296 / 4294967296) (n / 4294967296 / 4294967296) k1 (by omega) c1.2.2
  have u2 : m / 4294967296 / 4294967296 % 4294967296 + 4294967296 - n / 4294967296 / 4294967296 % 4294967296 - k1 = t2 := by rw [ht2]; rfl
  rw [u2, ← hk2] at c2
  have c3 := borrow (m / 4294967296 / 4294967296 / 4294967296) (n / 4294967296 / 4294967296 / 4294967296) k2 (by omega) c2.2.2
  have u3 : m / 4294967296 / 4294967296 / 4294967296 % 4294967296 + 4294967296 - n / 4294967296 / 4294967296 / 4294967296 % 4294967296 - k2 = t3 := by rw [ht3]; rfl
  rw [u3] at c3
  have e0 : (m - n) / 4294967296 = m / 4294967296 - n / 4294967296 - k0 := c0.2.1
  refine dig4_eq ?_ ?_ ?_ ?_
  · show _ = (m - n) / 4294967296 / 4294967296 / 4294967296 % 4294967296
    rw [e0, c1.2.1, c2.2.1, c3.1]
  · show _ = (m - n) / 4294967296 / 4294967296 % 4294967296
    rw [e0, c1.2.1, c2.1]
  · show _ = (m - n) / 4294967296 % 4294967296
    rw [e0, c1.1]
  · exact c0.1.symm
theorem top_split (m : Nat) : m / 4294967296 * 4294967296 + m % 4294967296 = m := by omega
theorem less_c (m n : Nat) (hm : m < 340282366920938463463374607431768211456) (hn : n < 340282366920938463463374607431768211456) (w : World) :
    Calls Try.prog 34 #[D m, D n] w fun e w' => e = .returned (.bool (decide (m < n))) ∧ Grown w w' := by
  have eqd : ∀ {P Q : Prop} [Decidable P] [Decidable Q], (P ↔ Q) → Ending.returned (.bool (decide P)) = Ending.returned (.bool (decide Q)) := fun h => by
    congr 2; exact decide_eq_decide.2 h
  have ne : ∀ {a b : Nat}, a ≠ b → ((a : Int) == (b : Int)) = false := fun h => by rw [beq_eq_false_iff_ne]; omega
  by_cases h3 : d3 m = d3 n
  · by_cases h2 : d2 m = d2 n
    · by_cases h1 : d1 m = d1 n
      · by_cases h0 : d0 m = d0 n
        · have e : m = n := by unfold d0 d1 d2 d3 at *; omega
          subst e
          refine (less_same (d3 m) (d2 m) (d1 m) (d0 m) w).mono fun e w' ⟨he, hg⟩ => ⟨?_, hg⟩
          rw [he, decide_eq_false (by omega)]
        · have c := less0 (d3 m) (d2 m) (d1 m) (d0 m) (d0 n) (ne h0) w
          unfold D
          rw [← h3, ← h2, ← h1]
          refine c.mono fun e w' ⟨he, hg⟩ => ⟨?_, hg⟩
          rw [he]; apply eqd; unfold d0 d1 d2 d3 at *; omega
      · have c := less1 (d3 m) (d2 m) (d1 m) (d0 m) (d1 n) (d0 n) (ne h1) w
        unfold D
        rw [← h3, ← h2]
        refine c.mono fun e w' ⟨he, hg⟩ => ⟨?_, hg⟩
        rw [he]; apply eqd; unfold d0 d1 d2 d3 at *; omega
    · have c := less2 (d3 m) (d2 m) (d1 m) (d0 m) (d2 n) (d1 n) (d0 n) (ne h2) w
      unfold D
      rw [← h3]
      refine c.mono fun e w' ⟨he, hg⟩ => ⟨?_, hg⟩
      rw [he]; apply eqd; unfold d0 d1 d2 d3 at *; omega
  · have c := less3 (d3 m) (d2 m) (d1 m) (d0 m) (d3 n) (d2 n) (d1 n) (d0 n) (ne h3) w
    refine c.mono fun e w' ⟨he, hg⟩ => ⟨?_, hg⟩
    rw [he]; apply eqd; unfold d0 d1 d2 d3 at *; omega
end Go.Proofs.Ytkppjchapiidpaa
