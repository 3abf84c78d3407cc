/- The document's numbers: of a 64-bit number, and back. No condition but that there is room. -/
import Derived.Test.YtdblkjcimegoeaaDoorSizes
import Derived.Test.YtdblkjcimegoeaaDoorReadAll
import Derived.Laws.Bits64b
namespace Go.Proofs.YtdblkjcimegoeaaDoor
open Go.RowKit
attribute [local go_sem] alloc_drewN setCell_drewN
/-- A sign and a size of four digits. -/
def NV (s : Bool) (n : Nat) : Value := .agg #[.bool s, .int .u64 (d3 n : Int), .int .u64 (d2 n : Int), .int .u64 (d1 n : Int), .int .u64 (d0 n : Int)]
theorem nv_eq {s : Bool} {n : Nat} {b : Bool} {x3 x2 x1 x0 : Int} (hb : b = s) (h3 : x3 = (d3 n : Int)) (h2 : x2 = (d2 n : Int)) (h1 : x1 = (d1 n : Int)) (h0 : x0 = (d0 n : Int)) :
    Ending.returned (.agg #[.bool b, .int .u64 x3, .int .u64 x2, .int .u64 x1, .int .u64 x0]) = .returned (NV s n) := by rw [hb, h3, h2, h1, h0]; rfl
set_option maxHeartbeats 1000000 in
theorem fit_far (s : Bool) (x3 x2 x1 x0 : Nat) (h : decide (0 < x3) = true ∨ (decide (0 < x3) = false ∧ decide (0 < x2) = true)) (hx1 : x1 ≤ 4294967295) (w : World) :
    Calls Tryd.prog 42 #[.agg #[.bool s, .int .u64 (x3 : Int), .int .u64 (x2 : Int), .int .u64 (x1 : Int), .int .u64 (x0 : Int)]] w fun e w' => e = .returned (.tuple #[.int .i64 0, .int .i64 14]) ∧ Grown w w' := by
  rcases h with h | ⟨h, h2⟩
  all_goals
    go_enter Tryd.func42, Tryd.ntmps42
    go_wp2
    go_ret2
    exact ⟨rfl, by go_grown⟩
theorem or_join (x1 x0 : Nat) (h1 : x1 ≤ 4294967295) (h0 : x0 ≤ 4294967295) : bits .or .u64 ((x1 : Int) * 4294967296) (x0 : Int) = ((x1 * 4294967296 + x0 : Nat) : Int) := by
  have h := bits_or_u64_nat (x1 * 4294967296) x0 (by omega) (by omega)
  have e : (((x1 * 4294967296 : Nat) : Nat) : Int) = (x1 : Int) * 4294967296 := by omega
  rw [e] at h
  rw [h]
  congr 1
  have k := Nat.shiftLeft_add_eq_or_of_lt (show x0 < 2 ^ 32 by omega) x1
  rw [Nat.shiftLeft_eq] at k
  exact k.symm
set_option maxHeartbeats 1000000 in
theorem fit_near (s : Bool) (x1 x0 n : Nat) (hx1 : x1 ≤ 4294967295) (hx0 : x0 ≤ 4294967295) (hn : Hid (n = x1 * 4294967296 + x0)) (w : World) :
    Calls Tryd.prog 42 #[.agg #[.bool s, .int .u64 0, .int .u64 0, .int .u64 (x1 : Int), .int .u64 (x0 : Int)]] w fun e w' => e = .returned (.tuple #[.int .i64 (fitV (sgn s n)), .int .i64 (fitE (sgn s n))]) ∧ Grown w w' := by
  have ho : bits .or .u64 ((x1 : Int) * 4294967296) (x0 : Int) = (n : Int) := by rw [or_join x1 x0 hx1 hx0, hn.out]
  have hb : n ≤ 18446744073709551615 := by have := hn.out; omega
  cases s
  · by_cases h : n ≤ 9223372036854775807
    · rw [(fit_in (n := sgn false n) (by show _ ≤ (n : Int); omega) (by show (n : Int) ≤ _; omega)).1, (fit_in (n := sgn false n) (by show _ ≤ (n : Int); omega) (by show (n : Int) ≤ _; omega)).2]
      rw [show sgn false n = (n : Int) from rfl]
      obtain ⟨m, hm⟩ : ∃ m : Int, (n : Int) = m := ⟨_, rfl⟩
      have m0 : 0 ≤ m := by omega
      have m1 : m ≤ 9223372036854775807 := by omega
      rw [hm] at ho ⊢
      clear hm h hb hn
      go_enter Tryd.func42, Tryd.ntmps42
      go_wp2
      go_ret2
      exact ⟨rfl, by go_grown⟩
    · rw [(fit_out (n := sgn false n) (by show _ ∨ _ < (n : Int); omega)).1, (fit_out (n := sgn false n) (by show _ ∨ _ < (n : Int); omega)).2]
      obtain ⟨m, hm⟩ : ∃ m : Int, (n : Int) = m := ⟨_, rfl⟩
      have m0 : 9223372036854775808 ≤ m := by omega
      have m1 : m ≤ 18446744073709551615 := by omega
      rw [hm] at ho
      clear hm h hb hn
      go_enter Tryd.func42, Tryd.ntmps42
      go_wp2
      go_ret2
      exact ⟨rfl, by go_grown⟩
  · by_cases h : n ≤ 9223372036854775808
    · rw [(fit_in (n := sgn true n) (by show _ ≤ -(n : Int); omega) (by show -(n : Int) ≤ _; omega)).1, (fit_in (n := sgn true n) (by show _ ≤ -(n : Int); omega) (by show -(n : Int) ≤ _; omega)).2]
      rw [show sgn true n = -(n : Int) from rfl]
      have e : wrap64 (IntKind.u64.wrap (-(n : Int))) = -(n : Int) := by rw [u64w]; unfold wrap64; omega
      have E := Lib.hid e
      clear e
      go_enter Tryd.func42, Tryd.ntmps42
      go_wp2
      go_ret2
      exact ⟨ret2i E.out rfl, by go_grown⟩
    · rw [(fit_out (n := sgn true n) (by show -(n : Int) < _ ∨ _; omega)).1, (fit_out (n := sgn true n) (by show -(n : Int) < _ ∨ _; omega)).2]
      go_enter Tryd.func42, Tryd.ntmps42
      go_wp2
      go_ret2
      exact ⟨rfl, by go_grown⟩
theorem fit_c (s : Bool) (n : Nat) (hn : n < 340282366920938463463374607431768211456) (w : World) :
    Calls Tryd.prog 42 #[NV s n] w fun e w' => e = .returned (.tuple #[.int .i64 (fitV (sgn s n)), .int .i64 (fitE (sgn s n))]) ∧ Grown w w' := by
  have b1 := d1_lt n
  have b0 := d0_lt n
  by_cases h : d3 n = 0
  · by_cases g : d2 n = 0
    · have hj : n = d1 n * 4294967296 + d0 n := by unfold d0 d1 d2 d3 at *; omega
      have k := fit_near s (d1 n) (d0 n) n (by omega) (by omega) (Lib.hid hj) w
      unfold NV
      rw [h, g]
      exact k
    · have ho : 18446744073709551615 < n := by unfold d2 at g; omega
      rw [(num_far (b := s) ho).1, (num_far (b := s) ho).2]
      exact fit_far s (d3 n) (d2 n) (d1 n) (d0 n) (.inr ⟨by simp [h], by simp; omega⟩) (by omega) w
  · have ho : 18446744073709551615 < n := by unfold d3 at h; omega
    rw [(num_far (b := s) ho).1, (num_far (b := s) ho).2]
    exact fit_far s (d3 n) (d2 n) (d1 n) (d0 n) (.inl (by simp; omega)) (by omega) w
end Go.Proofs.YtdblkjcimegoeaaDoor
