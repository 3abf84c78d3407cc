/- Plain numbers: a whole number that 64 bits hold, and what stands in the place of one that they do not. No condition. -/
import Derived.WalkKit
namespace Go.Proofs.YtdblkjcimegoeaaDoor
/-- Does 64 bits hold the number? -/
def InR (n : Int) : Prop := -9223372036854775808 ≤ n ∧ n ≤ 9223372036854775807
/-- The number that is told. -/
def fitV (n : Int) : Int := if -9223372036854775808 ≤ n ∧ n ≤ 9223372036854775807 then n else 0
/-- The error that is told. -/
def fitE (n : Int) : Int := if -9223372036854775808 ≤ n ∧ n ≤ 9223372036854775807 then 0 else 14
theorem fitV_in {n : Int} (h : InR n) : fitV n = n := if_pos h
theorem fitE_in {n : Int} (h : InR n) : fitE n = 0 := if_pos h
theorem fitV_out {n : Int} (h : ¬ InR n) : fitV n = 0 := if_neg h
theorem fitE_out {n : Int} (h : ¬ InR n) : fitE n = 14 := if_neg h
theorem fitV_inR (n : Int) : InR (fitV n) := by
  unfold fitV
  split
  · assumption
  · exact ⟨by omega, by omega⟩
theorem fitE_range (n : Int) : 0 ≤ fitE n ∧ fitE n ≤ 14 := by unfold fitE; split <;> omega
theorem wrap_up {n : Int} (h : 9223372036854775807 < n) (h2 : n ≤ 18446744073709551615) : Go.RowKit.wrap64 n = n - 18446744073709551616 := by
  unfold Go.RowKit.wrap64; omega
theorem wrap_dn {n : Int} (h : n < -9223372036854775808) (h2 : -18446744073709551616 ≤ n) : Go.RowKit.wrap64 n = n + 18446744073709551616 := by
  unfold Go.RowKit.wrap64; omega
theorem grown_trans {a b c : World} (h : RowKit.Grown a b) (k : RowKit.Grown b c) : RowKit.Grown a c :=
  ⟨World.keptBut_trans h.1 k.1, fun x => (k.2.1 x).trans (h.2.1 x), Nat.le_trans h.2.2 k.2.2⟩
end Go.Proofs.YtdblkjcimegoeaaDoor
