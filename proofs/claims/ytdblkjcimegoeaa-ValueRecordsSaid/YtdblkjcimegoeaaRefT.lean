/- The reference's order of numbers, of texts, of names. Condition: the length that any text has. -/
import Derived.Test.YtdblkjcimegoeaaOrd
import Derived.BigQuiet
namespace Go.Proofs.Ytdblkjcimegoeaa
open Go.RowKit Go.Sort
theorem cb_cons (x y : UInt8) (l m : List UInt8) : Lib.compareBytes (x :: l) (y :: m) = if x < y then -1 else if y < x then 1 else Lib.compareBytes l m := rfl
theorem cb_end {l m : List UInt8} (h : l = [] ∨ m = []) : Lib.compareBytes l m = cmpI l.length m.length := by
  unfold cmpI Lib.compareInt
  cases l <;> cases m <;> simp [Lib.compareBytes] at * <;> omega
theorem u8_lt {x y : UInt8} : x < y ↔ (x.toNat : Int) < (y.toNat : Int) := by rw [UInt8.lt_iff_toNat_lt]; omega
end Go.Proofs.Ytdblkjcimegoeaa
