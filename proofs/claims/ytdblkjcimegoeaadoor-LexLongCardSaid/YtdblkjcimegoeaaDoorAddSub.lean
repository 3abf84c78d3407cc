/- ints.Add and ints.Sub: the sum and the difference, or 14. No condition but that the arguments are 64-bit numbers. -/
import Derived.Test.YtdblkjcimegoeaaDoorPlain
import Derived.Test.YtdblkjcimegoeaaDoorRows
import Derived.Handy
import Derived.Outline
namespace Go.Proofs.YtdblkjcimegoeaaDoor
open Go.RowKit
theorem fit_out {n : Int} (h : n < -9223372036854775808 ∨ 9223372036854775807 < n) : fitV n = 0 ∧ fitE n = 14 :=
  ⟨fitV_out (fun k => by unfold InR at k; omega), fitE_out (fun k => by unfold InR at k; omega)⟩
theorem fit_in {n : Int} (h1 : -9223372036854775808 ≤ n) (h2 : n ≤ 9223372036854775807) : fitV n = n ∧ fitE n = 0 := ⟨fitV_in ⟨h1, h2⟩, fitE_in ⟨h1, h2⟩⟩
end Go.Proofs.YtdblkjcimegoeaaDoor
