/- The reference's Whole tells whether two values are the same. No condition. -/
import Derived.Test.YtdblkjcimegoeaaSmall
namespace Go.Proofs.Ytdblkjcimegoeaa
open Go.RowKit Go.Sort Go.WideShapes
/-- Are two the same? -/
noncomputable def eqB (a b : V) : Bool := @decide (a = b) (Classical.propDecidable _)
theorem eqB_true {a b : V} (h : a = b) : true = eqB a b := (@decide_eq_true _ (Classical.propDecidable _) h).symm
theorem eqB_false {a b : V} (h : ¬ a = b) : false = eqB a b := (@decide_eq_false _ (Classical.propDecidable _) h).symm
theorem eqB_t {a b : V} (h : eqB a b = true) : a = b := @of_decide_eq_true _ (Classical.propDecidable _) h
theorem eqB_f {a b : V} (h : eqB a b = false) : ¬ a = b := @of_decide_eq_false _ (Classical.propDecidable _) h
theorem tl_inj {s t : ByteArray} : s.toList = t.toList ↔ s = t := by
  rw [ByteArray.toList_eq, ByteArray.toList_eq]
  exact ⟨bytes_inj, fun h => by rw [h]⟩
end Go.Proofs.Ytdblkjcimegoeaa
