/- A record has, as it must be, just the attributes that it was given, in the order of their names; given twice they are refused. No condition. -/
import Derived.Test.YtdblkjcimegoeaaRecsZ
import Derived.Test.YtdblkjcimegoeaaRecsN
namespace Go.Proofs.Ytdblkjcimegoeaa
open Go.RowKit
theorem valueRecords_v (ns : List ByteArray) (zs : List Int) (w : World) (v0 v1 : Value) (hn : Na w ns v0) (hz : Nu w zs v1) :
    Calls Try.prog 3 #[v0, v1] w fun e w' => e = .returned (.bool true) ∧ Low w w' := by
  by_cases hcmp : (zs.length : Int) < (ns.length : Int)
  · exact valueRecords_z ns zs w v0 v1 hn hz hcmp
  · exact valueRecords_n ns zs w v0 v1 hn hz hcmp
end Go.Proofs.Ytdblkjcimegoeaa
