/- The document's sum of numbers with signs. Conditions: sizes below 2^127. -/
import Derived.Test.YtdblkjcimegoeaaDoorSumL
import Derived.Deep.RegionHeld3
import Derived.Deep.RegionWith
namespace Go.Proofs.YtdblkjcimegoeaaDoor
open Go.RowKit
attribute [local go_sem] alloc_drewN setCell_drewN
end Go.Proofs.YtdblkjcimegoeaaDoor
