/- The document's difference and order of sizes, digit by digit of 2^32. Condition: digits below 2^32, the greater one first. -/
import Derived.Test.YtdblkjcimegoeaaDoorPlus
namespace Go.Proofs.YtdblkjcimegoeaaDoor
open Go.RowKit
attribute [local go_sem] alloc_drewN setCell_drewN
end Go.Proofs.YtdblkjcimegoeaaDoor
