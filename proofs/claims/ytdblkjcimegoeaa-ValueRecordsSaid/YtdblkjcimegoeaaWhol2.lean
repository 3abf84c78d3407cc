/- The reference's Whole tells whether two values are the same. No condition. -/
import Derived.Test.YtdblkjcimegoeaaWhole
namespace Go.Proofs.Ytdblkjcimegoeaa
open Go.RowKit Go.Sort
end Go.Proofs.Ytdblkjcimegoeaa
