/- A value as it must be, the reference's way. No condition but how many items there are. -/
import Derived.Test.YtdblkjcimegoeaaRCanM
namespace Go.Proofs.Ytdblkjcimegoeaa
open Go.RowKit Go.Sort
end Go.Proofs.Ytdblkjcimegoeaa
