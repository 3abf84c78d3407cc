/- few and size answer: few's yes says that all rows are short and the depth is small. No condition. -/
import Derived.Test.YtbfaccndgjilmaaGreatGr
import Derived.Deep.LoopGhost
import Derived.Lib.Hide
namespace Go.Proofs.YtbfaccndgjilmaaGreat
open Go.RowKit Go.Sort
/-- What few answers. -/
def FewP (v : V) (d : Int) (w : World) (e : Ending) (w' : World) : Prop := ∃ b : Bool, e = .returned (.bool b) ∧ (b = true → Sm v ∧ (dep v : Int) + d ≤ 61) ∧ Gr w w'
/-- What size answers: some number. -/
def SizeP (w : World) (e : Ending) (w' : World) : Prop := ∃ n : Int, e = .returned (.int .i64 n) ∧ Gr w w'
end Go.Proofs.YtbfaccndgjilmaaGreat
