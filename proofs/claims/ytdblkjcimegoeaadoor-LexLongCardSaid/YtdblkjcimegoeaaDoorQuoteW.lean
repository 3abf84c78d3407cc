/- texts.Quote: a text in quotes. Condition: the text is shorter than 2^32. -/
import Derived.Test.YtdblkjcimegoeaaDoorQuoteL
import Derived.Test.YtdblkjcimegoeaaDoorBytes
import Derived.Deep.RegionLaw
import Derived.WalkLawsBesides
import Derived.WalkSpells
import Derived.Outline
namespace Go.Proofs.YtdblkjcimegoeaaDoor
open Go.RowKit
theorem retS {a b : List UInt8} (h : a = b) : Ending.returned (.string ⟨a.toArray⟩) = .returned (.string ⟨b.toArray⟩) := by rw [h]
theorem hex_run (n : Nat) (hn : n < 16) (m : Int) (hm : m = n) (w : World) :
    (Instr.index 9 (.string ⟨#[48, 49, 50, 51, 52, 53, 54, 55, 56, 57, 97, 98, 99, 100, 101, 102]⟩) (.int .u8 m)).run Tryd.prog w = .ok (.int .u8 (hexN n).toNat) w := by
  subst hm
  have h0 : (0 : Int) ≤ n ∧ (n : Int) < 16 := by omega
  have e := hexN_at ⟨n, hn⟩
  simp only [← e]
  go_simp
end Go.Proofs.YtdblkjcimegoeaaDoor
