/- The document's sum of numbers with signs. Conditions: sizes below 2^127. -/
import Derived.Test.YtdblkjcimegoeaaDoorNum
import Derived.Deep.RegionHeld3
import Derived.Deep.RegionWith
namespace Go.Proofs.YtdblkjcimegoeaaDoor
open Go.RowKit
attribute [local go_sem] alloc_drewN setCell_drewN
theorem gcells {W w1 : World} (h : Grown W w1) : (∀ b o, b < W.heap.size → w1.cell? ⟨b, o, none⟩ = W.cell? ⟨b, o, none⟩) ∧ (∀ a, w1.frozen? a = W.frozen? a) :=
  ⟨fun _ _ hb => h.1.cell hb (fun f => f), h.2.1⟩
theorem plus_e (m n : Nat) (w : World) :
    Calls Tryd.prog 41 #[.agg #[.int .u64 (d3 m : Int), .int .u64 (d2 m : Int), .int .u64 (d1 m : Int), .int .u64 (d0 m : Int)], .agg #[.int .u64 (d3 n : Int), .int .u64 (d2 n : Int), .int .u64 (d1 n : Int), .int .u64 (d0 n : Int)]] w fun e w' => e = .returned (.agg #[.int .u64 (d3 (m + n) : Int), .int .u64 (d2 (m + n) : Int), .int .u64 (d1 (m + n) : Int), .int .u64 (d0 (m + n) : Int)]) ∧ Grown w w' := plus_c m n w
/-- A size of at most 128 bits. -/
def Fits (n : Nat) : Prop := n < 340282366920938463463374607431768211456
end Go.Proofs.YtdblkjcimegoeaaDoor
