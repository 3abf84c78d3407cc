/- The document's sum of numbers with signs. Conditions: sizes below 2^127. -/
import Derived.Test.YtdblkjcimegoeaaDoorSum
import Derived.Deep.RegionHeld3
import Derived.Deep.RegionWith
namespace Go.Proofs.YtdblkjcimegoeaaDoor
open Go.RowKit
attribute [local go_sem] alloc_drewN setCell_drewN
theorem skeep {w : World} {b b' o o' : Nat} {u v : Value} (h : b' ≠ b) (hv : w.cell? ⟨b, o, none⟩ = some v) : (w.setCell ⟨b', o', none⟩ u).cell? ⟨b, o, none⟩ = some v :=
  (World.cell?_of_block (w := w) (Below.heap_setCell w ⟨b', o', none⟩ u b (fun e => h e.symm))).trans hv
theorem gkeep {W w1 : World} (h : Grown W w1) {b o : Nat} {v : Value} (hv : W.cell? ⟨b, o, none⟩ = some v) (hb : b < W.heap.size) : w1.cell? ⟨b, o, none⟩ = some v := by rw [(gcells h).1 b o hb]; exact hv
end Go.Proofs.YtdblkjcimegoeaaDoor
