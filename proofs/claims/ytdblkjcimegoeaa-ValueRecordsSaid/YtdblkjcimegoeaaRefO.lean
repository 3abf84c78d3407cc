/- The reference's order of values is the order by definition. No condition. -/
import Derived.Test.YtdblkjcimegoeaaRefT
namespace Go.Proofs.Ytdblkjcimegoeaa
open Go.RowKit Go.Sort
theorem ordL_end {l m : List V} (h : l = [] ∨ m = []) : ordL l m = cmpI l.length m.length := by
  unfold cmpI Lib.compareInt
  cases l with
  | nil => cases m with
    | nil => simp [ordL_nil]
    | cons y m => simp [ordL_nil_cons] <;> omega
  | cons x l => cases m with
    | nil => simp [ordL_cons_nil] <;> omega
    | cons y m => simp at h
theorem drop_end {α : Type} {l m : List α} {i : Nat} (h1 : i ≤ l.length) (h2 : i ≤ m.length) : cmpI (l.drop i).length (m.drop i).length = cmpI l.length m.length := by
  simp only [List.length_drop, cmpI, Lib.compareInt]
  split <;> split <;> (try split) <;> (try split) <;> omega
end Go.Proofs.Ytdblkjcimegoeaa
