/- The reference's Order is the order by definition. No condition. -/
import Derived.Test.YtdblkjcimegoeaaRefO
namespace Go.Proofs.Ytdblkjcimegoeaa
open Go.RowKit Go.Sort
theorem cmpN_end {l m : List ByteArray} (h : l = [] ∨ m = []) : cmpN l m = cmpI l.length m.length := by
  unfold cmpI Lib.compareInt
  cases l with
  | nil => cases m with
    | nil => simp [cmpN]
    | cons y m => simp [cmpN] <;> omega
  | cons x l => cases m with
    | nil => simp [cmpN] <;> omega
    | cons y m => simp at h
theorem cmpI_self (x : Int) : cmpI x x = 0 := by simp [cmpI, Lib.compareInt]
theorem cmpI_ne {x y : Int} (h : x ≠ y) : cmpI x y ≠ 0 := by
  simp only [cmpI, Lib.compareInt]
  split
  · omega
  · split <;> omega
theorem bh_of {w : World} {v : V} {it nm : Value} (h : R w v it nm) : Bh v.h := (rep_v.1 h).1
end Go.Proofs.Ytdblkjcimegoeaa
