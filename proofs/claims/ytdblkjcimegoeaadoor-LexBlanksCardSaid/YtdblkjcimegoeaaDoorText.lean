/- Plain digits: which bytes are those of a number, and which number they are. No condition. -/
import Derived.Test.YtdblkjcimegoeaaDoorPlain
namespace Go.Proofs.YtdblkjcimegoeaaDoor
open Go.RowKit
def isDig (c : UInt8) : Bool := decide (48 ≤ (c.toNat : Int) ∧ (c.toNat : Int) ≤ 57)
def allDig (l : List UInt8) : Bool := l.all isDig
/-- The head of digits may be: there is one, and a nought ahead stands alone, without a minus. -/
def headOk (below : Bool) (l : List UInt8) : Bool :=
  match l with
  | [] => false
  | c :: r => !(c == 48 && (below || !r.isEmpty))
def shownB (below : Bool) (l : List UInt8) : Bool := headOk below l && allDig l
def toldN (l : List UInt8) : Nat := l.foldl (fun t c => t * 10 + (c.toNat - 48)) 0
def isMinus (l : List UInt8) : Bool := l.head? == some 45
def afterSign (l : List UInt8) : List UInt8 := if isMinus l = true then l.tail else l
def sgn (b : Bool) (n : Nat) : Int := if b = true then -(n : Int) else (n : Int)
def numOf (l : List UInt8) : Int := sgn (isMinus l) (toldN (afterSign l))
def readV (l : List UInt8) : Int := if shownB (isMinus l) (afterSign l) = true then fitV (numOf l) else 0
def readE (l : List UInt8) : Int := if shownB (isMinus l) (afterSign l) = true then fitE (numOf l) else 10
theorem take_snoc (l : List UInt8) (k : Nat) (h : k < l.length) : l.take (k + 1) = l.take k ++ [l[k]] := by
  rw [List.take_succ_eq_append_getElem h]
theorem allDig_snoc (l : List UInt8) (c : UInt8) : allDig (l ++ [c]) = (allDig l && isDig c) := by simp [allDig]
theorem allDig_take (l : List UInt8) (k : Nat) (h : allDig (l.take k) = false) : allDig l = false := by
  unfold allDig at *
  rw [List.all_eq_false] at *
  obtain ⟨x, hx, hd⟩ := h
  exact ⟨x, List.mem_of_mem_take hx, hd⟩
theorem toldN_snoc (l : List UInt8) (c : UInt8) : toldN (l ++ [c]) = toldN l * 10 + (c.toNat - 48) := by simp [toldN]
theorem told_fold_ge (l : List UInt8) (t : Nat) : t ≤ l.foldl (fun t c => t * 10 + (c.toNat - 48)) t := by
  induction l generalizing t with
  | nil => exact Nat.le_refl _
  | cons c r ih => exact Nat.le_trans (show t ≤ t * 10 + (c.toNat - 48) by omega) (ih _)
theorem toldN_take_le (l : List UInt8) (k : Nat) : toldN (l.take k) ≤ toldN l := by
  have h : toldN l = toldN (l.take k ++ l.drop k) := by rw [List.take_append_drop]
  rw [h]
  unfold toldN
  rw [List.foldl_append]
  exact told_fold_ge _ _
end Go.Proofs.YtdblkjcimegoeaaDoor
