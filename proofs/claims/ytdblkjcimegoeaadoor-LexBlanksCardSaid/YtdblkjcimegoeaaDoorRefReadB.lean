/- What the document's Read has told of a text's beginning. No condition. -/
import Derived.Test.YtdblkjcimegoeaaDoorRefReadA
namespace Go.Proofs.YtdblkjcimegoeaaDoor
open Go.RowKit
/-- The bytes from f to k. -/
def part (s : ByteArray) (f k : Nat) : List UInt8 := (s.data.toList.drop f).take (k - f)
def ToldP (s : ByteArray) (f k T : Nat) (o : Bool) : Prop := allDig (part s f k) = true ∧ (o = false → toldN (part s f k) = T) ∧ (o = true → 18446744073709551615 < toldN (part s f k))
theorem part_snoc (s : ByteArray) (f k : Nat) (hf : f ≤ k) (hk : k < s.size) : part s f (k + 1) = part s f k ++ [s[k]] := by
  unfold part
  have e : k + 1 - f = (k - f) + 1 := by omega
  have hl : k - f < (s.data.toList.drop f).length := by simp; show k - f < s.size - f; omega
  rw [e, take_snoc _ _ hl]
  congr 2
  rw [List.getElem_drop]
  have : f + (k - f) = k := by omega
  simp only [this]; rfl
theorem part_end (s : ByteArray) (f : Nat) : part s f s.size = s.data.toList.drop f := by
  unfold part
  rw [List.take_of_length_le]
  simp
theorem toldp_start (s : ByteArray) (f : Nat) : ToldP s f f 0 false := by
  unfold ToldP part; simp [allDig, toldN]
theorem toldp_dig (s : ByteArray) (f k : Nat) (hf : f ≤ k) (hk : k < s.size) (h : allDig (part s f k) = true) (g1 : 48 ≤ (s[k].toNat : Int)) (g2 : (s[k].toNat : Int) ≤ 57) : allDig (part s f (k + 1)) = true := by
  rw [part_snoc s f k hf hk, allDig_snoc, h]
  show isDig s[k] = true
  unfold isDig; simp; omega
theorem toldp_fit (s : ByteArray) (f k T : Nat) (o : Bool) (hf : f ≤ k) (hk : k < s.size) (h : ToldP s f k T o) (g1 : 48 ≤ (s[k].toNat : Int)) (g2 : (s[k].toNat : Int) ≤ 57) : ToldP s f (k + 1) (T * 10 + (s[k].toNat - 48)) o := by
  refine ⟨toldp_dig s f k hf hk h.1 g1 g2, fun ho => ?_, fun ho => ?_⟩
  · rw [part_snoc s f k hf hk, toldN_snoc, h.2.1 ho]
  · have := h.2.2 ho
    rw [part_snoc s f k hf hk, toldN_snoc]; omega
theorem toldp_over (s : ByteArray) (f k T : Nat) (o : Bool) (hf : f ≤ k) (hk : k < s.size) (h : ToldP s f k T o) (g1 : 48 ≤ (s[k].toNat : Int)) (g2 : (s[k].toNat : Int) ≤ 57) (hov : 18446744073709551615 < T * 10 + (s[k].toNat - 48)) : ToldP s f (k + 1) 0 true := by
  refine ⟨toldp_dig s f k hf hk h.1 g1 g2, fun ho => absurd ho (by simp), fun _ => ?_⟩
  rw [part_snoc s f k hf hk, toldN_snoc]
  cases o with
  | false => rw [h.2.1 rfl]; exact hov
  | true => have := h.2.2 rfl; omega
theorem toldp_stop (s : ByteArray) (f k : Nat) (hf : f ≤ k) (hk : k < s.size) (g : (s[k].toNat : Int) < 48 ∨ 57 < (s[k].toNat : Int)) : allDig (s.data.toList.drop f) = false := by
  have : allDig (part s f (k + 1)) = false := by
    rw [part_snoc s f k hf hk, allDig_snoc]
    have : isDig s[k] = false := by unfold isDig; simp; omega
    rw [this, Bool.and_false]
  exact allDig_take _ _ this
end Go.Proofs.YtdblkjcimegoeaaDoor
