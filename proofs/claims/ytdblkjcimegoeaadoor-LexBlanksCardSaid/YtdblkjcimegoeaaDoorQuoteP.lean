/- Plain texts in quotes. No condition. -/
import Derived.WalkKit
namespace Go.Proofs.YtdblkjcimegoeaaDoor
def markB (c : UInt8) : Bool := c == 34 || c == 92
def prinB (c : UInt8) : Bool := decide (32 ≤ (c.toNat : Int) ∧ (c.toNat : Int) ≤ 126)
def hexN (n : Nat) : UInt8 := if n < 10 then UInt8.ofNat (48 + n) else UInt8.ofNat (87 + n)
def quo1 (c : UInt8) : List UInt8 := if markB c = true then [92, c] else if prinB c = true then [c] else [92, 120, hexN (c.toNat / 16), hexN (c.toNat % 16)]
def quoI (l : List UInt8) : List UInt8 := l.flatMap quo1
def quoteL (l : List UInt8) : List UInt8 := 34 :: (quoI l ++ [34])
theorem quo1_mark {c : UInt8} (h : markB c = true) : quo1 c = [92, c] := if_pos h
theorem quo1_plain {c : UInt8} (h : markB c = false) (h2 : prinB c = true) : quo1 c = [c] := by unfold quo1; rw [if_neg (by simp [h]), if_pos h2]
theorem quo1_hex {c : UInt8} (h : markB c = false) (h2 : prinB c = false) : quo1 c = [92, 120, hexN (c.toNat / 16), hexN (c.toNat % 16)] := by unfold quo1; rw [if_neg (by simp [h]), if_neg (by simp [h2])]
theorem quo1_len (c : UInt8) : (quo1 c).length ≤ 4 := by
  unfold quo1; repeat' split
  all_goals simp
theorem quoI_len (l : List UInt8) : (quoI l).length ≤ 4 * l.length := by
  induction l with
  | nil => simp [quoI]
  | cons c r ih => unfold quoI at *; rw [List.flatMap_cons, List.length_append, List.length_cons]; have := quo1_len c; omega
theorem quoI_take {l : List UInt8} {k : Nat} (h : k < l.length) : quoI (l.take (k + 1)) = quoI (l.take k) ++ quo1 l[k] := by
  rw [List.take_succ_eq_append_getElem h]; unfold quoI; rw [List.flatMap_append]; simp
theorem quoI_take_len (l : List UInt8) (k : Nat) : (quoI (l.take k)).length ≤ 4 * l.length := Nat.le_trans (quoI_len _) (by rw [List.length_take]; omega)
theorem quoI_cons (c : UInt8) (l : List UInt8) : quoI (c :: l) = quo1 c ++ quoI l := rfl
theorem quoI_append (a b : List UInt8) : quoI (a ++ b) = quoI a ++ quoI b := by simp [quoI]
theorem hexN_at : ∀ n : Fin 16, (ByteArray.mk #[48, 49, 50, 51, 52, 53, 54, 55, 56, 57, 97, 98, 99, 100, 101, 102])[n.val]'(by show n.val < 16; exact n.isLt) = hexN n.val := by decide
theorem and15 (c : UInt8) : Go.bits .and .u8 (c.toNat : Int) 15 = (c.toNat : Int) % 16 := by
  have h : ∀ n : Fin 256, Go.bits .and .u8 (n.val : Int) 15 = (n.val : Int) % 16 := by decide +kernel
  exact h ⟨c.toNat, c.toNat_lt⟩
end Go.Proofs.YtdblkjcimegoeaaDoor
