/- Plain numbers: a whole number that 64 bits hold, and what stands in the place of one that they do not. No condition. Plain digits: which bytes are those of a number, and which number they are. No condition. ints.Add and ints.Sub: the sum and the difference, or 14. No condition but that the arguments are 64-bit numbers. ints.Mul and ints.Neg: the product and the opposite, or 14. No condition but that the arguments are 64-bit numbers. -/
import Derived.WalkKit
import Derived.Test.YtflpidnkppljlaaDoorRows
import Derived.Handy
import Derived.Outline
import Derived.Test.YtflpidnkppljlaaDoorShelf
import Derived.Lib.Hide
set_option linter.unusedVariables false
set_option linter.unnecessarySimpa false
set_option linter.unusedSimpArgs false
namespace Go.Proofs.YtflpidnkppljlaaDoor
/-- Does 64 bits hold the number? -/
def InR (n : Int) : Prop := -9223372036854775808 ≤ n ∧ n ≤ 9223372036854775807
/-- The number that is told. -/
def fitV (n : Int) : Int := if -9223372036854775808 ≤ n ∧ n ≤ 9223372036854775807 then n else 0
/-- The error that is told. -/
def fitE (n : Int) : Int := if -9223372036854775808 ≤ n ∧ n ≤ 9223372036854775807 then 0 else 14
theorem fitV_in {n : Int} (h : InR n) : fitV n = n := if_pos h
theorem fitE_in {n : Int} (h : InR n) : fitE n = 0 := if_pos h
theorem fitV_out {n : Int} (h : ¬ InR n) : fitV n = 0 := if_neg h
theorem fitE_out {n : Int} (h : ¬ InR n) : fitE n = 14 := if_neg h
theorem fitV_inR (n : Int) : InR (fitV n) := by
  unfold fitV
  split
  · assumption
  · exact ⟨by omega, by omega⟩
theorem fitE_range (n : Int) : 0 ≤ fitE n ∧ fitE n ≤ 14 := by unfold fitE; split <;> omega
theorem wrap_up {n : Int} (h : 9223372036854775807 < n) (h2 : n ≤ 18446744073709551615) : Go.RowKit.wrap64 n = n - 18446744073709551616 := by
  unfold Go.RowKit.wrap64; omega
theorem wrap_dn {n : Int} (h : n < -9223372036854775808) (h2 : -18446744073709551616 ≤ n) : Go.RowKit.wrap64 n = n + 18446744073709551616 := by
  unfold Go.RowKit.wrap64; omega
theorem grown_trans {a b c : World} (h : RowKit.Grown a b) (k : RowKit.Grown b c) : RowKit.Grown a c :=
  ⟨World.keptBut_trans h.1 k.1, fun x => (k.2.1 x).trans (h.2.1 x), Nat.le_trans h.2.2 k.2.2⟩
end Go.Proofs.YtflpidnkppljlaaDoor
namespace Go.Proofs.YtflpidnkppljlaaDoor
open Go.RowKit
def isDig (c : UInt8) : Bool := decide (48 ≤ (c.toNat : Int) ∧ (c.toNat : Int) ≤ 57)
def allDig (l : List UInt8) : Bool := l.all isDig
/-- The head of digits may be: there is one, and a nought ahead stands alone, without a minus. -/
def headOk (below : Bool) (l : List UInt8) : Bool :=
  match l with
  | [] => false
  | c :: r => !(c == 48 && (below || !r.isEmpty))
def shownB (below : Bool) (l : List UInt8) : Bool := headOk below l && allDig l
def toldN (l : List UInt8) : Nat := l.foldl (fun t c => t * 10 + (c.toNat - 48)) 0
def isMinus (l : List UInt8) : Bool := l.head? == some 45
def afterSign (l : List UInt8) : List UInt8 := if isMinus l = true then l.tail else l
def sgn (b : Bool) (n : Nat) : Int := if b = true then -(n : Int) else (n : Int)
def numOf (l : List UInt8) : Int := sgn (isMinus l) (toldN (afterSign l))
def readV (l : List UInt8) : Int := if shownB (isMinus l) (afterSign l) = true then fitV (numOf l) else 0
def readE (l : List UInt8) : Int := if shownB (isMinus l) (afterSign l) = true then fitE (numOf l) else 10
theorem take_snoc (l : List UInt8) (k : Nat) (h : k < l.length) : l.take (k + 1) = l.take k ++ [l[k]] := by
  rw [List.take_succ_eq_append_getElem h]
theorem allDig_snoc (l : List UInt8) (c : UInt8) : allDig (l ++ [c]) = (allDig l && isDig c) := by simp [allDig]
theorem allDig_take (l : List UInt8) (k : Nat) (h : allDig (l.take k) = false) : allDig l = false := by
  unfold allDig at *
  rw [List.all_eq_false] at *
  obtain ⟨x, hx, hd⟩ := h
  exact ⟨x, List.mem_of_mem_take hx, hd⟩
theorem toldN_snoc (l : List UInt8) (c : UInt8) : toldN (l ++ [c]) = toldN l * 10 + (c.toNat - 48) := by simp [toldN]
theorem told_fold_ge (l : List UInt8) (t : Nat) : t ≤ l.foldl (fun t c => t * 10 + (c.toNat - 48)) t := by
  induction l generalizing t with
  | nil => exact Nat.le_refl _
  | cons c r ih => exact Nat.le_trans (show t ≤ t * 10 + (c.toNat - 48) by omega) (ih _)
theorem toldN_take_le (l : List UInt8) (k : Nat) : toldN (l.take k) ≤ toldN l := by
  have h : toldN l = toldN (l.take k ++ l.drop k) := by rw [List.take_append_drop]
  rw [h]
  unfold toldN
  rw [List.foldl_append]
  exact told_fold_ge _ _
end Go.Proofs.YtflpidnkppljlaaDoor
namespace Go.Proofs.YtflpidnkppljlaaDoor
open Go.RowKit
theorem fit_out {n : Int} (h : n < -9223372036854775808 ∨ 9223372036854775807 < n) : fitV n = 0 ∧ fitE n = 14 :=
  ⟨fitV_out (fun k => by unfold InR at k; omega), fitE_out (fun k => by unfold InR at k; omega)⟩
theorem fit_in {n : Int} (h1 : -9223372036854775808 ≤ n) (h2 : n ≤ 9223372036854775807) : fitV n = n ∧ fitE n = 0 := ⟨fitV_in ⟨h1, h2⟩, fitE_in ⟨h1, h2⟩⟩
end Go.Proofs.YtflpidnkppljlaaDoor
namespace Go.Proofs.YtflpidnkppljlaaDoor
open Go.RowKit
theorem ret1 {k : IntKind} {a b : Int} (h : a = b) : Ending.returned (.int k a) = .returned (.int k b) := by rw [h]
theorem ret2i {k l : IntKind} {a b c d : Int} (h : a = b) (g : c = d) : Ending.returned (.tuple #[.int k a, .int l c]) = .returned (.tuple #[.int k b, .int l d]) := by rw [h, g]
theorem u64w (a : Int) : IntKind.u64.wrap a = a % 18446744073709551616 := IntKind.wrap_u64 a
theorem i64w (a : Int) : IntKind.i64.wrap a = (a + 9223372036854775808) % 18446744073709551616 - 9223372036854775808 := IntKind.wrap_i64 a
set_option maxHeartbeats 400000 in
theorem signed_c (b : Bool) (n : Nat) (hn : n ≤ 18446744073709551615) (w : World) :
    Calls Tryd.prog 54 #[.bool b, .int .u64 (n : Int)] w fun e w' => e = .returned (.tuple #[.int .i64 (fitV (sgn b n)), .int .i64 (fitE (sgn b n))]) ∧ w' = w := by
  cases b
  · rw [show sgn false n = (n : Int) from rfl]
    by_cases h : n ≤ 9223372036854775807
    · rw [(fit_in (n := (n : Int)) (by omega) (by omega)).1, (fit_in (n := (n : Int)) (by omega) (by omega)).2]
      go_enter Tryd.func54, Tryd.ntmps54
      go_wp2
      go_ret2
      exact ⟨rfl, rfl⟩
    · rw [(fit_out (n := (n : Int)) (by omega)).1, (fit_out (n := (n : Int)) (by omega)).2]
      go_enter Tryd.func54, Tryd.ntmps54
      go_wp2
      go_ret2
      exact ⟨rfl, rfl⟩
  · rw [show sgn true n = -(n : Int) from rfl]
    by_cases h : n ≤ 9223372036854775808
    · rw [(fit_in (n := -(n : Int)) (by omega) (by omega)).1, (fit_in (n := -(n : Int)) (by omega) (by omega)).2]
      have e : wrap64 (IntKind.u64.wrap (-(n : Int))) = -(n : Int) := by rw [u64w]; unfold wrap64; omega
      have E := Lib.hid e
      clear e
      go_enter Tryd.func54, Tryd.ntmps54
      go_wp2
      go_ret2
      exact ⟨ret2i E.out rfl, rfl⟩
    · rw [(fit_out (n := -(n : Int)) (by omega)).1, (fit_out (n := -(n : Int)) (by omega)).2]
      go_enter Tryd.func54, Tryd.ntmps54
      go_wp2
      go_ret2
      exact ⟨rfl, rfl⟩
theorem sgn_neg (a : Int) : sgn (decide (0 ≤ a)) a.natAbs = -a := by
  unfold sgn
  by_cases h : 0 ≤ a
  · rw [if_pos (by simpa using h)]; omega
  · rw [if_neg (by simpa using h)]; omega
theorem nabs_mul (a b : Int) : a.natAbs * b.natAbs = (a * b).natAbs := (Int.natAbs_mul a b).symm
theorem sgn_mul (a b : Int) : sgn (decide (a < 0) != decide (b < 0)) (a.natAbs * b.natAbs) = a * b := by
  have e : ((a.natAbs * b.natAbs : Nat) : Int) = (a.natAbs : Int) * (b.natAbs : Int) := Int.natCast_mul _ _
  unfold sgn
  rcases Int.lt_or_le a 0 with h | h <;> rcases Int.lt_or_le b 0 with g | g
  · have ea : (a.natAbs : Int) = -a := by omega
    have eb : (b.natAbs : Int) = -b := by omega
    rw [if_neg (by simp [h, g]), e, ea, eb, Int.neg_mul_neg]
  · have ea : (a.natAbs : Int) = -a := by omega
    have eb : (b.natAbs : Int) = b := by omega
    rw [if_pos (by simp [h]; omega), e, ea, eb, Int.neg_mul, Int.neg_neg]
  · have ea : (a.natAbs : Int) = a := by omega
    have eb : (b.natAbs : Int) = -b := by omega
    rw [if_pos (by simp [g]; omega), e, ea, eb, Int.mul_neg, Int.neg_neg]
  · have ea : (a.natAbs : Int) = a := by omega
    have eb : (b.natAbs : Int) = b := by omega
    have h' : ¬ a < 0 := by omega
    have g' : ¬ b < 0 := by omega
    rw [if_neg (by simp [h', g']), e, ea, eb]
theorem big_out (a b : Int) (h : 18446744073709551616 ≤ a.natAbs * b.natAbs) : a * b < -9223372036854775808 ∨ 9223372036854775807 < a * b := by
  rw [nabs_mul] at h; omega
end Go.Proofs.YtflpidnkppljlaaDoor
