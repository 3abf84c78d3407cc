/- The document's shift by digits: a size of two digits, none, one or two digits up. Condition: a size below 2^64. -/
import Derived.Test.YtkppjchapiidpaaNum
namespace Go.Proofs.Ytkppjchapiidpaa
open Go.RowKit
attribute [local go_sem] alloc_drewN setCell_drewN
theorem agg4_eq {a b c d : Int} {a' b' c' d' : Nat} (h1 : a = (a' : Int)) (h2 : b = (b' : Int)) (h3 : c = (c' : Int)) (h4 : d = (d' : Int)) :
    Ending.returned (.agg #[.int .u64 a, .int .u64 b, .int .u64 c, .int .u64 d]) = .returned (.agg #[.int .u64 (a' : Int), .int .u64 (b' : Int), .int .u64 (c' : Int), .int .u64 (d' : Int)]) := by rw [h1, h2, h3, h4]
set_option maxHeartbeats 1000000 in
theorem shift0 (x : Nat) (hx : x ≤ 18446744073709551615) (w : World) :
    Calls Try.prog 36 #[.int .u64 (x : Int), .int .i64 0] w fun e w' => e = .returned (.agg #[.int .u64 (d3 x : Int), .int .u64 (d2 x : Int), .int .u64 (d1 x : Int), .int .u64 (d0 x : Int)]) ∧ Grown w w' := by
  have m0 := mask32 x (by omega)
  have Z3 : Hid (0 = ((d3 x : Nat) : Int)) := Lib.hid (by unfold d3; omega)
  have Z2 : Hid (0 = ((d2 x : Nat) : Int)) := Lib.hid (by unfold d2; omega)
  have Z1 : Hid ((x : Int) / 4294967296 = ((d1 x : Nat) : Int)) := Lib.hid (by unfold d1; omega)
  have Z0 : Hid ((x : Int) % 4294967296 = ((d0 x : Nat) : Int)) := Lib.hid (by unfold d0; omega)
  go_enter Try.func36, Try.ntmps36
  go_wp2
  go_returns
  exact ⟨agg4_eq Z3.out Z2.out Z1.out Z0.out, by go_grown⟩
set_option maxHeartbeats 1000000 in
theorem shift1 (x y : Nat) (hx : x ≤ 18446744073709551615) (hy : y = x * 4294967296) (w : World) :
    Calls Try.prog 36 #[.int .u64 (x : Int), .int .i64 1] w fun e w' => e = .returned (.agg #[.int .u64 (d3 y : Int), .int .u64 (d2 y : Int), .int .u64 (d1 y : Int), .int .u64 (d0 y : Int)]) ∧ Grown w w' := by
  have m0 := mask32 x (by omega)
  have Z3 : Hid (0 = ((d3 y : Nat) : Int)) := Lib.hid (by unfold d3; omega)
  have Z2 : Hid ((x : Int) / 4294967296 = ((d2 y : Nat) : Int)) := Lib.hid (by unfold d2; omega)
  have Z1 : Hid ((x : Int) % 4294967296 = ((d1 y : Nat) : Int)) := Lib.hid (by unfold d1; omega)
  have Z0 : Hid (0 = ((d0 y : Nat) : Int)) := Lib.hid (by unfold d0; omega)
  clear hy
  go_enter Try.func36, Try.ntmps36
  go_wp2
  go_returns
  exact ⟨agg4_eq Z3.out Z2.out Z1.out Z0.out, by go_grown⟩
set_option maxHeartbeats 1000000 in
theorem shift2 (x y : Nat) (hx : x ≤ 18446744073709551615) (hy : y = x * 18446744073709551616) (w : World) :
    Calls Try.prog 36 #[.int .u64 (x : Int), .int .i64 2] w fun e w' => e = .returned (.agg #[.int .u64 (d3 y : Int), .int .u64 (d2 y : Int), .int .u64 (d1 y : Int), .int .u64 (d0 y : Int)]) ∧ Grown w w' := by
  have m0 := mask32 x (by omega)
  have Z3 : Hid ((x : Int) / 4294967296 = ((d3 y : Nat) : Int)) := Lib.hid (by unfold d3; omega)
  have Z2 : Hid ((x : Int) % 4294967296 = ((d2 y : Nat) : Int)) := Lib.hid (by unfold d2; omega)
  have Z1 : Hid (0 = ((d1 y : Nat) : Int)) := Lib.hid (by unfold d1; omega)
  have Z0 : Hid (0 = ((d0 y : Nat) : Int)) := Lib.hid (by unfold d0; omega)
  clear hy
  go_enter Try.func36, Try.ntmps36
  go_wp2
  go_returns
  exact ⟨agg4_eq Z3.out Z2.out Z1.out Z0.out, by go_grown⟩
end Go.Proofs.Ytkppjchapiidpaa
