/- ints.told: the size that digits tell, where 64 bits hold it. Condition: the bytes are digits. -/
import Derived.Test.YtdblkjcimegoeaaDoorRead
import Derived.Laws.Externs
namespace Go.Proofs.YtdblkjcimegoeaaDoor
open Go.RowKit
theorem add64_run (x y : Int) (hx : 0 ≤ x) (hy : 0 ≤ y) (w : World) :
    (callFunc 55 #[.int .u64 x, .int .u64 y, .int .u64 0]).run Tryd.prog w = .ok (.value (.tuple #[.int .u64 ((x + y) % 18446744073709551616), .int .u64 ((x + y) / 18446744073709551616)])) w := by
  rw [run_callFunc_extern Tryd.func55 (by kernel_rfl) (by kernel_rfl) (by kernel_rfl) (e := add64Entry) (by kernel_rfl), run_add64 x y 0 hx hy (by omega) (by omega)]
  simp only [Result.andThen, Int.add_zero]
def ToldTo (d : ByteArray) (k T : Nat) : Prop := toldN (d.data.toList.take k) = T
theorem told_next (d : ByteArray) (k T : Nat) (h : k < d.size) (ht : ToldTo d k T) : ToldTo d (k + 1) (T * 10 + (d[k].toNat - 48)) := by
  unfold ToldTo at *
  rw [take_snoc _ k (by simpa using h), toldN_snoc, ht]; rfl
theorem told_end (d : ByteArray) (k T : Nat) (h : d.size ≤ k) (ht : ToldTo d k T) : toldN d.data.toList = T := by
  unfold ToldTo at ht
  rwa [List.take_of_length_le h] at ht
theorem told_le (d : ByteArray) (k T : Nat) (ht : ToldTo d k T) : T ≤ toldN d.data.toList := by
  unfold ToldTo at ht
  rw [← ht]; exact toldN_take_le _ _
theorem dig_at (d : ByteArray) (k : Nat) (h : k < d.size) (ha : allDig d.data.toList = true) : 48 ≤ (d[k].toNat : Int) ∧ (d[k].toNat : Int) ≤ 57 := by
  unfold allDig at ha
  rw [List.all_eq_true] at ha
  have := ha _ (List.getElem_mem (l := d.data.toList) (n := k) (by simpa using h))
  have e : d[k] = d.data.toList[k]'(by simpa using h) := rfl
  rw [e]; simpa [isDig] using this
theorem ret_ub {k : IntKind} {a b : Int} {c d : Bool} (h : a = b) (g : c = d) : Ending.returned (.tuple #[.int k a, .bool c]) = .returned (.tuple #[.int k b, .bool d]) := by rw [h, g]
def toldV (n : Nat) : Nat := if n ≤ 18446744073709551615 then n else 0
def toldF (n : Nat) : Bool := decide (n ≤ 18446744073709551615)
theorem toldV_in {n : Nat} (h : n ≤ 18446744073709551615) : toldV n = n := if_pos h
theorem toldV_out {n : Nat} (h : 18446744073709551615 < n) : toldV n = 0 := if_neg (by omega)
theorem toldF_in {n : Nat} (h : n ≤ 18446744073709551615) : toldF n = true := decide_eq_true h
theorem toldF_out {n : Nat} (h : 18446744073709551615 < n) : toldF n = false := decide_eq_false (by omega)
set_option maxHeartbeats 800000 in
theorem told_c (d : ByteArray) (hd : d.size ≤ 9223372036854775807) (ha : Hid (allDig d.data.toList = true)) (w : World) :
    Calls Tryd.prog 47 #[.string d] w fun e w' => e = .returned (.tuple #[.int .u64 (toldV (toldN d.data.toList) : Int), .bool (toldF (toldN d.data.toList))]) ∧ w' = w := by
  go_enter Tryd.func47, Tryd.ntmps47
  go_wp2
  go_loop [4, 12] (fun t i => ∃ k T : Nat, k ≤ d.size ∧ i = .int .i64 k ∧ t = .int .u64 T ∧ T ≤ 18446744073709551615 ∧ ToldTo d k T) (fun _ i => d.size - (intOf i).toNat)
  case atStart => exact ⟨0, 0, Nat.zero_le _, rfl, rfl, by omega, rfl⟩
  case round =>
    obtain ⟨k, T, hk, rfl, rfl, hT, ht⟩ := hrel
    by_cases hlt : k < d.size
    · obtain ⟨g1, g2⟩ := dig_at d k hlt ha.out
      have N := told_next d k T hlt ht
      have hq1 : 0 ≤ (d[k].toNat : Int) - 48 := by omega
      by_cases hc : T * 10 + (d[k].toNat - 48) ≤ 18446744073709551615
      · have z1 : T * 10 / 18446744073709551616 = 0 := by omega
        have z2 : T * 10 % 18446744073709551616 = T * 10 := by omega
        have z3 : ((T : Int) * 10 + ((d[k].toNat : Int) - 48)) / 18446744073709551616 = 0 := by omega
        have z4 : ((T : Int) * 10 + ((d[k].toNat : Int) - 48)) % 18446744073709551616 = ((T * 10 + (d[k].toNat - 48) : Nat) : Int) := by omega
        have A := fun w => add64_run ((T : Int) * 10) ((d[k].toNat : Int) - 48) (by omega) hq1 w
        simp only [z3, z4] at A
        have ez : ((T * 10 : Nat) : Int) = (T : Int) * 10 := by omega
        have EZ := Lib.hid ez
        have Z1 := Lib.hid z1
        have Z2 := Lib.hid z2
        clear z1 z2 z3 z4 ez
        go_wp2_with fail
        refine (Tryd.bits_Mul64 T 10 (by omega) (by omega) _).mono ?_
        rintro e w' ⟨rfl, rfl⟩
        rw [Z1.out, Z2.out, EZ.out]
        go_wp2_with fail
        go_round
        case rel => exact ⟨k + 1, _, by omega, by go_num, rfl, hc, N⟩
        case measure => simp [intOf]; omega
      · have B := told_le d (k + 1) _ N
        have E := Lib.hid (toldV_out (n := toldN d.data.toList) (by omega))
        have F := Lib.hid (toldF_out (n := toldN d.data.toList) (by omega))
        clear B
        by_cases hz : T * 10 ≤ 18446744073709551615
        · have z1 : T * 10 / 18446744073709551616 = 0 := by omega
          have z2 : T * 10 % 18446744073709551616 = T * 10 := by omega
          have z3 : ((T : Int) * 10 + ((d[k].toNat : Int) - 48)) / 18446744073709551616 = 1 := by omega
          have A := fun w => add64_run ((T : Int) * 10) ((d[k].toNat : Int) - 48) (by omega) hq1 w
          simp only [z3] at A
          have ez : ((T * 10 : Nat) : Int) = (T : Int) * 10 := by omega
          have EZ := Lib.hid ez
          have Z1 := Lib.hid z1
          have Z2 := Lib.hid z2
          clear z1 z2 z3 ez
          go_wp2_with fail
          refine (Tryd.bits_Mul64 T 10 (by omega) (by omega) _).mono ?_
          rintro e w' ⟨rfl, rfl⟩
          rw [Z1.out, Z2.out, EZ.out]
          go_wp2_with fail
          go_ret2
          exact ⟨ret_ub (by rw [E.out]; rfl) F.out.symm, rfl⟩
        · have hq : (((T * 10 / 18446744073709551616 : Nat) : Int) == 0) = false := by rw [beq_eq_false_iff_ne]; omega
          obtain ⟨l, hl⟩ : ∃ l : Nat, T * 10 % 18446744073709551616 = l := ⟨_, rfl⟩
          have A := fun w => add64_run (l : Int) ((d[k].toNat : Int) - 48) (by omega) hq1 w
          have hl := Lib.hid hl
          go_wp2_with fail
          refine (Tryd.bits_Mul64 T 10 (by omega) (by omega) _).mono ?_
          rintro e w' ⟨rfl, rfl⟩
          rw [hl.out]
          go_wp2_with fail
          go_ret2
          exact ⟨ret_ub (by rw [E.out]; rfl) F.out.symm, rfl⟩
    · have E := Lib.hid (told_end d k T (by omega) ht)
      go_wp2
      go_ret2
      exact ⟨ret_ub (by rw [E.out, toldV_in hT]) (by rw [E.out, toldF_in hT]), rfl⟩
end Go.Proofs.YtdblkjcimegoeaaDoor
