/- ints.Read: the number of a text's digits, or 10, or 14. No condition but the length that any string has. -/
import Derived.Test.YtdblkjcimegoeaaDoorMulNeg
import Derived.WalkLawsBesides
import Derived.WalkSpells
namespace Go.Proofs.YtdblkjcimegoeaaDoor
open Go.RowKit
theorem retBi {a b : Bool} (h : a = b) : Ending.returned (.bool a) = .returned (.bool b) := by rw [h]
theorem ne_listi {d : ByteArray} (h : 0 < d.size) : d.toList.isEmpty = false ∧ ¬ d.toList = [] := by
  rw [ByteArray.toList_eq]
  have : d.data.toList ≠ [] := fun e => by
    have := congrArg List.length e
    simp at this
    rw [this] at h; exact absurd h (by decide)
  exact ⟨by simpa using this, this⟩
theorem list_cons {d : ByteArray} (h : 0 < d.size) : d.data.toList = d[0] :: d.data.toList.tail := by
  have : 0 < d.data.toList.length := h
  cases e : d.data.toList with
  | nil => rw [e] at this; exact absurd this (by decide)
  | cons c r =>
    have : d[0] = d.data.toList[0] := rfl
    rw [this]
    simp [e]
theorem headOk_eq (b : Bool) (d : ByteArray) (h : 0 < d.size) : headOk b d.data.toList = !(decide ((d[0].toNat : Int) = 48) && (b || decide (1 < d.size))) := by
  have hl : d.data.toList.tail.length = d.size - 1 := by simp
  rw [list_cons h]
  unfold headOk
  have e1 : (d[0] == 48) = decide ((d[0].toNat : Int) = 48) := by
    rw [Bool.eq_iff_iff]; simp [← UInt8.toNat_inj]; omega
  have e2 : (!d.data.toList.tail.isEmpty) = decide (1 < d.size) := by
    rw [Bool.eq_iff_iff]; simp only [Bool.not_eq_true', decide_eq_true_eq]
    cases ht : d.data.toList.tail with
    | nil => rw [ht] at hl; simp at hl; simp; omega
    | cons c r => rw [ht] at hl; simp at hl; simp; omega
  simp only [e1, e2]
set_option maxHeartbeats 400000 in
theorem shown_none (b : Bool) (d : ByteArray) (hd : d.size = 0) (w : World) :
    Calls Tryd.prog 46 #[.bool b, .string d] w fun e w' => e = .returned (.bool false) ∧ w' = w := by
  have h1 : d.toList = [] := by rw [ByteArray.toList_eq]; exact List.eq_nil_of_length_eq_zero hd
  have h2 : d.toList.isEmpty = true := by rw [h1]; rfl
  clear h1
  go_enter Tryd.func46, Tryd.ntmps46
  go_wp2
  go_ret
  exact ⟨rfl, rfl⟩
set_option maxHeartbeats 400000 in
theorem shown_bad (b : Bool) (d : ByteArray) (h0 : 0 < d.size) (hc : ((d[0].toNat : Int) == 48) = true) (hb : b = true ∨ 1 < d.size) (w : World) :
    Calls Tryd.prog 46 #[.bool b, .string d] w fun e w' => e = .returned (.bool false) ∧ w' = w := by
  obtain ⟨h1, h2⟩ := ne_listi h0
  rcases hb with rfl | hb
  · go_enter Tryd.func46, Tryd.ntmps46
    go_wp2
    go_ret
    exact ⟨rfl, rfl⟩
  · cases b
    all_goals
      go_enter Tryd.func46, Tryd.ntmps46
      go_wp2
      go_ret
      exact ⟨rfl, rfl⟩
def DigTo (d : ByteArray) (k : Nat) : Prop := allDig (d.data.toList.take k) = true
theorem dig_next (d : ByteArray) (k : Nat) (h : k < d.size) (hk : DigTo d k) (h1 : 48 ≤ (d[k].toNat : Int)) (h2 : (d[k].toNat : Int) ≤ 57) : DigTo d (k + 1) := by
  unfold DigTo at *
  rw [take_snoc _ k (by simpa using h), allDig_snoc, hk]
  show isDig d[k] = true
  unfold isDig; simp; omega
theorem dig_stop (d : ByteArray) (k : Nat) (h : k < d.size) (h1 : (d[k].toNat : Int) < 48 ∨ 57 < (d[k].toNat : Int)) : allDig d.data.toList = false := by
  apply allDig_take _ (k + 1)
  rw [take_snoc _ k (by simpa using h), allDig_snoc]
  have : isDig (d.data.toList[k]'(by simpa using h)) = false := by
    show isDig d[k] = false
    unfold isDig; simp; omega
  rw [this, Bool.and_false]
set_option maxHeartbeats 800000 in
theorem shown_go (b : Bool) (d : ByteArray) (hd : d.size ≤ 9223372036854775807) (h0 : 0 < d.size) (hc : ((d[0].toNat : Int) == 48) = false ∨ (((d[0].toNat : Int) == 48) = true ∧ b = false ∧ d.size ≤ 1)) (w : World) :
    Calls Tryd.prog 46 #[.bool b, .string d] w fun e w' => e = .returned (.bool (allDig d.data.toList)) ∧ w' = w := by
  obtain ⟨h1, h2⟩ := ne_listi h0
  have hl : d.data.toList.length ≤ d.size := Nat.le_refl _
  rcases hc with hc | ⟨hc, rfl, hs⟩
  all_goals
    go_enter Tryd.func46, Tryd.ntmps46
    go_wp2
    go_loop [23] (fun i => ∃ k : Nat, k ≤ d.size ∧ i = .int .i64 k ∧ DigTo d k) (fun i => d.size - (intOf i).toNat)
    case atStart => exact ⟨0, Nat.zero_le _, rfl, rfl⟩
    case round =>
      obtain ⟨k, hk, rfl, hdg⟩ := hrel
      by_cases hlt : k < d.size
      · by_cases g1 : (d[k].toNat : Int) < 48
        · have E := Lib.hid (dig_stop d k hlt (.inl g1))
          go_wp2
          go_ret
          exact ⟨retBi E.out.symm, rfl⟩
        · by_cases g2 : 57 < (d[k].toNat : Int)
          · have E := Lib.hid (dig_stop d k hlt (.inr g2))
            go_wp2
            go_ret
            exact ⟨retBi E.out.symm, rfl⟩
          · have E := dig_next d k hlt hdg (by omega) (by omega)
            go_wp2
            go_round
            case rel => exact ⟨k + 1, by omega, by go_num, E⟩
            case measure => simp [intOf]; omega
      · have E : Hid (allDig d.data.toList = true) := by
          have hk' : k = d.size := by omega
          have := hdg
          unfold DigTo at this
          rw [List.take_of_length_le (by omega)] at this
          exact this
        go_wp2
        go_ret
        exact ⟨retBi E.out.symm, rfl⟩
theorem shown_c (b : Bool) (d : ByteArray) (hd : d.size ≤ 9223372036854775807) (w : World) :
    Calls Tryd.prog 46 #[.bool b, .string d] w fun e w' => e = .returned (.bool (shownB b d.data.toList)) ∧ w' = w := by
  by_cases h0 : 0 < d.size
  · unfold shownB
    rw [headOk_eq b d h0]
    by_cases hc : (d[0].toNat : Int) = 48
    · by_cases hb : b = true ∨ 1 < d.size
      · have e : (!(decide ((d[0].toNat : Int) = 48) && (b || decide (1 < d.size)))) = false := by
          rcases hb with rfl | hb <;> simp [*]
        rw [e, Bool.false_and]
        exact shown_bad b d h0 (by simpa using hc) hb w
      · have hb' : b = false ∧ d.size ≤ 1 := ⟨by cases b <;> simp at hb ⊢, by omega⟩
        have e : (!(decide ((d[0].toNat : Int) = 48) && (b || decide (1 < d.size)))) = true := by
          rw [hb'.1]; simp; omega
        rw [e, Bool.true_and]
        exact shown_go b d hd h0 (.inr ⟨by simpa using hc, hb'⟩) w
    · have e : (!(decide ((d[0].toNat : Int) = 48) && (b || decide (1 < d.size)))) = true := by simp [hc]
      rw [e, Bool.true_and]
      exact shown_go b d hd h0 (.inl (by simpa using hc)) w
  · have hs : d.size = 0 := by omega
    have e : d.data.toList = [] := List.eq_nil_of_length_eq_zero hs
    rw [e]
    exact shown_none b d hs w
end Go.Proofs.YtdblkjcimegoeaaDoor
