/- ints.Read: the number of a text's digits, or 10, or 14. No condition but the length that any string has. ints.told: the size that digits tell, where 64 bits hold it. Condition: the bytes are digits. ints.Read: the number of a text's digits, or 10, or 14. No condition but the length that any string has. -/
import Derived.Test.YtflpidnkppljlaaDoorPln
import Derived.WalkLawsBesides
import Derived.WalkSpells
import Derived.Laws.Externs
set_option linter.unusedVariables false
set_option linter.unnecessarySimpa false
set_option linter.unusedSimpArgs false
namespace Go.Proofs.YtflpidnkppljlaaDoor
open Go.RowKit
theorem retBi {a b : Bool} (h : a = b) : Ending.returned (.bool a) = .returned (.bool b) := by rw [h]
theorem ne_listi {d : ByteArray} (h : 0 < d.size) : d.toList.isEmpty = false ∧ ¬ d.toList = [] := by
  rw [ByteArray.toList_eq]
  have : d.data.toList ≠ [] := fun e => by
    have := congrArg List.length e
    simp at this
    rw [this] at h; exact absurd h (by decide)
  exact ⟨by simpa using this, this⟩
theorem list_cons {d : ByteArray} (h : 0 < d.size) : d.data.toList = d[0] :: d.data.toList.tail := by
  have : 0 < d.data.toList.length := h
  cases e : d.data.toList with
  | nil => rw [e] at this; exact absurd this (by decide)
  | cons c r =>
    have : d[0] = d.data.toList[0] := rfl
    rw [this]
    simp [e]
theorem headOk_eq (b : Bool) (d : ByteArray) (h : 0 < d.size) : headOk b d.data.toList = !(decide ((d[0].toNat : Int) = 48) && (b || decide (1 < d.size))) := by
  have hl : d.data.toList.tail.length = d.size - 1 := by simp
  rw [list_cons h]
  unfold headOk
  have e1 : (d[0] == 48) = decide ((d[0].toNat : Int) = 48) := by
    rw [Bool.eq_iff_iff]; simp [← UInt8.toNat_inj]; omega
  have e2 : (!d.data.toList.tail.isEmpty) = decide (1 < d.size) := by
    rw [Bool.eq_iff_iff]; simp only [Bool.not_eq_true', decide_eq_true_eq]
    cases ht : d.data.toList.tail with
    | nil => rw [ht] at hl; simp at hl; simp; omega
    | cons c r => rw [ht] at hl; simp at hl; simp; omega
  simp only [e1, e2]
set_option maxHeartbeats 400000 in
theorem shown_none (b : Bool) (d : ByteArray) (hd : d.size = 0) (w : World) :
    Calls Tryd.prog 52 #[.bool b, .string d] w fun e w' => e = .returned (.bool false) ∧ w' = w := by
  have h1 : d.toList = [] := by rw [ByteArray.toList_eq]; exact List.eq_nil_of_length_eq_zero hd
  have h2 : d.toList.isEmpty = true := by rw [h1]; rfl
  clear h1
  go_enter Tryd.func52, Tryd.ntmps52
  go_wp2
  go_ret
  exact ⟨rfl, rfl⟩
set_option maxHeartbeats 400000 in
theorem shown_bad (b : Bool) (d : ByteArray) (h0 : 0 < d.size) (hc : ((d[0].toNat : Int) == 48) = true) (hb : b = true ∨ 1 < d.size) (w : World) :
    Calls Tryd.prog 52 #[.bool b, .string d] w fun e w' => e = .returned (.bool false) ∧ w' = w := by
  obtain ⟨h1, h2⟩ := ne_listi h0
  rcases hb with rfl | hb
  · go_enter Tryd.func52, Tryd.ntmps52
    go_wp2
    go_ret
    exact ⟨rfl, rfl⟩
  · cases b
    all_goals
      go_enter Tryd.func52, Tryd.ntmps52
      go_wp2
      go_ret
      exact ⟨rfl, rfl⟩
def DigTo (d : ByteArray) (k : Nat) : Prop := allDig (d.data.toList.take k) = true
theorem dig_next (d : ByteArray) (k : Nat) (h : k < d.size) (hk : DigTo d k) (h1 : 48 ≤ (d[k].toNat : Int)) (h2 : (d[k].toNat : Int) ≤ 57) : DigTo d (k + 1) := by
  unfold DigTo at *
  rw [take_snoc _ k (by simpa using h), allDig_snoc, hk]
  show isDig d[k] = true
  unfold isDig; simp; omega
theorem dig_stop (d : ByteArray) (k : Nat) (h : k < d.size) (h1 : (d[k].toNat : Int) < 48 ∨ 57 < (d[k].toNat : Int)) : allDig d.data.toList = false := by
  apply allDig_take _ (k + 1)
  rw [take_snoc _ k (by simpa using h), allDig_snoc]
  have : isDig (d.data.toList[k]'(by simpa using h)) = false := by
    show isDig d[k] = false
    unfold isDig; simp; omega
  rw [this, Bool.and_false]
set_option maxHeartbeats 800000 in
theorem shown_go (b : Bool) (d : ByteArray) (hd : d.size ≤ 9223372036854775807) (h0 : 0 < d.size) (hc : ((d[0].toNat : Int) == 48) = false ∨ (((d[0].toNat : Int) == 48) = true ∧ b = false ∧ d.size ≤ 1)) (w : World) :
    Calls Tryd.prog 52 #[.bool b, .string d] w fun e w' => e = .returned (.bool (allDig d.data.toList)) ∧ w' = w := by
  obtain ⟨h1, h2⟩ := ne_listi h0
  have hl : d.data.toList.length ≤ d.size := Nat.le_refl _
  rcases hc with hc | ⟨hc, rfl, hs⟩
  all_goals
    go_enter Tryd.func52, Tryd.ntmps52
    go_wp2
    go_loop [23] (fun i => ∃ k : Nat, k ≤ d.size ∧ i = .int .i64 k ∧ DigTo d k) (fun i => d.size - (intOf i).toNat)
    case atStart => exact ⟨0, Nat.zero_le _, rfl, rfl⟩
    case round =>
      obtain ⟨k, hk, rfl, hdg⟩ := hrel
      by_cases hlt : k < d.size
      · by_cases g1 : (d[k].toNat : Int) < 48
        · have E := Lib.hid (dig_stop d k hlt (.inl g1))
          go_wp2
          go_ret
          exact ⟨retBi E.out.symm, rfl⟩
        · by_cases g2 : 57 < (d[k].toNat : Int)
          · have E := Lib.hid (dig_stop d k hlt (.inr g2))
            go_wp2
            go_ret
            exact ⟨retBi E.out.symm, rfl⟩
          · have E := dig_next d k hlt hdg (by omega) (by omega)
            go_wp2
            go_round
            case rel => exact ⟨k + 1, by omega, by go_num, E⟩
            case measure => simp [intOf]; omega
      · have E : Hid (allDig d.data.toList = true) := by
          have hk' : k = d.size := by omega
          have := hdg
          unfold DigTo at this
          rw [List.take_of_length_le (by omega)] at this
          exact this
        go_wp2
        go_ret
        exact ⟨retBi E.out.symm, rfl⟩
theorem shown_c (b : Bool) (d : ByteArray) (hd : d.size ≤ 9223372036854775807) (w : World) :
    Calls Tryd.prog 52 #[.bool b, .string d] w fun e w' => e = .returned (.bool (shownB b d.data.toList)) ∧ w' = w := by
  by_cases h0 : 0 < d.size
  · unfold shownB
    rw [headOk_eq b d h0]
    by_cases hc : (d[0].toNat : Int) = 48
    · by_cases hb : b = true ∨ 1 < d.size
      · have e : (!(decide ((d[0].toNat : Int) = 48) && (b || decide (1 < d.size)))) = false := by
          rcases hb with rfl | hb <;> simp [*]
        rw [e, Bool.false_and]
        exact shown_bad b d h0 (by simpa using hc) hb w
      · have hb' : b = false ∧ d.size ≤ 1 := ⟨by cases b <;> simp at hb ⊢, by omega⟩
        have e : (!(decide ((d[0].toNat : Int) = 48) && (b || decide (1 < d.size)))) = true := by
          rw [hb'.1]; simp; omega
        rw [e, Bool.true_and]
        exact shown_go b d hd h0 (.inr ⟨by simpa using hc, hb'⟩) w
    · have e : (!(decide ((d[0].toNat : Int) = 48) && (b || decide (1 < d.size)))) = true := by simp [hc]
      rw [e, Bool.true_and]
      exact shown_go b d hd h0 (.inl (by simpa using hc)) w
  · have hs : d.size = 0 := by omega
    have e : d.data.toList = [] := List.eq_nil_of_length_eq_zero hs
    rw [e]
    exact shown_none b d hs w
end Go.Proofs.YtflpidnkppljlaaDoor
namespace Go.Proofs.YtflpidnkppljlaaDoor
open Go.RowKit
theorem add64_run (x y : Int) (hx : 0 ≤ x) (hy : 0 ≤ y) (w : World) :
    (callFunc 66 #[.int .u64 x, .int .u64 y, .int .u64 0]).run Tryd.prog w = .ok (.value (.tuple #[.int .u64 ((x + y) % 18446744073709551616), .int .u64 ((x + y) / 18446744073709551616)])) w := by
  rw [run_callFunc_extern Tryd.func66 (by kernel_rfl) (by kernel_rfl) (by kernel_rfl) (e := add64Entry) (by kernel_rfl), run_add64 x y 0 hx hy (by omega) (by omega)]
  simp only [Result.andThen, Int.add_zero]
def ToldTo (d : ByteArray) (k T : Nat) : Prop := toldN (d.data.toList.take k) = T
theorem told_next (d : ByteArray) (k T : Nat) (h : k < d.size) (ht : ToldTo d k T) : ToldTo d (k + 1) (T * 10 + (d[k].toNat - 48)) := by
  unfold ToldTo at *
  rw [take_snoc _ k (by simpa using h), toldN_snoc, ht]; rfl
theorem told_end (d : ByteArray) (k T : Nat) (h : d.size ≤ k) (ht : ToldTo d k T) : toldN d.data.toList = T := by
  unfold ToldTo at ht
  rwa [List.take_of_length_le h] at ht
theorem told_le (d : ByteArray) (k T : Nat) (ht : ToldTo d k T) : T ≤ toldN d.data.toList := by
  unfold ToldTo at ht
  rw [← ht]; exact toldN_take_le _ _
theorem dig_at (d : ByteArray) (k : Nat) (h : k < d.size) (ha : allDig d.data.toList = true) : 48 ≤ (d[k].toNat : Int) ∧ (d[k].toNat : Int) ≤ 57 := by
  unfold allDig at ha
  rw [List.all_eq_true] at ha
  have := ha _ (List.getElem_mem (l := d.data.toList) (n := k) (by simpa using h))
  have e : d[k] = d.data.toList[k]'(by simpa using h) := rfl
  rw [e]; simpa [isDig] using this
theorem ret_ub {k : IntKind} {a b : Int} {c d : Bool} (h : a = b) (g : c = d) : Ending.returned (.tuple #[.int k a, .bool c]) = .returned (.tuple #[.int k b, .bool d]) := by rw [h, g]
def toldV (n : Nat) : Nat := if n ≤ 18446744073709551615 then n else 0
def toldF (n : Nat) : Bool := decide (n ≤ 18446744073709551615)
theorem toldV_in {n : Nat} (h : n ≤ 18446744073709551615) : toldV n = n := if_pos h
theorem toldV_out {n : Nat} (h : 18446744073709551615 < n) : toldV n = 0 := if_neg (by omega)
theorem toldF_in {n : Nat} (h : n ≤ 18446744073709551615) : toldF n = true := decide_eq_true h
theorem toldF_out {n : Nat} (h : 18446744073709551615 < n) : toldF n = false := decide_eq_false (by omega)
set_option maxHeartbeats 800000 in
theorem told_c (d : ByteArray) (hd : d.size ≤ 9223372036854775807) (ha : Hid (allDig d.data.toList = true)) (w : World) :
    Calls Tryd.prog 53 #[.string d] w fun e w' => e = .returned (.tuple #[.int .u64 (toldV (toldN d.data.toList) : Int), .bool (toldF (toldN d.data.toList))]) ∧ w' = w := by
  go_enter Tryd.func53, Tryd.ntmps53
  go_wp2
  go_loop [4, 12] (fun t i => ∃ k T : Nat, k ≤ d.size ∧ i = .int .i64 k ∧ t = .int .u64 T ∧ T ≤ 18446744073709551615 ∧ ToldTo d k T) (fun _ i => d.size - (intOf i).toNat)
  case atStart => exact ⟨0, 0, Nat.zero_le _, rfl, rfl, by omega, rfl⟩
  case round =>
    obtain ⟨k, T, hk, rfl, rfl, hT, ht⟩ := hrel
    by_cases hlt : k < d.size
    · obtain ⟨g1, g2⟩ := dig_at d k hlt ha.out
      have N := told_next d k T hlt ht
      have hq1 : 0 ≤ (d[k].toNat : Int) - 48 := by omega
      by_cases hc : T * 10 + (d[k].toNat - 48) ≤ 18446744073709551615
      · have z1 : T * 10 / 18446744073709551616 = 0 := by omega
        have z2 : T * 10 % 18446744073709551616 = T * 10 := by omega
        have z3 : ((T : Int) * 10 + ((d[k].toNat : Int) - 48)) / 18446744073709551616 = 0 := by omega
        have z4 : ((T : Int) * 10 + ((d[k].toNat : Int) - 48)) % 18446744073709551616 = ((T * 10 + (d[k].toNat - 48) : Nat) : Int) := by omega
        have A := fun w => add64_run ((T : Int) * 10) ((d[k].toNat : Int) - 48) (by omega) hq1 w
        simp only [z3, z4] at A
        have ez : ((T * 10 : Nat) : Int) = (T : Int) * 10 := by omega
        have EZ := Lib.hid ez
        have Z1 := Lib.hid z1
        have Z2 := Lib.hid z2
        clear z1 z2 z3 z4 ez
        go_wp2_with fail
        refine (Tryd.bits_Mul64 T 10 (by omega) (by omega) _).mono ?_
        rintro e w' ⟨rfl, rfl⟩
        rw [Z1.out, Z2.out, EZ.out]
        go_wp2_with fail
        go_round
        case rel => exact ⟨k + 1, _, by omega, by go_num, rfl, hc, N⟩
        case measure => simp [intOf]; omega
      · have B := told_le d (k + 1) _ N
        have E := Lib.hid (toldV_out (n := toldN d.data.toList) (by omega))
        have F := Lib.hid (toldF_out (n := toldN d.data.toList) (by omega))
        clear B
        by_cases hz : T * 10 ≤ 18446744073709551615
        · have z1 : T * 10 / 18446744073709551616 = 0 := by omega
          have z2 : T * 10 % 18446744073709551616 = T * 10 := by omega
          have z3 : ((T : Int) * 10 + ((d[k].toNat : Int) - 48)) / 18446744073709551616 = 1 := by omega
          have A := fun w => add64_run ((T : Int) * 10) ((d[k].toNat : Int) - 48) (by omega) hq1 w
          simp only [z3] at A
          have ez : ((T * 10 : Nat) : Int) = (T : Int) * 10 := by omega
          have EZ := Lib.hid ez
          have Z1 := Lib.hid z1
          have Z2 := Lib.hid z2
          clear z1 z2 z3 ez
          go_wp2_with fail
          refine (Tryd.bits_Mul64 T 10 (by omega) (by omega) _).mono ?_
          rintro e w' ⟨rfl, rfl⟩
          rw [Z1.out, Z2.out, EZ.out]
          go_wp2_with fail
          go_ret2
          exact ⟨ret_ub (by rw [E.out]; rfl) F.out.symm, rfl⟩
        · have hq : (((T * 10 / 18446744073709551616 : Nat) : Int) == 0) = false := by rw [beq_eq_false_iff_ne]; omega
          obtain ⟨l, hl⟩ : ∃ l : Nat, T * 10 % 18446744073709551616 = l := ⟨_, rfl⟩
          have A := fun w => add64_run (l : Int) ((d[k].toNat : Int) - 48) (by omega) hq1 w
          have hl := Lib.hid hl
          go_wp2_with fail
          refine (Tryd.bits_Mul64 T 10 (by omega) (by omega) _).mono ?_
          rintro e w' ⟨rfl, rfl⟩
          rw [hl.out]
          go_wp2_with fail
          go_ret2
          exact ⟨ret_ub (by rw [E.out]; rfl) F.out.symm, rfl⟩
    · have E := Lib.hid (told_end d k T (by omega) ht)
      go_wp2
      go_ret2
      exact ⟨ret_ub (by rw [E.out, toldV_in hT]) (by rw [E.out, toldF_in hT]), rfl⟩
end Go.Proofs.YtflpidnkppljlaaDoor
namespace Go.Proofs.YtflpidnkppljlaaDoor
open Go.RowKit
theorem ext_datai (s : ByteArray) : (s.extract 1 s.size).data.toList = s.data.toList.tail := by
  rw [ByteArray.data_extract]; simp; rw [List.take_of_length_le (by simp)]
theorem ext_size (s : ByteArray) : (s.extract 1 s.size).size ≤ s.size := by
  rw [ByteArray.size_extract]; omega
theorem minus_yes {s : ByteArray} (h0 : 0 < s.size) (h : ((s[0].toNat : Int) == 45) = true) : isMinus s.data.toList = true ∧ afterSign s.data.toList = s.data.toList.tail := by
  have e : isMinus s.data.toList = true := by
    unfold isMinus
    rw [list_cons h0]
    simp at h
    simp [← UInt8.toNat_inj]; omega
  exact ⟨e, by unfold afterSign; rw [if_pos e]⟩
theorem minus_no {s : ByteArray} (h0 : 0 < s.size) (h : ((s[0].toNat : Int) == 45) = false) : isMinus s.data.toList = false ∧ afterSign s.data.toList = s.data.toList := by
  have e : isMinus s.data.toList = false := by
    unfold isMinus
    rw [list_cons h0]
    simp at h
    simp [← UInt8.toNat_inj]; omega
  exact ⟨e, by unfold afterSign; rw [if_neg (by simp [e])]⟩
theorem minus_nil {s : ByteArray} (h0 : s.size = 0) : isMinus s.data.toList = false ∧ afterSign s.data.toList = s.data.toList ∧ shownB false s.data.toList = false := by
  have e : s.data.toList = [] := List.eq_nil_of_length_eq_zero h0
  rw [e]; exact ⟨rfl, rfl, rfl⟩
theorem read_form {l : List UInt8} (h : shownB (isMinus l) (afterSign l) = false) : readV l = 0 ∧ readE l = 10 := by
  unfold readV readE; rw [if_neg (by simp [h]), if_neg (by simp [h])]; exact ⟨rfl, rfl⟩
theorem read_num {l : List UInt8} (h : shownB (isMinus l) (afterSign l) = true) : readV l = fitV (numOf l) ∧ readE l = fitE (numOf l) := by
  unfold readV readE; rw [if_pos h, if_pos h]; exact ⟨rfl, rfl⟩
theorem num_far {b : Bool} {n : Nat} (h : 18446744073709551615 < n) : fitV (sgn b n) = 0 ∧ fitE (sgn b n) = 14 := by
  apply fit_out
  unfold sgn
  split <;> omega
theorem shown_dig {b : Bool} {l : List UInt8} (h : shownB b l = true) : allDig l = true := by
  unfold shownB at h; simp at h; exact h.2
set_option maxHeartbeats 800000 in
theorem read_c (s : ByteArray) (hs : s.size ≤ 9223372036854775807) (w : World) :
    Calls Tryd.prog 39 #[.string s] w fun e w' => e = .returned (.tuple #[.int .i64 (readV s.data.toList), .int .i64 (readE s.data.toList)]) ∧ w' = w := by
  by_cases h0 : 0 < s.size
  · by_cases hm : ((s[0].toNat : Int) == 45) = true
    · obtain ⟨m1, m2⟩ := minus_yes h0 hm
      have he := ext_datai s
      have hz := ext_size s
      by_cases hsh : shownB true (s.extract 1 s.size).data.toList = true
      · obtain ⟨r1, r2⟩ := read_num (l := s.data.toList) (by rw [m1, m2, ← he]; exact hsh)
        rw [r1, r2]
        have hnum : numOf s.data.toList = sgn true (toldN (s.extract 1 s.size).data.toList) := by unfold numOf; rw [m1, m2, he]
        rw [hnum]
        have AD := Lib.hid (shown_dig hsh)
        have SH := Lib.hid hsh
        clear r1 r2 hnum m1 m2 he hsh
        obtain ⟨T, hT⟩ : ∃ T : Nat, toldN (s.extract 1 s.size).data.toList = T := ⟨_, rfl⟩
        rw [hT]
        by_cases ht : T ≤ 18446744073709551615
        · have T1 : Hid (toldV (toldN (s.extract 1 s.size).data.toList) = T) := Lib.hid (by rw [hT]; exact toldV_in ht)
          have T2 : Hid (toldF (toldN (s.extract 1 s.size).data.toList) = true) := Lib.hid (by rw [hT]; exact toldF_in ht)
          clear hT
          go_enter Tryd.func39, Tryd.ntmps39
          go_wp2_with fail
          refine (shown_c _ _ (by omega) _).mono ?_
          rintro e w' ⟨rfl, rfl⟩
          rw [SH.out]
          go_wp2_with fail
          refine (told_c _ (by omega) AD _).mono ?_
          rintro e w' ⟨rfl, rfl⟩
          rw [T1.out, T2.out]
          go_wp2_with fail
          refine (signed_c _ _ ht _).mono ?_
          rintro e w' ⟨rfl, rfl⟩
          go_wp2_with fail
          go_ret2
          exact ⟨rfl, rfl⟩
        · rw [(num_far (b := true) (by omega)).1, (num_far (b := true) (by omega)).2]
          have T2 : Hid (toldF (toldN (s.extract 1 s.size).data.toList) = false) := Lib.hid (by rw [hT]; exact toldF_out (by omega))
          clear hT
          go_enter Tryd.func39, Tryd.ntmps39
          go_wp2_with fail
          refine (shown_c _ _ (by omega) _).mono ?_
          rintro e w' ⟨rfl, rfl⟩
          rw [SH.out]
          go_wp2_with fail
          refine (told_c _ (by omega) AD _).mono ?_
          rintro e w' ⟨rfl, rfl⟩
          rw [T2.out]
          go_wp2_with fail
          go_ret2
          exact ⟨rfl, rfl⟩
      · have hsh' : shownB true (s.extract 1 s.size).data.toList = false := by simpa using hsh
        obtain ⟨r1, r2⟩ := read_form (l := s.data.toList) (by rw [m1, m2, ← he]; exact hsh')
        rw [r1, r2]
        have SH := Lib.hid hsh'
        clear r1 r2 m1 m2 he hsh hsh'
        go_enter Tryd.func39, Tryd.ntmps39
        go_wp2_with fail
        refine (shown_c _ _ (by omega) _).mono ?_
        rintro e w' ⟨rfl, rfl⟩
        rw [SH.out]
        go_wp2_with fail
        go_ret2
        exact ⟨rfl, rfl⟩
    · have hm : ((s[0].toNat : Int) == 45) = false := by simpa using hm
      obtain ⟨m1, m2⟩ := minus_no h0 hm
      by_cases hsh : shownB false s.data.toList = true
      · obtain ⟨r1, r2⟩ := read_num (l := s.data.toList) (by rw [m1, m2]; exact hsh)
        rw [r1, r2]
        have hnum : numOf s.data.toList = sgn false (toldN s.data.toList) := by unfold numOf; rw [m1, m2]
        rw [hnum]
        have AD := Lib.hid (shown_dig hsh)
        have SH := Lib.hid hsh
        clear r1 r2 hnum m1 m2 hsh
        obtain ⟨T, hT⟩ : ∃ T : Nat, toldN s.data.toList = T := ⟨_, rfl⟩
        rw [hT]
        by_cases ht : T ≤ 18446744073709551615
        · have T1 : Hid (toldV (toldN s.data.toList) = T) := Lib.hid (by rw [hT]; exact toldV_in ht)
          have T2 : Hid (toldF (toldN s.data.toList) = true) := Lib.hid (by rw [hT]; exact toldF_in ht)
          clear hT
          go_enter Tryd.func39, Tryd.ntmps39
          go_wp2_with fail
          refine (shown_c _ _ (by omega) _).mono ?_
          rintro e w' ⟨rfl, rfl⟩
          rw [SH.out]
          go_wp2_with fail
          refine (told_c _ (by omega) AD _).mono ?_
          rintro e w' ⟨rfl, rfl⟩
          rw [T1.out, T2.out]
          go_wp2_with fail
          refine (signed_c _ _ ht _).mono ?_
          rintro e w' ⟨rfl, rfl⟩
          go_wp2_with fail
          go_ret2
          exact ⟨rfl, rfl⟩
        · rw [(num_far (b := false) (by omega)).1, (num_far (b := false) (by omega)).2]
          have T2 : Hid (toldF (toldN s.data.toList) = false) := Lib.hid (by rw [hT]; exact toldF_out (by omega))
          clear hT
          go_enter Tryd.func39, Tryd.ntmps39
          go_wp2_with fail
          refine (shown_c _ _ (by omega) _).mono ?_
          rintro e w' ⟨rfl, rfl⟩
          rw [SH.out]
          go_wp2_with fail
          refine (told_c _ (by omega) AD _).mono ?_
          rintro e w' ⟨rfl, rfl⟩
          rw [T2.out]
          go_wp2_with fail
          go_ret2
          exact ⟨rfl, rfl⟩
      · have hsh' : shownB false s.data.toList = false := by simpa using hsh
        obtain ⟨r1, r2⟩ := read_form (l := s.data.toList) (by rw [m1, m2]; exact hsh')
        rw [r1, r2]
        have SH := Lib.hid hsh'
        clear r1 r2 m1 m2 hsh hsh'
        go_enter Tryd.func39, Tryd.ntmps39
        go_wp2_with fail
        refine (shown_c _ _ (by omega) _).mono ?_
        rintro e w' ⟨rfl, rfl⟩
        rw [SH.out]
        go_wp2_with fail
        go_ret2
        exact ⟨rfl, rfl⟩
  · obtain ⟨m1, m2, m3⟩ := minus_nil (s := s) (by omega)
    obtain ⟨r1, r2⟩ := read_form (l := s.data.toList) (by rw [m1, m2]; exact m3)
    rw [r1, r2]
    have SH := Lib.hid m3
    clear r1 r2 m1 m2 m3
    go_enter Tryd.func39, Tryd.ntmps39
    go_wp2_with fail
    refine (shown_c _ _ (by omega) _).mono ?_
    rintro e w' ⟨rfl, rfl⟩
    rw [SH.out]
    go_wp2_with fail
    go_ret2
    exact ⟨rfl, rfl⟩
end Go.Proofs.YtflpidnkppljlaaDoor
