/- ints.Show: the digits of a number. No condition but that the argument is a 64-bit number. -/
import Derived.Test.YtkppjchapiidpaaMulNeg
import Derived.Test.YtkppjchapiidpaaDigits
import Derived.WalkLawsBesides
import Derived.WalkSpells
import Derived.Laws.NewBlocks
namespace Go.Proofs.Ytkppjchapiidpaa
open Go.RowKit
theorem arr_at_start (a : Int) (w : World) : w.alloc (.cells (List.replicate 20 (Value.int .u8 0)).toArray 51) = w.alloc (.cells (arrOf a.natAbs 19) 51) := by rw [arr_start]
theorem slice_run (m : Int) (h0 : 0 ≤ m) (h1 : m < 20) (b : Nat) (w : World) :
    (Instr.sliceAt 51 (.pointer (some ⟨b, 0, none⟩)) (some (.int .i64 m)) none none).run Try.prog w = .ok (.slice (some ⟨b, m.toNat, none⟩) (20 - m.toNat) (20 - m.toNat)) w := by
  have hal : Try.prog.arrayLen 51 = 20 := by kernel_rfl
  have hel : Try.prog.elem 51 = 5 := by kernel_rfl
  rw [run_sliceAt_array_l w _ _ (by rw [hal, hel]; exact Try.underlying51) _ _ h0 (by rw [hal]; omega), hal, hel, Try.sizeOf5]
  simp only [Result.andThen, slicedAt]
  rw [if_neg (by omega)]
  congr 5
  simp [Addr.add]; omega
theorem conv_run (C : Array Value) (m : Nat) (l : List UInt8) (hl : l.length = 20 - m) (hC : C.toList.drop m = l.map byV) (w : World) :
    (convert 34 9 (.slice (some ⟨w.heap.size, m, none⟩) (20 - m) (20 - m))).run Try.prog (w.alloc (.cells C 51)) = .ok (.string ⟨l.toArray⟩) (w.alloc (.cells C 51)) := by
  rw [← hl]
  refine run_convert_bytes_back _ _ _ 5 _ _ l Try.underlying34 Try.underlying5 Try.underlying9 fun j hj => ?_
  have hj' : j < (l.map byV).length := by simpa using hj
  have e : (⟨w.heap.size, m, none⟩ : Addr).add j = ⟨w.heap.size, m + j, none⟩ := by simp [Addr.add]
  rw [e, World.cell?_alloc_mark]
  have h2 : (C.toList.drop m)[j]? = some (byV l[j]) := by rw [hC, List.getElem?_map, List.getElem?_eq_getElem hj]; rfl
  rw [List.getElem?_drop] at h2
  rw [← Array.getElem?_toList, h2]; rfl
theorem low_is (n p q : Nat) (hp : p ≤ 19) (hp1 : 1 ≤ p) (hq : q = n / 10 ^ (19 - p)) (hn : p = 19 ∨ q ≠ 0) (hz : q / 10 = 0) : lowD n (19 - (p - 1)) = decD n := by
  have e : 19 - (p - 1) = (19 - p) + 1 := by omega
  rw [e]
  refine lowD_dec _ _ (by omega) ?_ ?_
  · rw [Nat.pow_succ, ← Nat.div_div_eq_div_mul, ← hq]; exact hz
  · rcases hn with h | h
    · exact .inl (by omega)
    · exact .inr (by rw [← hq]; exact h)
theorem low_next (n p q : Nat) (hp : p ≤ 19) (hq : q = n / 10 ^ (19 - p)) (hn : n ≤ 9223372036854775808) (hz : q / 10 ≠ 0) : 2 ≤ p ∧ q / 10 = n / 10 ^ (19 - (p - 1)) := by
  have h2 : 2 ≤ p := by
    rcases Nat.lt_or_ge p 2 with h | h
    · exfalso
      apply hz
      rw [hq, Nat.div_div_eq_div_mul, ← Nat.pow_succ]
      refine Nat.div_eq_of_lt (Nat.lt_of_le_of_lt hn ?_)
      have : p = 0 ∨ p = 1 := by omega
      rcases this with rfl | rfl <;> decide
    · exact h
  refine ⟨h2, ?_⟩
  have e : 19 - (p - 1) = (19 - p) + 1 := by omega
  rw [e, Nat.pow_succ, ← Nat.div_div_eq_div_mul, ← hq]
theorem retS {a b : List UInt8} (h : a = b) : Ending.returned (.string ⟨a.toArray⟩) = .returned (.string ⟨b.toArray⟩) := by rw [h]
theorem showL_neg {a : Int} (h : a < 0) : showL a = 45 :: decD a.natAbs := if_pos h
theorem showL_pos {a : Int} (h : ¬ a < 0) : showL a = decD a.natAbs := if_neg h
set_option maxHeartbeats 800000 in
theorem show_c (a : Int) (ha : InR a) (w : World) :
    Calls Try.prog 21 #[.int .i64 a] w fun e w' => e = .returned (.string ⟨(showL a).toArray⟩) ∧ Grown w w' := by
  go_enter Try.func21, Try.ntmps21
  go_wp2_with fail
  refine (size_c a ha _).mono ?_
  rintro e w' ⟨rfl, rfl⟩
  have han : a.natAbs ≤ 9223372036854775808 := by unfold InR at ha; omega
  go_wp2_with fail
  go_loopw [4, 5] (fun t r wr => ∃ p q : Nat, p ≤ 19 ∧ 1 ≤ p ∧ q ≤ 9223372036854775808 ∧ t = .int .i64 ((p : Int) + 1) ∧ r = .int .u64 q ∧ wr = w.alloc (.cells (arrOf a.natAbs p) 51) ∧ Hid (q = a.natAbs / 10 ^ (19 - p)) ∧ Hid (p = 19 ∨ q ≠ 0)) (fun t _ _ => (intOf t).toNat)
  case atStart => exact ⟨19, a.natAbs, by omega, by omega, han, rfl, rfl, arr_at_start a w, by show _ = _; simp, .inl rfl⟩
  case round =>
    obtain ⟨p, q, hp, hp1, hq9, rfl, rfl, rfl, hq, hn⟩ := hrel
    have g1 := arr_get a.natAbs p
    have g2 := arr_set a.natAbs p q hp hp1 hq.out
    have g3 := arr_get a.natAbs (p - 1)
    by_cases hz : q / 10 = 0
    · have LW := low_is a.natAbs p q hp hp1 hq.out hn.out hz
      have hz' : (((q : Int) / 10) == 0) = true := by rw [beq_iff_eq]; omega
      clear hz
      by_cases hneg : a < 0
      · have S1 := fun w' => slice_run ((p : Int) - 1) (by omega) (by omega) w.heap.size w'
        have e1 : ((p : Int) - 1).toNat = p - 1 := by omega
        simp only [e1] at S1
        have C1 := conv_run ((arrOf a.natAbs (p - 1)).setIfInBounds (p - 1) (.int .u8 45)) (p - 1) (45 :: lowD a.natAbs (19 - (p - 1))) (by simp [lowD_len]; omega) (arr_minus _ _) w
        have E := Lib.hid (showL_neg hneg)
        clear e1
        go_wp2
        go_ret
        exact ⟨retS (by rw [E.out]), by go_grown⟩
      · have S2 := fun w' => slice_run (p : Int) (by omega) (by omega) w.heap.size w'
        have e1 : ((p : Int)).toNat = p := by omega
        simp only [e1] at S2
        have C2 := conv_run (arrOf a.natAbs (p - 1)) p (lowD a.natAbs (19 - (p - 1))) (by rw [lowD_len]; omega) (by have := arr_plain a.natAbs (p - 1); rwa [show p - 1 + 1 = p from by omega] at this) w
        have E := Lib.hid (showL_pos hneg)
        clear e1
        go_wp2
        go_ret
        exact ⟨retS (by rw [E.out]), by go_grown⟩
    · obtain ⟨h2, hq2⟩ := low_next a.natAbs p q hp hq.out han hz
      have HQ2 := Lib.hid hq2
      have hz' : (((q : Int) / 10) == 0) = false := by rw [beq_eq_false_iff_ne]; omega
      clear hq2
      go_wp2
      go_roundw
      case rel => exact ⟨p - 1, q / 10, by omega, by omega, by omega, by congr 1; omega, by go_num, rfl, HQ2, .inr hz⟩
      case measure => simp [intOf]
end Go.Proofs.Ytkppjchapiidpaa
