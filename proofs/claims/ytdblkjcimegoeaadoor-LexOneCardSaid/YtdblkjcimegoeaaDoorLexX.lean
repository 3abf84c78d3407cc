/- LexReads and LexOne: the walks. Condition: the table of marks is as it was laid. -/
import Derived.Test.YtdblkjcimegoeaaDoorLexW
namespace Go.Proofs.YtdblkjcimegoeaaDoor
open Go.RowKit
theorem lexF_len : ∀ (f : Nat) (l : List UInt8) (a : Nat), (lexF f l a).2.2.length ≤ f + 1
  | 0, _, _ => by simp [lexF]
  | f + 1, l, a => by
    rw [lexF]
    split
    · simp
    · split
      · have ih := lexF_len f (l.drop ((fst1 l).w + skp false (l.drop (fst1 l).w))) (a + ((fst1 l).w + skp false (l.drop (fst1 l).w)))
        split
        · simp; omega
        · omega
      · simp
theorem lexL_len (l : List UInt8) : (lexL l).2.2.length ≤ 65537 := by
  unfold lexL
  split
  · simp
  · unfold lexR
    have := lexF_len (l.drop (skp false l)).length (l.drop (skp false l)) (skp false l)
    rw [List.length_drop] at this
    rw [List.length_drop]
    omega
/-- What both rows of words are, by names. -/
theorem both (s : ByteArray) (hs : s.size ≤ 4294967294) : ∃ (er pl : Int) (ws : List Wd), ws.length ≤ 65537 ∧ lexL s.data.toList = (er, pl.toNat, ws) ∧
    Hid (∀ w, MkAt w → Calls Tryd.prog 9 #[.string s] w fun e w' => ∃ v, e = .returned (.tuple #[v, .int .i64 er, .int .i64 pl]) ∧ OwnW w.heap.size w' v ws ∧ Low w w') ∧
    Hid (∀ w, Calls Tryd.prog 10 #[.string s] w fun e w' => ∃ v, e = .returned (.tuple #[v, .int .i64 er, .int .i64 pl]) ∧ OwnX w.heap.size w' v ws ∧ Low w w') :=
  ⟨(lexL s.data.toList).1, ((lexL s.data.toList).2.1 : Nat), (lexL s.data.toList).2.2, lexL_len _, rfl, Lib.hid fun w hm => words_c s hs w hm, Lib.hid fun w => refWords_c s hs w⟩
set_option maxHeartbeats 1600000 in
theorem lexReads_walk (a0 : ByteArray) (w : World) (hm : MkAt w) : Calls Tryd.prog 3 #[.string a0] w fun e w' => e = .returned (.bool true) ∧ Low w w' := by
  have HM := Lib.hid hm
  clear hm
  by_cases hl : 3000 < a0.size
  · have z0 : (3000 : Int) < (a0.size : Int) := by omega
    go_enter Tryd.func3, Tryd.ntmps3
    go_wp2_with fail
    refine (awake7_c _ HM.out).mono ?_
    rintro e w1 ⟨rfl, l1⟩
    go_wp2_with fail
    go_ret
    exact ⟨rfl, l1⟩
  · have z0 : ¬ (3000 : Int) < (a0.size : Int) := by omega
    obtain ⟨er, pl, ws, hws, -, HW, HR⟩ := both a0 (by omega)
    go_enter Tryd.func3, Tryd.ntmps3
    go_wp2_with fail
    refine (awake7_c _ HM.out).mono ?_
    rintro e w1 ⟨rfl, l1⟩
    have L1 := Lib.hid l1
    have HM1 := Lib.hid (HM.out.low l1)
    clear l1
    go_wp2_with fail
    refine (HW.out _ HM1.out).mono ?_
    rintro e w2 ⟨v1, rfl, hv1, l2⟩
    have L2 := Lib.hid (L1.out.trans l2)
    have O1 := Lib.hid hv1
    clear l2 hv1
    go_wp2_with fail
    refine (HR.out _).mono ?_
    rintro e w3 ⟨v2, rfl, hv2, l3⟩
    have SM := Lib.hid (same_c _ _ v1 v2 ws (by omega) w3 (OwnR.low O1.out l3) hv2)
    have L3 := Lib.hid (L2.out.trans l3)
    clear l3 hv2
    go_wp2_with fail
    refine SM.out.mono ?_
    rintro e w4 ⟨rfl, l4⟩
    go_wp2_with fail
    go_ret
    exact ⟨rfl, L3.out.trans l4⟩
set_option maxHeartbeats 1600000 in
theorem lexOne_walk (a0 : ByteArray) (w : World) (hm : MkAt w) : Calls Tryd.prog 6 #[.string a0] w fun e w' => e = .returned (.bool true) ∧ Low w w' := by
  have HM := Lib.hid hm
  clear hm
  by_cases hl : 300 < a0.size
  · have z0 : (300 : Int) < (a0.size : Int) := by omega
    go_enter Tryd.func6, Tryd.ntmps6
    go_wp2_with fail
    refine (awake7_c _ HM.out).mono ?_
    rintro e w1 ⟨rfl, l1⟩
    go_wp2_with fail
    go_ret
    exact ⟨rfl, l1⟩
  · have z0 : ¬ (300 : Int) < (a0.size : Int) := by omega
    have e2 : (ByteArray.mk #[97, 32]).size = 2 := rfl
    have e3 : (ByteArray.mk #[32, 49]).size = 2 := rfl
    have y1 : (ByteArray.mk #[97, 32] ++ a0).size ≤ 302 := by rw [ByteArray.size_append, e2]; omega
    have y2 : (ByteArray.mk #[97, 32] ++ a0 ++ ByteArray.mk #[32, 49]).size ≤ 304 := by rw [ByteArray.size_append, e3]; omega
    obtain ⟨er, pl, ws, hws, -, HW, HR⟩ := both (ByteArray.mk #[97, 32] ++ a0 ++ ByteArray.mk #[32, 49]) (by omega)
    clear e2 e3
    go_enter Tryd.func6, Tryd.ntmps6
    go_wp2_with fail
    refine (awake7_c _ HM.out).mono ?_
    rintro e w1 ⟨rfl, l1⟩
    have L1 := Lib.hid l1
    have HM1 := Lib.hid (HM.out.low l1)
    clear l1
    go_wp2_with fail
    refine (HW.out _ HM1.out).mono ?_
    rintro e w2 ⟨v1, rfl, hv1, l2⟩
    have L2 := Lib.hid (L1.out.trans l2)
    have O1 := Lib.hid hv1
    clear l2 hv1
    go_wp2_with fail
    refine (HR.out _).mono ?_
    rintro e w3 ⟨v2, rfl, hv2, l3⟩
    have SM := Lib.hid (same_c _ _ v1 v2 ws (by omega) w3 (OwnR.low O1.out l3) hv2)
    have L3 := Lib.hid (L2.out.trans l3)
    clear l3 hv2
    go_wp2_with fail
    refine SM.out.mono ?_
    rintro e w4 ⟨rfl, l4⟩
    go_wp2_with fail
    go_ret
    exact ⟨rfl, L3.out.trans l4⟩
end Go.Proofs.YtdblkjcimegoeaaDoor
