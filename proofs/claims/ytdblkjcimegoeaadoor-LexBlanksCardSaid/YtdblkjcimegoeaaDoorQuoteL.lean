/- The small tests of bytes: texts.marked, texts.printed. No condition. -/
import Derived.Test.YtdblkjcimegoeaaDoorQuoteP
import Derived.Test.YtdblkjcimegoeaaDoorNameL
namespace Go.Proofs.YtdblkjcimegoeaaDoor
open Go.RowKit
theorem eq_byte (c n : UInt8) : ((c.toNat : Int) == (n.toNat : Int)) = (c == n) := by
  rw [Bool.eq_iff_iff, beq_iff_eq, beq_iff_eq]
  exact ⟨fun h => UInt8.toNat_inj.1 (by omega), fun h => by rw [h]⟩
set_option maxHeartbeats 400000 in
theorem marked_c (c : UInt8) (w : World) : Calls Tryd.prog 52 #[.int .u8 c.toNat] w fun e w' => e = .returned (.bool (markB c)) ∧ w = w' := by
  have E : Hid (markB c = (((c.toNat : Int) == 34) || ((c.toNat : Int) == 92))) := by
    show _ = _; unfold markB; rw [← eq_byte c 34, ← eq_byte c 92]; rfl
  cases h1 : ((c.toNat : Int) == 34) <;> cases h2 : ((c.toNat : Int) == 92)
  all_goals
    rw [h1, h2] at E
    go_enter Tryd.func52, Tryd.ntmps52
    go_wp2
    go_ret
    exact ⟨retB (by rw [E.out]; rfl), rfl⟩
set_option maxHeartbeats 400000 in
theorem printed_c (c : UInt8) (w : World) : Calls Tryd.prog 51 #[.int .u8 c.toNat] w fun e w' => e = .returned (.bool (prinB c)) ∧ w = w' := by
  by_cases h1 : 32 ≤ (c.toNat : Int)
  · by_cases h2 : (c.toNat : Int) ≤ 126
    all_goals
      have E : Hid (prinB c = decide ((c.toNat : Int) ≤ 126)) := by show _ = _; unfold prinB; simp only [h1, h2, true_and]
      go_enter Tryd.func51, Tryd.ntmps51
      go_wp2
      go_ret
      exact ⟨retB (by rw [E.out]; simp [h2]), rfl⟩
  · have E : Hid (prinB c = false) := by show _ = _; unfold prinB; simp only [h1, false_and, decide_false]
    go_enter Tryd.func51, Tryd.ntmps51
    go_wp2
    go_ret
    exact ⟨retB (by rw [E.out]), rfl⟩
end Go.Proofs.YtdblkjcimegoeaaDoor
