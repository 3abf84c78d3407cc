/- The document's sum, difference and opposite of 64-bit numbers are what they are, or 14. No condition but that the arguments are 64-bit numbers. -/
import Derived.Test.YtkppjchapiidpaaSumM
import Derived.Test.YtkppjchapiidpaaAwake
namespace Go.Proofs.Ytkppjchapiidpaa
open Go.RowKit
attribute [local go_sem] alloc_drewN setCell_drewN
theorem sum_c (s t : Bool) (m n : Nat) (hm : m ≤ 9223372036854775808) (hn : n ≤ 9223372036854775808) :
    ∃ (r : Bool) (p : Nat), sgn r p = sgn s m + sgn t n ∧ p < 340282366920938463463374607431768211456 ∧ ∀ w : World, Calls Try.prog 24 #[NV s m, NV t n] w fun e w' => e = .returned (NV r p) ∧ Grown w w' := by
  have hM : Fits m := by unfold Fits; omega
  have hN : Fits n := by unfold Fits; omega
  by_cases h : s = t
  · subst h
    refine ⟨s, m + n, ?_, by omega, fun w => sum_same s m n w⟩
    cases s
    · show ((m + n : Nat) : Int) = (m : Int) + (n : Int); omega
    · show -((m + n : Nat) : Int) = -(m : Int) + -(n : Int); omega
  · have hst : (s == t) = false := by simpa using h
    by_cases hl : m < n
    · refine ⟨t, n - m, ?_, by omega, fun w => sum_less s t m n hst hl hM hN w⟩
      cases s <;> cases t <;> first | (exfalso; exact h rfl) | skip
      · show -((n - m : Nat) : Int) = (m : Int) + -(n : Int); omega
      · show ((n - m : Nat) : Int) = -(m : Int) + (n : Int); omega
    · refine ⟨s, m - n, ?_, by omega, fun w => sum_more s t m n hst (by omega) hM hN w⟩
      cases s <;> cases t <;> first | (exfalso; exact h rfl) | skip
      · show ((m - n : Nat) : Int) = (m : Int) + -(n : Int); omega
      · show -((m - n : Nat) : Int) = -(m : Int) + (n : Int); omega
theorem sgn_of (a : Int) : sgn (decide (a < 0)) a.natAbs = a := by
  by_cases h : a < 0
  · rw [decide_eq_true h]; show -(a.natAbs : Int) = a; omega
  · rw [decide_eq_false h]; show (a.natAbs : Int) = a; omega
theorem sgn_opp (a : Int) : sgn (!decide (a < 0)) a.natAbs = -a := by
  by_cases h : a < 0
  · rw [decide_eq_true h]; show (a.natAbs : Int) = -a; omega
  · rw [decide_eq_false h]; show -(a.natAbs : Int) = -a; omega
theorem abs_le {a : Int} (ha : InR a) : a.natAbs ≤ 9223372036854775808 := by unfold InR at ha; omega
set_option maxHeartbeats 400000 in
theorem refAdd_c (a b : Int) (ha : InR a) (hb : InR b) (w : World) :
    Calls Try.prog 12 #[.int .i64 a, .int .i64 b] w fun e w' => e = .returned (.tuple #[.int .i64 (fitV (a + b)), .int .i64 (fitE (a + b))]) ∧ Grown w w' := by
  obtain ⟨r, p, hr, hp, hs⟩ := sum_c (decide (a < 0)) (decide (b < 0)) a.natAbs b.natAbs (abs_le ha) (abs_le hb)
  rw [sgn_of, sgn_of] at hr
  rw [← hr]
  have HS := Lib.hid hs
  have HP := Lib.hid hp
  clear hs hp hr
  go_enter Try.func12, Try.ntmps12
  go_wp2_with fail
  refine (of_c a ha _).mono ?_
  rintro e w1 ⟨rfl, h1⟩
  go_wp2_with fail
  refine (of_c b hb _).mono ?_
  rintro e w2 ⟨rfl, h2⟩
  go_wp2_with fail
  refine (HS.out _).mono ?_
  rintro e w3 ⟨rfl, h3⟩
  go_wp2_with fail
  refine (fit_c r p HP.out _).mono ?_
  rintro e w4 ⟨rfl, h4⟩
  go_wp2_with fail
  go_ret2
  exact ⟨rfl, grown_trans (grown_trans (grown_trans h1 h2) h3) h4⟩
theorem of_e (a : Int) (ha : InR a) (w : World) :
    Calls Try.prog 25 #[.int .i64 a] w fun e w' => e = .returned (.agg #[.bool (decide (a < 0)), .int .u64 (d3 a.natAbs : Int), .int .u64 (d2 a.natAbs : Int), .int .u64 (d1 a.natAbs : Int), .int .u64 (d0 a.natAbs : Int)]) ∧ Grown w w' := of_c a ha w
set_option maxHeartbeats 1000000 in
theorem refSub_c (a b : Int) (ha : InR a) (hb : InR b) (w : World) :
    Calls Try.prog 14 #[.int .i64 a, .int .i64 b] w fun e w' => e = .returned (.tuple #[.int .i64 (fitV (a - b)), .int .i64 (fitE (a - b))]) ∧ Grown w w' := by
  obtain ⟨r, p, hr, hp, hs⟩ := sum_c (decide (a < 0)) (!decide (b < 0)) a.natAbs b.natAbs (abs_le ha) (abs_le hb)
  rw [sgn_of, sgn_opp] at hr
  rw [show a - b = a + -b from by omega, ← hr]
  have HS := Lib.hid hs
  have HP := Lib.hid hp
  clear hs hp hr
  obtain ⟨sb, hsb⟩ : ∃ sb, decide (b < 0) = sb := ⟨_, rfl⟩
  have ofb := of_e b hb
  rw [hsb] at HS ofb
  have OF := Lib.hid ofb
  clear hsb ofb
  go_enter Try.func14, Try.ntmps14
  go_wp2_with fail
  refine (OF.out _).mono ?_
  rintro e w1 ⟨rfl, h1⟩
  go_wp2_with fail
  have c0 : (w1.alloc (Obj.cells #[Value.bool !sb, Value.int IntKind.u64 (d3 b.natAbs : Int), Value.int IntKind.u64 (d2 b.natAbs : Int), Value.int IntKind.u64 (d1 b.natAbs : Int), Value.int IntKind.u64 (d0 b.natAbs : Int)] 40)).cell? ⟨w1.heap.size, 0, none⟩ = some (.bool !sb) := by simp
  have c1 : (w1.alloc (Obj.cells #[Value.bool !sb, Value.int IntKind.u64 (d3 b.natAbs : Int), Value.int IntKind.u64 (d2 b.natAbs : Int), Value.int IntKind.u64 (d1 b.natAbs : Int), Value.int IntKind.u64 (d0 b.natAbs : Int)] 40)).cell? ⟨w1.heap.size, 1, none⟩ = some (.int .u64 (d3 b.natAbs : Int)) := by simp
  have c2 : (w1.alloc (Obj.cells #[Value.bool !sb, Value.int IntKind.u64 (d3 b.natAbs : Int), Value.int IntKind.u64 (d2 b.natAbs : Int), Value.int IntKind.u64 (d1 b.natAbs : Int), Value.int IntKind.u64 (d0 b.natAbs : Int)] 40)).cell? ⟨w1.heap.size, 2, none⟩ = some (.int .u64 (d2 b.natAbs : Int)) := by simp
  have c3 : (w1.alloc (Obj.cells #[Value.bool !sb, Value.int IntKind.u64 (d3 b.natAbs : Int), Value.int IntKind.u64 (d2 b.natAbs : Int), Value.int IntKind.u64 (d1 b.natAbs : Int), Value.int IntKind.u64 (d0 b.natAbs : Int)] 40)).cell? ⟨w1.heap.size, 3, none⟩ = some (.int .u64 (d1 b.natAbs : Int)) := by simp
  have c4 : (w1.alloc (Obj.cells #[Value.bool !sb, Value.int IntKind.u64 (d3 b.natAbs : Int), Value.int IntKind.u64 (d2 b.natAbs : Int), Value.int IntKind.u64 (d1 b.natAbs : Int), Value.int IntKind.u64 (d0 b.natAbs : Int)] 40)).cell? ⟨w1.heap.size, 4, none⟩ = some (.int .u64 (d0 b.natAbs : Int)) := by simp
  have zc : w1.heap.size < (w1.alloc (Obj.cells #[Value.bool !sb, Value.int IntKind.u64 (d3 b.natAbs : Int), Value.int IntKind.u64 (d2 b.natAbs : Int), Value.int IntKind.u64 (d1 b.natAbs : Int), Value.int IntKind.u64 (d0 b.natAbs : Int)] 40)).heap.size := by simp
  go_region_held3 (fun w' => w'.cell? ⟨w1.heap.size, 0, none⟩ = some (.bool !sb) ∧ w'.cell? ⟨w1.heap.size, 1, none⟩ = some (.int .u64 (d3 b.natAbs : Int)) ∧ w'.cell? ⟨w1.heap.size, 2, none⟩ = some (.int .u64 (d2 b.natAbs : Int)) ∧ w'.cell? ⟨w1.heap.size, 3, none⟩ = some (.int .u64 (d1 b.natAbs : Int)) ∧ w'.cell? ⟨w1.heap.size, 4, none⟩ = some (.int .u64 (d0 b.natAbs : Int))) (go_keep) (first | (go_at_call 25; refine (of_c a ha _).mono ?_; rintro e w2 ⟨rfl, h2⟩; have o0 := gkeep h2 c0 zc; have o1 := gkeep h2 c1 zc; have o2 := gkeep h2 c2 zc; have o3 := gkeep h2 c3 zc; have o4 := gkeep h2 c4 zc; have zo := Nat.lt_of_lt_of_le zc h2.2.2) | (go_at_call 24; refine (HS.out _).mono ?_; rintro e w3 ⟨rfl, h3⟩; have p0 := gkeep h3 o0 zo; have p1 := gkeep h3 o1 zo; have p2 := gkeep h3 o2 zo; have p3 := gkeep h3 o3 zo; have p4 := gkeep h3 o4 zo; have zp := Nat.lt_of_lt_of_le zo h3.2.2) | (go_at_call 23; refine (fit_c r p HP.out _).mono ?_; rintro e w4 ⟨rfl, h4⟩; have q0 := gkeep h4 p0 zp; have q1 := gkeep h4 p1 zp; have q2 := gkeep h4 p2 zp; have q3 := gkeep h4 p3 zp; have q4 := gkeep h4 p4 zp; have zq := Nat.lt_of_lt_of_le zp h4.2.2))
  go_wp2_with fail
  go_ret2
  refine ⟨rfl, ?_⟩
  refine grown_trans ?_ h4
  refine grown_trans ?_ h3
  refine grown_trans ?_ h2
  repeat (first | exact h1 | apply Grown.drewN | apply Grown.drew | apply Grown.alloc)
end Go.Proofs.Ytkppjchapiidpaa
