/- The document's product of 64-bit numbers is what it is, or 14. No condition but that the arguments are 64-bit numbers. -/
import Derived.Test.YtkppjchapiidpaaTimes
import Derived.Test.YtkppjchapiidpaaRefAdd
namespace Go.Proofs.Ytkppjchapiidpaa
open Go.RowKit
attribute [local go_sem] alloc_drewN setCell_drewN
theorem mul_split (m1 m0 n1 n0 B : Nat) : (m1 * B + m0) * (n1 * B + n0) = m0 * n0 + m1 * n0 * B + m0 * n1 * B + m1 * n1 * (B * B) := by
  rw [Nat.add_mul, Nat.mul_add, Nat.mul_add]
  have e1 : m1 * B * (n1 * B) = m1 * n1 * (B * B) := Nat.mul_mul_mul_comm _ _ _ _
  have e2 : m1 * B * n0 = m1 * n0 * B := Nat.mul_right_comm _ _ _
  have e3 : m0 * (n1 * B) = m0 * n1 * B := (Nat.mul_assoc _ _ _).symm
  omega
theorem prod_le {a b : Nat} (ha : a < 4294967296) (hb : b < 4294967296) : a * b ≤ 18446744073709551615 := by
  have h := Nat.mul_le_mul (show a ≤ 4294967295 by omega) (show b ≤ 4294967295 by omega)
  omega
theorem times_e (m n : Nat) (hm : m ≤ 18446744073709551615) (hn : n ≤ 18446744073709551615) (w : World) :
    Calls Try.prog 29 #[.agg #[.int .u64 (d3 m : Int), .int .u64 (d2 m : Int), .int .u64 (d1 m : Int), .int .u64 (d0 m : Int)], .agg #[.int .u64 (d3 n : Int), .int .u64 (d2 n : Int), .int .u64 (d1 n : Int), .int .u64 (d0 n : Int)]] w fun e w' => e = .returned (.agg #[.int .u64 (d3 (m * n) : Int), .int .u64 (d2 (m * n) : Int), .int .u64 (d1 (m * n) : Int), .int .u64 (d0 (m * n) : Int)]) ∧ Grown w w' := by
  have h := times_raw (d3 m) (d2 m) (d1 m) (d0 m) (d3 n) (d2 n) (d1 n) (d0 n) (d0 m * d0 n) (d1 m * d0 n) (d0 m * d1 n) (d1 m * d1 n) (d1 m * d0 n * 4294967296) (d0 m * d1 n * 4294967296) (d1 m * d1 n * 18446744073709551616)
    (Int.natCast_mul _ _).symm (Int.natCast_mul _ _).symm (Int.natCast_mul _ _).symm (Int.natCast_mul _ _).symm (prod_le (d0_lt m) (d0_lt n)) (prod_le (d1_lt m) (d0_lt n)) (prod_le (d0_lt m) (d1_lt n)) (prod_le (d1_lt m) (d1_lt n)) (Lib.hid rfl) (Lib.hid rfl) (Lib.hid rfl) w
  have em : m = d1 m * 4294967296 + d0 m := by unfold d0 d1; omega
  have en : n = d1 n * 4294967296 + d0 n := by unfold d0 d1; omega
  have e : d0 m * d0 n + d1 m * d0 n * 4294967296 + d0 m * d1 n * 4294967296 + d1 m * d1 n * 18446744073709551616 = m * n := by
    have k := mul_split (d1 m) (d0 m) (d1 n) (d0 n) 4294967296
    rw [← em, ← en] at k
    exact k.symm
  rw [e] at h
  exact h
theorem nabs_small {a b : Int} (ha : InR a) (hb : InR b) : a.natAbs * b.natAbs < 340282366920938463463374607431768211456 := by
  have h := Nat.mul_le_mul (abs_le ha) (abs_le hb)
  omega
theorem fit_e (s : Bool) (n : Nat) (hn : n < 340282366920938463463374607431768211456) (w : World) :
    Calls Try.prog 23 #[.agg #[.bool s, .int .u64 (d3 n : Int), .int .u64 (d2 n : Int), .int .u64 (d1 n : Int), .int .u64 (d0 n : Int)]] w fun e w' => e = .returned (.tuple #[.int .i64 (fitV (sgn s n)), .int .i64 (fitE (sgn s n))]) ∧ Grown w w' := fit_c s n hn w
set_option maxHeartbeats 2000000 in
theorem refMul_raw (a b : Int) (s t : Bool) (m n : Nat)
    (ofa : Hid (∀ w : World, Calls Try.prog 25 #[.int .i64 a] w fun e w' => e = .returned (.agg #[.bool s, .int .u64 (d3 m : Int), .int .u64 (d2 m : Int), .int .u64 (d1 m : Int), .int .u64 (d0 m : Int)]) ∧ Grown w w'))
    (ofb : Hid (∀ w : World, Calls Try.prog 25 #[.int .i64 b] w fun e w' => e = .returned (.agg #[.bool t, .int .u64 (d3 n : Int), .int .u64 (d2 n : Int), .int .u64 (d1 n : Int), .int .u64 (d0 n : Int)]) ∧ Grown w w'))
    (hm : m ≤ 18446744073709551615) (hn : n ≤ 18446744073709551615) (hp : Hid (m * n < 340282366920938463463374607431768211456)) (w : World) :
    Calls Try.prog 16 #[.int .i64 a, .int .i64 b] w fun e w' => e = .returned (.tuple #[.int .i64 (fitV (sgn (s != t) (m * n))), .int .i64 (fitE (sgn (s != t) (m * n)))]) ∧ Grown w w' := by
  go_enter Try.func16, Try.ntmps16
  go_wp2_with fail
  refine (ofa.out _).mono ?_
  rintro e w1 ⟨rfl, h1⟩
  go_wp2_with fail
  refine (ofb.out _).mono ?_
  rintro e w2 ⟨rfl, h2⟩
  go_wp2_with fail
  have hz1 : w1.heap.size < w2.heap.size := Nat.lt_of_lt_of_le (by simp) h2.2.2
  have A0 : (w2.alloc (Obj.cells #[Value.bool t, Value.int .u64 (d3 n : Int), Value.int .u64 (d2 n : Int), Value.int .u64 (d1 n : Int), Value.int .u64 (d0 n : Int)] 40)).cell? ⟨w1.heap.size, 0, none⟩ = some (.bool s) := (World.cell?_alloc_past (w := w2) _ _ _ hz1).trans (gkeep h2 (by simp [go_sem]) (by simp))
  have A1 : (w2.alloc (Obj.cells #[Value.bool t, Value.int .u64 (d3 n : Int), Value.int .u64 (d2 n : Int), Value.int .u64 (d1 n : Int), Value.int .u64 (d0 n : Int)] 40)).cell? ⟨w1.heap.size, 1, none⟩ = some (.int .u64 (d3 m : Int)) := (World.cell?_alloc_past (w := w2) _ _ _ hz1).trans (gkeep h2 (by simp [go_sem]) (by simp))
  have A2 : (w2.alloc (Obj.cells #[Value.bool t, Value.int .u64 (d3 n : Int), Value.int .u64 (d2 n : Int), Value.int .u64 (d1 n : Int), Value.int .u64 (d0 n : Int)] 40)).cell? ⟨w1.heap.size, 2, none⟩ = some (.int .u64 (d2 m : Int)) := (World.cell?_alloc_past (w := w2) _ _ _ hz1).trans (gkeep h2 (by simp [go_sem]) (by simp))
  have A3 : (w2.alloc (Obj.cells #[Value.bool t, Value.int .u64 (d3 n : Int), Value.int .u64 (d2 n : Int), Value.int .u64 (d1 n : Int), Value.int .u64 (d0 n : Int)] 40)).cell? ⟨w1.heap.size, 3, none⟩ = some (.int .u64 (d1 m : Int)) := (World.cell?_alloc_past (w := w2) _ _ _ hz1).trans (gkeep h2 (by simp [go_sem]) (by simp))
  have A4 : (w2.alloc (Obj.cells #[Value.bool t, Value.int .u64 (d3 n : Int), Value.int .u64 (d2 n : Int), Value.int .u64 (d1 n : Int), Value.int .u64 (d0 n : Int)] 40)).cell? ⟨w1.heap.size, 4, none⟩ = some (.int .u64 (d0 m : Int)) := (World.cell?_alloc_past (w := w2) _ _ _ hz1).trans (gkeep h2 (by simp [go_sem]) (by simp))
  have B0 : (w2.alloc (Obj.cells #[Value.bool t, Value.int .u64 (d3 n : Int), Value.int .u64 (d2 n : Int), Value.int .u64 (d1 n : Int), Value.int .u64 (d0 n : Int)] 40)).cell? ⟨w2.heap.size, 0, none⟩ = some (.bool t) := by simp
  have B1 : (w2.alloc (Obj.cells #[Value.bool t, Value.int .u64 (d3 n : Int), Value.int .u64 (d2 n : Int), Value.int .u64 (d1 n : Int), Value.int .u64 (d0 n : Int)] 40)).cell? ⟨w2.heap.size, 1, none⟩ = some (.int .u64 (d3 n : Int)) := by simp
  have B2 : (w2.alloc (Obj.cells #[Value.bool t, Value.int .u64 (d3 n : Int), Value.int .u64 (d2 n : Int), Value.int .u64 (d1 n : Int), Value.int .u64 (d0 n : Int)] 40)).cell? ⟨w2.heap.size, 2, none⟩ = some (.int .u64 (d2 n : Int)) := by simp
  have B3 : (w2.alloc (Obj.cells #[Value.bool t, Value.int .u64 (d3 n : Int), Value.int .u64 (d2 n : Int), Value.int .u64 (d1 n : Int), Value.int .u64 (d0 n : Int)] 40)).cell? ⟨w2.heap.size, 3, none⟩ = some (.int .u64 (d1 n : Int)) := by simp
  have B4 : (w2.alloc (Obj.cells #[Value.bool t, Value.int .u64 (d3 n : Int), Value.int .u64 (d2 n : Int), Value.int .u64 (d1 n : Int), Value.int .u64 (d0 n : Int)] 40)).cell? ⟨w2.heap.size, 4, none⟩ = some (.int .u64 (d0 n : Int)) := by simp
  have hzA : w1.heap.size < (w2.alloc (Obj.cells #[Value.bool t, Value.int .u64 (d3 n : Int), Value.int .u64 (d2 n : Int), Value.int .u64 (d1 n : Int), Value.int .u64 (d0 n : Int)] 40)).heap.size := by simp; omega
  have hzB : w2.heap.size < (w2.alloc (Obj.cells #[Value.bool t, Value.int .u64 (d3 n : Int), Value.int .u64 (d2 n : Int), Value.int .u64 (d1 n : Int), Value.int .u64 (d0 n : Int)] 40)).heap.size := by simp
  have gw : Grown w (w2.alloc (Obj.cells #[Value.bool t, Value.int .u64 (d3 n : Int), Value.int .u64 (d2 n : Int), Value.int .u64 (d1 n : Int), Value.int .u64 (d0 n : Int)] 40)) := Grown.alloc (grown_trans (Grown.alloc h1 _ _) h2) _ _
  generalize hW : (w2.alloc (Obj.cells #[Value.bool t, Value.int .u64 (d3 n : Int), Value.int .u64 (d2 n : Int), Value.int .u64 (d1 n : Int), Value.int .u64 (d0 n : Int)] 40)) = wx at A0 A1 A2 A3 A4 B0 B1 B2 B3 B4 hzA hzB gw ⊢
  clear hW
  generalize w1.heap.size = g at A0 A1 A2 A3 A4 hzA hz1 ⊢
  generalize w2.heap.size = h at B0 B1 B2 B3 B4 hzB hz1 ⊢
  clear h1 h2
  go_region_held3 (fun w' => w'.cell? ⟨g, 0, none⟩ = some (.bool s) ∧ w'.cell? ⟨g, 1, none⟩ = some (.int .u64 (d3 m : Int)) ∧ w'.cell? ⟨g, 2, none⟩ = some (.int .u64 (d2 m : Int)) ∧ w'.cell? ⟨g, 3, none⟩ = some (.int .u64 (d1 m : Int)) ∧ w'.cell? ⟨g, 4, none⟩ = some (.int .u64 (d0 m : Int)) ∧ w'.cell? ⟨h, 0, none⟩ = some (.bool t) ∧ w'.cell? ⟨h, 1, none⟩ = some (.int .u64 (d3 n : Int)) ∧ w'.cell? ⟨h, 2, none⟩ = some (.int .u64 (d2 n : Int)) ∧ w'.cell? ⟨h, 3, none⟩ = some (.int .u64 (d1 n : Int)) ∧ w'.cell? ⟨h, 4, none⟩ = some (.int .u64 (d0 n : Int))) (go_keep) (first | (go_at_call 29; refine (times_e m n hm hn _).mono ?_; rintro e w3 ⟨rfl, h3⟩; have a0 := gkeep h3 A0 hzA; have b0 := gkeep h3 B0 hzB; have a1 := gkeep h3 A1 hzA; have b1 := gkeep h3 B1 hzB; have a2 := gkeep h3 A2 hzA; have b2 := gkeep h3 B2 hzB; have a3 := gkeep h3 A3 hzA; have b3 := gkeep h3 B3 hzB; have a4 := gkeep h3 A4 hzA; have b4 := gkeep h3 B4 hzB; have hzA3 := Nat.lt_of_lt_of_le hzA h3.2.2; have hzB3 := Nat.lt_of_lt_of_le hzB h3.2.2) | (go_at_call 23; refine (fit_e _ (m * n) hp.out _).mono ?_; rintro e w4 ⟨rfl, h4⟩; have p0 := gkeep h4 a0 hzA3; have q0 := gkeep h4 b0 hzB3; have p1 := gkeep h4 a1 hzA3; have q1 := gkeep h4 b1 hzB3; have p2 := gkeep h4 a2 hzA3; have q2 := gkeep h4 b2 hzB3; have p3 := gkeep h4 a3 hzA3; have q3 := gkeep h4 b3 hzB3; have p4 := gkeep h4 a4 hzA3; have q4 := gkeep h4 b4 hzB3))
  go_wp2_with fail
  go_ret2
  refine ⟨rfl, ?_⟩
  refine grown_trans ?_ h4
  refine grown_trans ?_ h3
  repeat (first | exact gw | apply Grown.drewN | apply Grown.drew)
theorem refMul_c (a b : Int) (ha : InR a) (hb : InR b) (w : World) :
    Calls Try.prog 16 #[.int .i64 a, .int .i64 b] w fun e w' => e = .returned (.tuple #[.int .i64 (fitV (a * b)), .int .i64 (fitE (a * b))]) ∧ Grown w w' := by
  have hA := abs_le ha
  have hB := abs_le hb
  have h := refMul_raw a b (decide (a < 0)) (decide (b < 0)) a.natAbs b.natAbs (Lib.hid (fun w => of_e a ha w)) (Lib.hid (fun w => of_e b hb w)) (by omega) (by omega) (Lib.hid (nabs_small ha hb)) w
  rw [sgn_mul] at h
  exact h
theorem refNeg_c (a : Int) (ha : InR a) (w : World) :
    Calls Try.prog 18 #[.int .i64 a] w fun e w' => e = .returned (.tuple #[.int .i64 (fitV (-a)), .int .i64 (fitE (-a))]) ∧ Grown w w' := by
  have H := Lib.hid (fun w => refSub_c 0 a ⟨by decide, by decide⟩ ha w)
  rw [Int.zero_sub] at H
  go_enter Try.func18, Try.ntmps18
  go_wp2_with fail
  refine (H.out _).mono ?_
  rintro e w1 ⟨rfl, h1⟩
  go_wp2_with fail
  go_ret2
  exact ⟨rfl, h1⟩
end Go.Proofs.Ytkppjchapiidpaa
