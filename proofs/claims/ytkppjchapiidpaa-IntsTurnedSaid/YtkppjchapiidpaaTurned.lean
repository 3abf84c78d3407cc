/- Sums and products turned round are the same; what is added is taken away again; a number and its opposite have sum 0. No condition. -/
import Derived.Test.YtkppjchapiidpaaAwake
namespace Go.Proofs.Ytkppjchapiidpaa
open Go.RowKit
theorem add_in (a b : Int) (ha : InR a) (hb : InR b) (h : InR (a + b)) (w : World) :
    Calls Try.prog 11 #[.int .i64 a, .int .i64 b] w fun e w' => e = .returned (.tuple #[.int .i64 (a + b), .int .i64 0]) ∧ w' = w := by
  have c := add_c a b ha hb w
  rwa [fitV_in h, fitE_in h] at c
theorem add_out (a b : Int) (ha : InR a) (hb : InR b) (h : ¬ InR (a + b)) (w : World) :
    Calls Try.prog 11 #[.int .i64 a, .int .i64 b] w fun e w' => e = .returned (.tuple #[.int .i64 0, .int .i64 14]) ∧ w' = w := by
  have c := add_c a b ha hb w
  rwa [fitV_out h, fitE_out h] at c
theorem add_is (a b c : Int) (ha : InR a) (hb : InR b) (hc : InR c) (h : a + b = c) (w : World) :
    Calls Try.prog 11 #[.int .i64 a, .int .i64 b] w fun e w' => e = .returned (.tuple #[.int .i64 c, .int .i64 0]) ∧ w' = w := by
  subst h; exact add_in a b ha hb hc w
theorem sub_is (a b c : Int) (ha : InR a) (hb : InR b) (hc : InR c) (h : a - b = c) (w : World) :
    Calls Try.prog 13 #[.int .i64 a, .int .i64 b] w fun e w' => e = .returned (.tuple #[.int .i64 c, .int .i64 0]) ∧ w' = w := by
  subst h
  have k := sub_c a b ha hb w
  rwa [fitV_in hc, fitE_in hc] at k
theorem sub_out (a b : Int) (ha : InR a) (hb : InR b) (h : ¬ InR (a - b)) (w : World) :
    Calls Try.prog 13 #[.int .i64 a, .int .i64 b] w fun e w' => e = .returned (.tuple #[.int .i64 0, .int .i64 14]) ∧ w' = w := by
  have c := sub_c a b ha hb w
  rwa [fitV_out h, fitE_out h] at c
theorem neg_is (a c : Int) (ha : InR a) (hc : InR c) (h : -a = c) (w : World) :
    Calls Try.prog 17 #[.int .i64 a] w fun e w' => e = .returned (.tuple #[.int .i64 c, .int .i64 0]) ∧ w' = w := by
  subst h
  have k := neg_c a ha w
  rwa [fitV_in hc, fitE_in hc] at k
theorem neg_out (w : World) :
    Calls Try.prog 17 #[.int .i64 (-9223372036854775808)] w fun e w' => e = .returned (.tuple #[.int .i64 0, .int .i64 14]) ∧ w' = w := aw6 w
theorem mul_turn (a b : Int) (ha : InR a) (hb : InR b) (w : World) :
    Calls Try.prog 15 #[.int .i64 b, .int .i64 a] w fun e w' => e = .returned (.tuple #[.int .i64 (fitV (a * b)), .int .i64 (fitE (a * b))]) ∧ w' = w := by
  have c := mul_c b a hb ha w
  rwa [Int.mul_comm b a] at c
set_option maxHeartbeats 1000000 in
theorem turned_in (a b : Int) (ha : InR a) (hb : InR b) (h : InR (a + b)) (hm : Hid (a ≠ -9223372036854775808)) (w : World) :
    Calls Try.prog 7 #[.int .i64 a, .int .i64 b] w fun e w' => e = .returned (.bool true) ∧ Grown w w' := by
  have hn : InR (-a) := by have := hm.out; unfold InR at *; omega
  go_enter Try.func7, Try.ntmps7
  go_wp2_with fail
  refine (awake_c _).mono ?_
  rintro e w1 ⟨rfl, hg⟩
  go_wp2_with fail
  refine (add_in a b ha hb h _).mono ?_
  rintro e w' ⟨rfl, rfl⟩
  go_wp2_with fail
  refine (add_is b a (a + b) hb ha h (by omega) _).mono ?_
  rintro e w' ⟨rfl, rfl⟩
  go_wp2_with fail
  refine (mul_c a b ha hb _).mono ?_
  rintro e w' ⟨rfl, rfl⟩
  go_wp2_with fail
  refine (mul_turn a b ha hb _).mono ?_
  rintro e w' ⟨rfl, rfl⟩
  go_wp2_with fail
  refine (sub_is (a + b) b a h hb ha (by omega) _).mono ?_
  rintro e w' ⟨rfl, rfl⟩
  go_wp2_with fail
  refine (neg_is a (-a) ha hn rfl _).mono ?_
  rintro e w' ⟨rfl, rfl⟩
  go_wp2_with fail
  refine (add_is a (-a) 0 ha hn ⟨by decide, by decide⟩ (by omega) _).mono ?_
  rintro e w' ⟨rfl, rfl⟩
  go_wp2_with fail
  go_ret
  exact ⟨rfl, hg⟩
set_option maxHeartbeats 1000000 in
theorem turned_out (a b : Int) (ha : InR a) (hb : InR b) (h : ¬ InR (a + b)) (hm : Hid (a ≠ -9223372036854775808)) (w : World) :
    Calls Try.prog 7 #[.int .i64 a, .int .i64 b] w fun e w' => e = .returned (.bool true) ∧ Grown w w' := by
  have hn : InR (-a) := by have := hm.out; unfold InR at ha ⊢; omega
  have H := Lib.hid h
  clear h
  go_enter Try.func7, Try.ntmps7
  go_wp2_with fail
  refine (awake_c _).mono ?_
  rintro e w1 ⟨rfl, hg⟩
  go_wp2_with fail
  refine (add_out a b ha hb H.out _).mono ?_
  rintro e w' ⟨rfl, rfl⟩
  go_wp2_with fail
  refine (add_out b a hb ha (by rw [Int.add_comm]; exact H.out) _).mono ?_
  rintro e w' ⟨rfl, rfl⟩
  go_wp2_with fail
  refine (mul_c a b ha hb _).mono ?_
  rintro e w' ⟨rfl, rfl⟩
  go_wp2_with fail
  refine (mul_turn a b ha hb _).mono ?_
  rintro e w' ⟨rfl, rfl⟩
  go_wp2_with fail
  refine (neg_is a (-a) ha hn rfl _).mono ?_
  rintro e w' ⟨rfl, rfl⟩
  go_wp2_with fail
  refine (add_is a (-a) 0 ha hn ⟨by decide, by decide⟩ (by omega) _).mono ?_
  rintro e w' ⟨rfl, rfl⟩
  go_wp2_with fail
  go_ret
  exact ⟨rfl, hg⟩
set_option maxHeartbeats 1000000 in
theorem turned_least (b : Int) (hb : InR b) (w : World) :
    Calls Try.prog 7 #[.int .i64 (-9223372036854775808), .int .i64 b] w fun e w' => e = .returned (.bool true) ∧ Grown w w' := by
  have ha : InR (-9223372036854775808) := ⟨by decide, by decide⟩
  by_cases h : InR (-9223372036854775808 + b)
  · go_enter Try.func7, Try.ntmps7
    go_wp2_with fail
    refine (awake_c _).mono ?_
    rintro e w1 ⟨rfl, hg⟩
    go_wp2_with fail
    refine (add_in _ b ha hb h _).mono ?_
    rintro e w' ⟨rfl, rfl⟩
    go_wp2_with fail
    refine (add_is b _ (-9223372036854775808 + b) hb ha h (by omega) _).mono ?_
    rintro e w' ⟨rfl, rfl⟩
    go_wp2_with fail
    refine (mul_c _ b ha hb _).mono ?_
    rintro e w' ⟨rfl, rfl⟩
    go_wp2_with fail
    refine (mul_turn _ b ha hb _).mono ?_
    rintro e w' ⟨rfl, rfl⟩
    go_wp2_with fail
    refine (sub_is (-9223372036854775808 + b) b (-9223372036854775808) h hb ha (by omega) _).mono ?_
    rintro e w' ⟨rfl, rfl⟩
    go_wp2_with fail
    refine (neg_out _).mono ?_
    rintro e w' ⟨rfl, rfl⟩
    go_wp2_with fail
    go_ret
    exact ⟨rfl, hg⟩
  · have H := Lib.hid h
    clear h
    go_enter Try.func7, Try.ntmps7
    go_wp2_with fail
    refine (awake_c _).mono ?_
    rintro e w1 ⟨rfl, hg⟩
    go_wp2_with fail
    refine (add_out _ b ha hb H.out _).mono ?_
    rintro e w' ⟨rfl, rfl⟩
    go_wp2_with fail
    refine (add_out b _ hb ha (by rw [Int.add_comm]; exact H.out) _).mono ?_
    rintro e w' ⟨rfl, rfl⟩
    go_wp2_with fail
    refine (mul_c _ b ha hb _).mono ?_
    rintro e w' ⟨rfl, rfl⟩
    go_wp2_with fail
    refine (mul_turn _ b ha hb _).mono ?_
    rintro e w' ⟨rfl, rfl⟩
    go_wp2_with fail
    refine (neg_out _).mono ?_
    rintro e w' ⟨rfl, rfl⟩
    go_wp2_with fail
    go_ret
    exact ⟨rfl, hg⟩
theorem intsTurned_walk (a0 : Int) (a1 : Int) (w0 : (Lit.int .i64 a0).wf = true) (w1 : (Lit.int .i64 a1).wf = true) (w : World) :
    Calls Try.prog 7 #[.int .i64 a0, .int .i64 a1] w fun e w' => e = .returned (.bool true) ∧ Grown w w' := by
  have ha : InR a0 := bounds_i64 w0
  have hb : InR a1 := bounds_i64 w1
  by_cases hm : a0 = -9223372036854775808
  · subst hm; exact turned_least a1 hb w
  · by_cases h : InR (a0 + a1)
    · exact turned_in a0 a1 ha hb h (Lib.hid hm) w
    · exact turned_out a0 a1 ha hb h (Lib.hid hm) w
end Go.Proofs.Ytkppjchapiidpaa
