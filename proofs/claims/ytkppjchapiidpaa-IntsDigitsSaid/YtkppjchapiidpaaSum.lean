/- The document's sum of numbers with signs. Conditions: sizes below 2^127. -/
import Derived.Test.YtkppjchapiidpaaNum
import Derived.Deep.RegionHeld3
import Derived.Deep.RegionWith
namespace Go.Proofs.Ytkppjchapiidpaa
open Go.RowKit
attribute [local go_sem] alloc_drewN setCell_drewN
theorem gcells {W w1 : World} (h : Grown W w1) : (∀ b o, b < W.heap.size → w1.cell? ⟨b, o, none⟩ = W.cell? ⟨b, o, none⟩) ∧ (∀ a, w1.frozen? a = W.frozen? a) :=
  ⟨fun _ _ hb => h.1.cell hb (fun f => f), h.2.1⟩
theorem plus_e (m n : Nat) (w : World) :
    Calls Try.prog 32 #[.agg #[.int .u64 (d3 m : Int), .int .u64 (d2 m : Int), .int .u64 (d1 m : Int), .int .u64 (d0 m : Int)], .agg #[.int .u64 (d3 n : Int), .int .u64 (d2 n : Int), .int .u64 (d1 n : Int), .int .u64 (d0 n : Int)]] w fun e w' => e = .returned (.agg #[.int .u64 (d3 (m + n) : Int), .int .u64 (d2 (m + n) : Int), .int .u64 (d1 (m + n) : Int), .int .u64 (d0 (m + n) : Int)]) ∧ Grown w w' := plus_c m n w
theorem minus_e (m n : Nat) (h : n ≤ m) (w : World) :
    Calls Try.prog 35 #[.agg #[.int .u64 (d3 m : Int), .int .u64 (d2 m : Int), .int .u64 (d1 m : Int), .int .u64 (d0 m : Int)], .agg #[.int .u64 (d3 n : Int), .int .u64 (d2 n : Int), .int .u64 (d1 n : Int), .int .u64 (d0 n : Int)]] w fun e w' => e = .returned (.agg #[.int .u64 (d3 (m - n) : Int), .int .u64 (d2 (m - n) : Int), .int .u64 (d1 (m - n) : Int), .int .u64 (d0 (m - n) : Int)]) ∧ Grown w w' := minus_c m n h w
theorem less_e (m n : Nat) (hm : m < 340282366920938463463374607431768211456) (hn : n < 340282366920938463463374607431768211456) (w : World) :
    Calls Try.prog 34 #[.agg #[.int .u64 (d3 m : Int), .int .u64 (d2 m : Int), .int .u64 (d1 m : Int), .int .u64 (d0 m : Int)], .agg #[.int .u64 (d3 n : Int), .int .u64 (d2 n : Int), .int .u64 (d1 n : Int), .int .u64 (d0 n : Int)]] w fun e w' => e = .returned (.bool (decide (m < n))) ∧ Grown w w' := less_c m n hm hn w
/-- A size of at most 128 bits. -/
def Fits (n : Nat) : Prop := n < 340282366920938463463374607431768211456
set_option maxHeartbeats 2000000 in
theorem sum_same (s : Bool) (m n : Nat) (w : World) :
    Calls Try.prog 24 #[NV s m, NV s n] w fun e w' => e = .returned (NV s (m + n)) ∧ Grown w w' := by
  unfold NV
  go_enter Try.func24, Try.ntmps24
  go_wp2_with fail
  go_region_with (go_at_call 32; refine (plus_e m n _).mono ?_; rintro e w1 ⟨rfl, hg⟩; obtain ⟨hc, hf⟩ := gcells hg; have hz : w.heap.size + 1 + 1 < w1.heap.size := Nat.lt_of_lt_of_le (by simp) hg.2.2)
  all_goals
    go_wp2
    refine bodyPost_ret (v := .agg #[.bool s, .int .u64 (d3 (m + n) : Int), .int .u64 (d2 (m + n) : Int), .int .u64 (d1 (m + n) : Int), .int .u64 (d0 (m + n) : Int)]) (by simp [results, Try.results24, go_sem, hc]; try rfl) rfl ⟨rfl, ?_⟩
    repeat (refine Grown.setCell ?_ (by show _ ≤ w.heap.size + 1 + 1; omega) _)
    refine grown_trans ?_ hg
    repeat (first | exact Grown.refl _ | apply Grown.drewN | apply Grown.drew | apply Grown.alloc)
end Go.Proofs.Ytkppjchapiidpaa
