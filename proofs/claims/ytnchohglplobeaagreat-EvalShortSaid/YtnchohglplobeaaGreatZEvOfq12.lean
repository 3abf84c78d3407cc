/- The operators of numbers. Condition: the numbers are of 64 bits. -/
import Derived.Test.YtnchohglplobeaaGreatZg22
set_option linter.unusedVariables false
set_option linter.unusedSimpArgs false
set_option linter.unnecessarySimpa false
namespace Go.Proofs.YtnchohglplobeaaGreat
open Go.RowKit Go.Sort Go.Maps
set_option maxRecDepth 100000 in
set_option maxHeartbeats 4000000 in
theorem opf9_c (x y : Int) (hx : InR x) (hy : InR y) (w : World) (b p cap : Nat) (h0 : w.cell? ⟨b, p, none⟩ = some (.int .i64 x)) (h1 : w.cell? ⟨b, p + 1, none⟩ = some (.int .i64 y)) : Calls Tryz.prog 52 #[.slice (some ⟨b, p, none⟩) 2 cap] w (VR none (fun _ => False) ((0, truV (decide (x < y)))) w) := by
 obtain ⟨q, hq⟩ : ∃ q, q = decide (x < y) := ⟨_, rfl⟩
 rw [← hq]
 have HT := Lib.hid (fun W => truth_c q W)
 have HQ := Lib.hid hq
 have H0 := Lib.hid h0
 have H1 := Lib.hid h1
 clear h0 h1 hq hx hy
 obtain ⟨U, HU, LU, ZU, BR⟩ := boxes1 w [.int .i64 0, .bool false, .int .i64 0, .string ⟨#[]⟩, .string ⟨#[]⟩, .string ⟨#[]⟩, .slice none 0 0, .slice none 0 0] 27
 go_enter Tryz.func52, Tryz.ntmps52
 go_upto_region 1 with fail
 rw [← HU.out]
 clear HU
 have h0 := (low_drew LU.out).keep H0.out
 have h1 := (low_drew LU.out).keep H1.out
 go_region_with (go_at_call 53; rw [← HQ.out]; refine (HT.out _).mono ?_; rintro e w1 ⟨rfl, g⟩; have HG := Lib.hid ((low_drew (Low.refl U)).trans g.low); clear g HT h0 h1; obtain ⟨z0, z1, z2, z3, z4, z5, z6, z7⟩ := (BR.out.low HG.out).at8; obtain ⟨f0, f1, f2, f3, f4, f5, f6, f7⟩ := (BR.out.low HG.out).op8)
 all_goals
  go_wp2_with fail
  refine bodyPost_ret (v := .tuple #[trV q, .int .i64 0]) (by simp [results, Tryz.results52, go_sem, World.cell?_setCell_same', z0, z1, z2, z3, z4, z5, z6, z7]; try rfl) rfl ?_
  exact vr_tru ((Go.ofN (LU.out.trans HG.out)).k (k := w.heap.size) (kept8 _ _ _ _ _ _ _ _ _ _) (by omega))
set_option maxRecDepth 100000 in
set_option maxHeartbeats 4000000 in
theorem opf10_c (x y : Int) (hx : InR x) (hy : InR y) (w : World) (b p cap : Nat) (h0 : w.cell? ⟨b, p, none⟩ = some (.int .i64 x)) (h1 : w.cell? ⟨b, p + 1, none⟩ = some (.int .i64 y)) : Calls Tryz.prog 54 #[.slice (some ⟨b, p, none⟩) 2 cap] w (VR none (fun _ => False) ((0, truV (decide (x ≤ y)))) w) := by
 obtain ⟨q, hq⟩ : ∃ q, q = decide (x ≤ y) := ⟨_, rfl⟩
 rw [← hq]
 have HT := Lib.hid (fun W => truth_c q W)
 have HQ := Lib.hid hq
 have H0 := Lib.hid h0
 have H1 := Lib.hid h1
 clear h0 h1 hq hx hy
 obtain ⟨U, HU, LU, ZU, BR⟩ := boxes1 w [.int .i64 0, .bool false, .int .i64 0, .string ⟨#[]⟩, .string ⟨#[]⟩, .string ⟨#[]⟩, .slice none 0 0, .slice none 0 0] 27
 go_enter Tryz.func54, Tryz.ntmps54
 go_upto_region 1 with fail
 rw [← HU.out]
 clear HU
 have h0 := (low_drew LU.out).keep H0.out
 have h1 := (low_drew LU.out).keep H1.out
 go_region_with (go_at_call 53; rw [← HQ.out]; refine (HT.out _).mono ?_; rintro e w1 ⟨rfl, g⟩; have HG := Lib.hid ((low_drew (Low.refl U)).trans g.low); clear g HT h0 h1; obtain ⟨z0, z1, z2, z3, z4, z5, z6, z7⟩ := (BR.out.low HG.out).at8; obtain ⟨f0, f1, f2, f3, f4, f5, f6, f7⟩ := (BR.out.low HG.out).op8)
 all_goals
  go_wp2_with fail
  refine bodyPost_ret (v := .tuple #[trV q, .int .i64 0]) (by simp [results, Tryz.results54, go_sem, World.cell?_setCell_same', z0, z1, z2, z3, z4, z5, z6, z7]; try rfl) rfl ?_
  exact vr_tru ((Go.ofN (LU.out.trans HG.out)).k (k := w.heap.size) (kept8 _ _ _ _ _ _ _ _ _ _) (by omega))
set_option maxRecDepth 100000 in
set_option maxHeartbeats 4000000 in
theorem opf11_c (x y : Int) (hx : InR x) (hy : InR y) (w : World) (b p cap : Nat) (h0 : w.cell? ⟨b, p, none⟩ = some (.int .i64 x)) (h1 : w.cell? ⟨b, p + 1, none⟩ = some (.int .i64 y)) : Calls Tryz.prog 55 #[.slice (some ⟨b, p, none⟩) 2 cap] w (VR none (fun _ => False) (fitN (x + y)) w) := by
 have HA := Lib.hid (fun W => add_c x y hx hy W)
 have H0 := Lib.hid h0
 have H1 := Lib.hid h1
 clear h0 h1 hy hx
 by_cases hin : InR (x + y)
 ·have hf1 : fitV (x + y) = x + y := fitV_in hin
  have hf2 : fitE (x + y) = 0 := fitE_in hin
  have hp : fitN (x + y) = (0, numV (x + y)) := by unfold fitN; exact if_pos hin
  rw [hp]
  simp only [hf1, hf2] at HA
  generalize x + y = n at HA ⊢
  have HT := Lib.hid (fun W => number0_c n W)
  clear hin hf1 hf2 hp
  obtain ⟨U, HU, LU, ZU, BR⟩ := boxes1 w [.int .i64 0, .bool false, .int .i64 0, .string ⟨#[]⟩, .string ⟨#[]⟩, .string ⟨#[]⟩, .slice none 0 0, .slice none 0 0] 27
  go_enter Tryz.func55, Tryz.ntmps55
  go_upto_region 1 with fail
  rw [← HU.out]
  clear HU
  have h0 := (low_drew LU.out).keep H0.out
  have h1 := (low_drew LU.out).keep H1.out
  go_region_with (first | (go_at_call 57; refine (HA.out _).mono ?_; rintro e w0 ⟨rfl, rfl⟩) | (go_at_call 56; refine (HT.out _).mono ?_; rintro e w1 ⟨rfl, g⟩; have HG := Lib.hid ((low_drew (Low.refl U)).trans g.low); clear g HT h0 h1; obtain ⟨z0, z1, z2, z3, z4, z5, z6, z7⟩ := (BR.out.low HG.out).at8; obtain ⟨f0, f1, f2, f3, f4, f5, f6, f7⟩ := (BR.out.low HG.out).op8))
  all_goals
   go_wp2_with fail
   refine bodyPost_ret (v := .tuple #[nuV n, .int .i64 0]) (by simp [results, Tryz.results55, go_sem, World.cell?_setCell_same', z0, z1, z2, z3, z4, z5, z6, z7]; try rfl) rfl ?_
   exact vr_num ((Go.ofN (LU.out.trans HG.out)).k (k := w.heap.size) (kept8 _ _ _ _ _ _ _ _ _ _) (by omega))
 ·have hf1 : fitV (x + y) = 0 := fitV_out hin
  have hf2 : fitE (x + y) = 14 := fitE_out hin
  have hp : fitN (x + y) = (14, V0) := by unfold fitN; exact if_neg hin
  rw [hp]
  simp only [hf1, hf2] at HA
  have HT := Lib.hid (fun W => number14_c 0 W)
  clear hin hf1 hf2 hp
  obtain ⟨U, HU, LU, ZU, BR⟩ := boxes1 w [.int .i64 0, .bool false, .int .i64 0, .string ⟨#[]⟩, .string ⟨#[]⟩, .string ⟨#[]⟩, .slice none 0 0, .slice none 0 0] 27
  go_enter Tryz.func55, Tryz.ntmps55
  go_upto_region 1 with fail
  rw [← HU.out]
  clear HU
  have h0 := (low_drew LU.out).keep H0.out
  have h1 := (low_drew LU.out).keep H1.out
  go_region_with (first | (go_at_call 57; refine (HA.out _).mono ?_; rintro e w0 ⟨rfl, rfl⟩) | (go_at_call 56; refine (HT.out _).mono ?_; rintro e w1 ⟨rfl, g⟩; have HG := Lib.hid ((low_drew (Low.refl U)).trans g.low); clear g HT h0 h1; obtain ⟨z0, z1, z2, z3, z4, z5, z6, z7⟩ := (BR.out.low HG.out).at8; obtain ⟨f0, f1, f2, f3, f4, f5, f6, f7⟩ := (BR.out.low HG.out).op8))
  all_goals
   go_wp2_with fail
   refine bodyPost_ret (v := .tuple #[zeV, .int .i64 14]) (by simp [results, Tryz.results55, go_sem, World.cell?_setCell_same', z0, z1, z2, z3, z4, z5, z6, z7]; try rfl) rfl ?_
   exact vr_err ((Go.ofN (LU.out.trans HG.out)).k (k := w.heap.size) (kept8 _ _ _ _ _ _ _ _ _ _) (by omega))
set_option maxRecDepth 100000 in
set_option maxHeartbeats 4000000 in
theorem opf12_c (x y : Int) (hx : InR x) (hy : InR y) (w : World) (b p cap : Nat) (h0 : w.cell? ⟨b, p, none⟩ = some (.int .i64 x)) (h1 : w.cell? ⟨b, p + 1, none⟩ = some (.int .i64 y)) : Calls Tryz.prog 58 #[.slice (some ⟨b, p, none⟩) 2 cap] w (VR none (fun _ => False) (fitN (x - y)) w) := by
 have HA := Lib.hid (fun W => sub_c x y hx hy W)
 have H0 := Lib.hid h0
 have H1 := Lib.hid h1
 clear h0 h1 hy hx
 by_cases hin : InR (x - y)
 ·have hf1 : fitV (x - y) = x - y := fitV_in hin
  have hf2 : fitE (x - y) = 0 := fitE_in hin
  have hp : fitN (x - y) = (0, numV (x - y)) := by unfold fitN; exact if_pos hin
  rw [hp]
  simp only [hf1, hf2] at HA
  generalize x - y = n at HA ⊢
  have HT := Lib.hid (fun W => number0_c n W)
  clear hin hf1 hf2 hp
  obtain ⟨U, HU, LU, ZU, BR⟩ := boxes1 w [.int .i64 0, .bool false, .int .i64 0, .string ⟨#[]⟩, .string ⟨#[]⟩, .string ⟨#[]⟩, .slice none 0 0, .slice none 0 0] 27
  go_enter Tryz.func58, Tryz.ntmps58
  go_upto_region 1 with fail
  rw [← HU.out]
  clear HU
  have h0 := (low_drew LU.out).keep H0.out
  have h1 := (low_drew LU.out).keep H1.out
  go_region_with (first | (go_at_call 59; refine (HA.out _).mono ?_; rintro e w0 ⟨rfl, rfl⟩) | (go_at_call 56; refine (HT.out _).mono ?_; rintro e w1 ⟨rfl, g⟩; have HG := Lib.hid ((low_drew (Low.refl U)).trans g.low); clear g HT h0 h1; obtain ⟨z0, z1, z2, z3, z4, z5, z6, z7⟩ := (BR.out.low HG.out).at8; obtain ⟨f0, f1, f2, f3, f4, f5, f6, f7⟩ := (BR.out.low HG.out).op8))
  all_goals
   go_wp2_with fail
   refine bodyPost_ret (v := .tuple #[nuV n, .int .i64 0]) (by simp [results, Tryz.results58, go_sem, World.cell?_setCell_same', z0, z1, z2, z3, z4, z5, z6, z7]; try rfl) rfl ?_
   exact vr_num ((Go.ofN (LU.out.trans HG.out)).k (k := w.heap.size) (kept8 _ _ _ _ _ _ _ _ _ _) (by omega))
 ·have hf1 : fitV (x - y) = 0 := fitV_out hin
  have hf2 : fitE (x - y) = 14 := fitE_out hin
  have hp : fitN (x - y) = (14, V0) := by unfold fitN; exact if_neg hin
  rw [hp]
  simp only [hf1, hf2] at HA
  have HT := Lib.hid (fun W => number14_c 0 W)
  clear hin hf1 hf2 hp
  obtain ⟨U, HU, LU, ZU, BR⟩ := boxes1 w [.int .i64 0, .bool false, .int .i64 0, .string ⟨#[]⟩, .string ⟨#[]⟩, .string ⟨#[]⟩, .slice none 0 0, .slice none 0 0] 27
  go_enter Tryz.func58, Tryz.ntmps58
  go_upto_region 1 with fail
  rw [← HU.out]
  clear HU
  have h0 := (low_drew LU.out).keep H0.out
  have h1 := (low_drew LU.out).keep H1.out
  go_region_with (first | (go_at_call 59; refine (HA.out _).mono ?_; rintro e w0 ⟨rfl, rfl⟩) | (go_at_call 56; refine (HT.out _).mono ?_; rintro e w1 ⟨rfl, g⟩; have HG := Lib.hid ((low_drew (Low.refl U)).trans g.low); clear g HT h0 h1; obtain ⟨z0, z1, z2, z3, z4, z5, z6, z7⟩ := (BR.out.low HG.out).at8; obtain ⟨f0, f1, f2, f3, f4, f5, f6, f7⟩ := (BR.out.low HG.out).op8))
  all_goals
   go_wp2_with fail
   refine bodyPost_ret (v := .tuple #[zeV, .int .i64 14]) (by simp [results, Tryz.results58, go_sem, World.cell?_setCell_same', z0, z1, z2, z3, z4, z5, z6, z7]; try rfl) rfl ?_
   exact vr_err ((Go.ofN (LU.out.trans HG.out)).k (k := w.heap.size) (kept8 _ _ _ _ _ _ _ _ _ _) (by omega))
set_option maxRecDepth 100000 in
set_option maxHeartbeats 4000000 in
theorem opf13_c (x y : Int) (hx : InR x) (hy : InR y) (w : World) (b p cap : Nat) (h0 : w.cell? ⟨b, p, none⟩ = some (.int .i64 x)) (h1 : w.cell? ⟨b, p + 1, none⟩ = some (.int .i64 y)) : Calls Tryz.prog 60 #[.slice (some ⟨b, p, none⟩) 2 cap] w (VR none (fun _ => False) (fitN (x * y)) w) := by
 have HA := Lib.hid (fun W => mul_c x y hx hy W)
 have H0 := Lib.hid h0
 have H1 := Lib.hid h1
 clear h0 h1 hy hx
 by_cases hin : InR (x * y)
 ·have hf1 : fitV (x * y) = x * y := fitV_in hin
  have hf2 : fitE (x * y) = 0 := fitE_in hin
  have hp : fitN (x * y) = (0, numV (x * y)) := by unfold fitN; exact if_pos hin
  rw [hp]
  simp only [hf1, hf2] at HA
  generalize x * y = n at HA ⊢
  have HT := Lib.hid (fun W => number0_c n W)
  clear hin hf1 hf2 hp
  obtain ⟨U, HU, LU, ZU, BR⟩ := boxes1 w [.int .i64 0, .bool false, .int .i64 0, .string ⟨#[]⟩, .string ⟨#[]⟩, .string ⟨#[]⟩, .slice none 0 0, .slice none 0 0] 27
  go_enter Tryz.func60, Tryz.ntmps60
  go_upto_region 1 with fail
  rw [← HU.out]
  clear HU
  have h0 := (low_drew LU.out).keep H0.out
  have h1 := (low_drew LU.out).keep H1.out
  go_region_with (first | (go_at_call 61; refine (HA.out _).mono ?_; rintro e w0 ⟨rfl, rfl⟩) | (go_at_call 56; refine (HT.out _).mono ?_; rintro e w1 ⟨rfl, g⟩; have HG := Lib.hid ((low_drew (Low.refl U)).trans g.low); clear g HT h0 h1; obtain ⟨z0, z1, z2, z3, z4, z5, z6, z7⟩ := (BR.out.low HG.out).at8; obtain ⟨f0, f1, f2, f3, f4, f5, f6, f7⟩ := (BR.out.low HG.out).op8))
  all_goals
   go_wp2_with fail
   refine bodyPost_ret (v := .tuple #[nuV n, .int .i64 0]) (by simp [results, Tryz.results60, go_sem, World.cell?_setCell_same', z0, z1, z2, z3, z4, z5, z6, z7]; try rfl) rfl ?_
   exact vr_num ((Go.ofN (LU.out.trans HG.out)).k (k := w.heap.size) (kept8 _ _ _ _ _ _ _ _ _ _) (by omega))
 ·have hf1 : fitV (x * y) = 0 := fitV_out hin
  have hf2 : fitE (x * y) = 14 := fitE_out hin
  have hp : fitN (x * y) = (14, V0) := by unfold fitN; exact if_neg hin
  rw [hp]
  simp only [hf1, hf2] at HA
  have HT := Lib.hid (fun W => number14_c 0 W)
  clear hin hf1 hf2 hp
  obtain ⟨U, HU, LU, ZU, BR⟩ := boxes1 w [.int .i64 0, .bool false, .int .i64 0, .string ⟨#[]⟩, .string ⟨#[]⟩, .string ⟨#[]⟩, .slice none 0 0, .slice none 0 0] 27
  go_enter Tryz.func60, Tryz.ntmps60
  go_upto_region 1 with fail
  rw [← HU.out]
  clear HU
  have h0 := (low_drew LU.out).keep H0.out
  have h1 := (low_drew LU.out).keep H1.out
  go_region_with (first | (go_at_call 61; refine (HA.out _).mono ?_; rintro e w0 ⟨rfl, rfl⟩) | (go_at_call 56; refine (HT.out _).mono ?_; rintro e w1 ⟨rfl, g⟩; have HG := Lib.hid ((low_drew (Low.refl U)).trans g.low); clear g HT h0 h1; obtain ⟨z0, z1, z2, z3, z4, z5, z6, z7⟩ := (BR.out.low HG.out).at8; obtain ⟨f0, f1, f2, f3, f4, f5, f6, f7⟩ := (BR.out.low HG.out).op8))
  all_goals
   go_wp2_with fail
   refine bodyPost_ret (v := .tuple #[zeV, .int .i64 14]) (by simp [results, Tryz.results60, go_sem, World.cell?_setCell_same', z0, z1, z2, z3, z4, z5, z6, z7]; try rfl) rfl ?_
   exact vr_err ((Go.ofN (LU.out.trans HG.out)).k (k := w.heap.size) (kept8 _ _ _ _ _ _ _ _ _ _) (by omega))
set_option maxRecDepth 100000 in
set_option maxHeartbeats 4000000 in
theorem opf14_c (x : Int) (hx : InR x) (w : World) (b p cap : Nat) (h0 : w.cell? ⟨b, p, none⟩ = some (.int .i64 x)) : Calls Tryz.prog 62 #[.slice (some ⟨b, p, none⟩) 1 cap] w (VR none (fun _ => False) (fitN (-x)) w) := by
 have HA := Lib.hid (fun W => neg_c x hx W)
 have H0 := Lib.hid h0
 clear h0 hx
 by_cases hin : InR (-x)
 ·have hf1 : fitV (-x) = -x := fitV_in hin
  have hf2 : fitE (-x) = 0 := fitE_in hin
  have hp : fitN (-x) = (0, numV (-x)) := by unfold fitN; exact if_pos hin
  rw [hp]
  simp only [hf1, hf2] at HA
  generalize -x = n at HA ⊢
  have HT := Lib.hid (fun W => number0_c n W)
  clear hin hf1 hf2 hp
  obtain ⟨U, HU, LU, ZU, BR⟩ := boxes1 w [.int .i64 0, .bool false, .int .i64 0, .string ⟨#[]⟩, .string ⟨#[]⟩, .string ⟨#[]⟩, .slice none 0 0, .slice none 0 0] 27
  go_enter Tryz.func62, Tryz.ntmps62
  go_upto_region 1 with fail
  rw [← HU.out]
  clear HU
  have h0 := (LU.out).keep H0.out
  go_wp2_with (first | (go_at_call 63; refine (HA.out _).mono ?_; rintro e w0 ⟨rfl, rfl⟩) | (go_at_call 56; refine (HT.out _).mono ?_; rintro e w1 ⟨rfl, g⟩; have HG := Lib.hid (g.low); clear g HT h0; obtain ⟨z0, z1, z2, z3, z4, z5, z6, z7⟩ := (BR.out.low HG.out).at8; obtain ⟨f0, f1, f2, f3, f4, f5, f6, f7⟩ := (BR.out.low HG.out).op8))
  refine bodyPost_ret (v := .tuple #[nuV n, .int .i64 0]) (by simp [results, Tryz.results62, go_sem, World.cell?_setCell_same', z0, z1, z2, z3, z4, z5, z6, z7]; try rfl) rfl ?_
  exact vr_num ((Go.ofN (LU.out.trans HG.out)).k (k := w.heap.size) (kept8 _ _ _ _ _ _ _ _ _ _) (by omega))
 ·have hf1 : fitV (-x) = 0 := fitV_out hin
  have hf2 : fitE (-x) = 14 := fitE_out hin
  have hp : fitN (-x) = (14, V0) := by unfold fitN; exact if_neg hin
  rw [hp]
  simp only [hf1, hf2] at HA
  have HT := Lib.hid (fun W => number14_c 0 W)
  clear hin hf1 hf2 hp
  obtain ⟨U, HU, LU, ZU, BR⟩ := boxes1 w [.int .i64 0, .bool false, .int .i64 0, .string ⟨#[]⟩, .string ⟨#[]⟩, .string ⟨#[]⟩, .slice none 0 0, .slice none 0 0] 27
  go_enter Tryz.func62, Tryz.ntmps62
  go_upto_region 1 with fail
  rw [← HU.out]
  clear HU
  have h0 := (LU.out).keep H0.out
  go_wp2_with (first | (go_at_call 63; refine (HA.out _).mono ?_; rintro e w0 ⟨rfl, rfl⟩) | (go_at_call 56; refine (HT.out _).mono ?_; rintro e w1 ⟨rfl, g⟩; have HG := Lib.hid (g.low); clear g HT h0; obtain ⟨z0, z1, z2, z3, z4, z5, z6, z7⟩ := (BR.out.low HG.out).at8; obtain ⟨f0, f1, f2, f3, f4, f5, f6, f7⟩ := (BR.out.low HG.out).op8))
  refine bodyPost_ret (v := .tuple #[zeV, .int .i64 14]) (by simp [results, Tryz.results62, go_sem, World.cell?_setCell_same', z0, z1, z2, z3, z4, z5, z6, z7]; try rfl) rfl ?_
  exact vr_err ((Go.ofN (LU.out.trans HG.out)).k (k := w.heap.size) (kept8 _ _ _ _ _ _ _ _ _ _) (by omega))
end Go.Proofs.YtnchohglplobeaaGreat
