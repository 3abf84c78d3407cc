/- Both rows of words are the same; the document's examples of layer 7 hold. Condition: the table of marks is as it was laid. -/
import Derived.Test.YtdblkjcimegoeaaDoorLexV
namespace Go.Proofs.YtdblkjcimegoeaaDoor
open Go.RowKit
theorem row_cells {t : TypeId} {B : Nat} {w : World} {v : Value} {l : List Wd} (h : OwnR t 4 encW B w v l) (hl : 0 < l.length) :
    ∃ g cap, v = .slice (some ⟨g, 0, none⟩) l.length cap ∧ l.length ≤ cap ∧ g < w.heap.size ∧ ∀ j (hj : j < l.length), w.cell? ⟨g, j * 4, none⟩ = some (.int .i64 l[j].k) ∧ w.cell? ⟨g, j * 4 + 1, none⟩ = some (.string ⟨l[j].t.toArray⟩) ∧ w.cell? ⟨g, j * 4 + 2, none⟩ = some (.int .i64 l[j].n) ∧ w.cell? ⟨g, j * 4 + 3, none⟩ = some (.int .i64 (l[j].a : Int)) := by
  obtain ⟨ao, cap, rfl, h1, h2, h3⟩ := h.shape
  rcases h3 with h0 | ⟨g, rfl, hb, hg⟩
  · rw [h0] at hl; exact absurd hl (Nat.not_lt_zero _)
  · refine ⟨g, cap, rfl, h1, hg, fun j hj => ?_⟩
    have k := fun c (hc : c < 4) => OwnR.cell encW_len h j c hj hc
    exact ⟨k 0 (by decide), k 1 (by decide), k 2 (by decide), k 3 (by decide)⟩
set_option maxHeartbeats 1600000 in
theorem same_c (B1 B2 : Nat) (v1 v2 : Value) (l : List Wd) (hlen : l.length ≤ 1000000) (w : World) (h1 : OwnW B1 w v1 l) (h2 : OwnX B2 w v2 l) :
    Calls Tryd.prog 11 #[v1, v2] w fun e w' => e = .returned (.bool true) ∧ Low w w' := by
  by_cases h0 : 0 < l.length
  · obtain ⟨g1, c1, rfl, hc1, hg1, k1⟩ := row_cells h1 h0
    obtain ⟨g2, c2, rfl, hc2, hg2, k2⟩ := row_cells h2 h0
    have K1 := Lib.hid k1
    have K2 := Lib.hid k2
    clear h1 h2 k1 k2
    go_enter Tryd.func11, Tryd.ntmps11
    go_wp2_with fail
    go_loopg [5] l.length (fun gk vi wr => ∃ i : Nat, vi = .int .i64 (i : Int) ∧ i ≤ l.length ∧ l.length - i ≤ gk ∧ Hid (Low w wr))
    case atStart => exact ⟨0, rfl, Nat.zero_le _, Nat.le_refl _, Lib.hid (Low.refl _)⟩
    case round =>
      obtain ⟨i, rfl, hi, hg, G⟩ := hrel
      by_cases hlt : i < l.length
      · have z1 : (i : Int) < (l.length : Int) := by omega
        obtain ⟨a0, a1, a2, a3⟩ := K1.out i hlt
        obtain ⟨b0, b1, b2, b3⟩ := K2.out i hlt
        have a0 := G.out.keep a0
        have a1 := G.out.keep a1
        have a2 := G.out.keep a2
        have a3 := G.out.keep a3
        have b0 := G.out.keep b0
        have b1 := G.out.keep b1
        have b2 := G.out.keep b2
        have b3 := G.out.keep b3
        obtain ⟨wk, wt, wn, wa⟩ := l[i]
        go_wp2_with fail
        go_quiet (fail)
        go_wp2_with fail
        go_roundg (l.length - (i + 1))
        case measure => omega
        case rel => exact ⟨i + 1, by go_num, by omega, by omega, Lib.hid (G.out.trans (Low.drewN _ _))⟩
      · have z1 : ¬ (i : Int) < (l.length : Int) := by omega
        go_wp2_with fail
        go_ret
        exact ⟨rfl, G.out⟩
  · have hl0 : l = [] := List.eq_nil_of_length_eq_zero (by omega)
    subst hl0
    obtain ⟨ao, cp, rfl, s1, s2, s3⟩ := OwnR.shape h1
    obtain ⟨bo, dp, rfl, t1, t2, t3⟩ := OwnR.shape h2
    clear s3 t3 h1 h2
    go_enter Tryd.func11, Tryd.ntmps11
    go_wp2_with fail
    refine wp_loop_rounds 1 ?_
    rw [rounds_succ]
    go_wp2_with fail
    go_ret
    exact ⟨rfl, Low.refl _⟩
theorem aw1 (w : World) (hm : MkAt w) : Calls Tryd.prog 9 #[.string ⟨#[97, 32, 61, 61, 32, 34, 98, 34]⟩] w fun e w' => ∃ g cap : Nat, e = .returned (.tuple #[.slice (some ⟨g, 0, none⟩) 4 cap, .int .i64 0, .int .i64 0]) ∧ 4 ≤ cap ∧
    (w'.cell? ⟨g, 0, none⟩ = some (.int .i64 1) ∧ w'.cell? ⟨g, 5, none⟩ = some (.string ⟨#[61, 61]⟩) ∧ w'.cell? ⟨g, 9, none⟩ = some (.string ⟨#[98]⟩) ∧ w'.cell? ⟨g, 12, none⟩ = some (.int .i64 0) ∧ w'.cell? ⟨g, 15, none⟩ = some (.int .i64 8)) ∧ Low w w' := by
  refine (words_c _ (by decide) w hm).mono ?_
  rintro e w' ⟨v, rfl, hown, hl⟩
  have R : lexL (ByteArray.mk #[97, 32, 61, 61, 32, 34, 98, 34]).data.toList = (0, 0, [⟨1, [97], 0, 0⟩, ⟨5, [61, 61], 0, 2⟩, ⟨3, [98], 0, 5⟩, ⟨0, [], 0, 8⟩]) := by decide +kernel
  rw [R] at hown ⊢
  obtain ⟨g, cap, rfl, hc, hg, k⟩ := row_cells hown (by decide)
  exact ⟨g, cap, rfl, hc, ⟨(k 0 (by decide)).1, (k 1 (by decide)).2.1, (k 2 (by decide)).2.1, (k 3 (by decide)).1, (k 3 (by decide)).2.2.2⟩, hl⟩
theorem aw2 (w : World) (hm : MkAt w) : Calls Tryd.prog 9 #[.string ⟨#[48, 48, 55]⟩] w fun e w' => ∃ v, e = .returned (.tuple #[v, .int .i64 10, .int .i64 0]) ∧ Low w w' := by
  refine (words_c _ (by decide) w hm).mono ?_
  rintro e w' ⟨v, rfl, hown, hl⟩
  have R : lexL (ByteArray.mk #[48, 48, 55]).data.toList = (10, 0, []) := by decide +kernel
  rw [R]
  exact ⟨v, rfl, hl⟩
theorem aw3 (w : World) (hm : MkAt w) : Calls Tryd.prog 9 #[.string ⟨#[63, 120, 32, 47, 47, 32, 121, 10, 32, 49, 50]⟩] w fun e w' => ∃ g cap : Nat, e = .returned (.tuple #[.slice (some ⟨g, 0, none⟩) 3 cap, .int .i64 0, .int .i64 0]) ∧ 3 ≤ cap ∧
    (w'.cell? ⟨g, 0, none⟩ = some (.int .i64 4) ∧ w'.cell? ⟨g, 6, none⟩ = some (.int .i64 12)) ∧ Low w w' := by
  refine (words_c _ (by decide) w hm).mono ?_
  rintro e w' ⟨v, rfl, hown, hl⟩
  have R : lexL (ByteArray.mk #[63, 120, 32, 47, 47, 32, 121, 10, 32, 49, 50]).data.toList = (0, 0, [⟨4, [120], 0, 0⟩, ⟨2, [49, 50], 12, 9⟩, ⟨0, [], 0, 11⟩]) := by decide +kernel
  rw [R] at hown ⊢
  obtain ⟨g, cap, rfl, hc, hg, k⟩ := row_cells hown (by decide)
  exact ⟨g, cap, rfl, hc, ⟨(k 0 (by decide)).1, (k 1 (by decide)).2.2.1⟩, hl⟩
set_option maxRecDepth 100000 in
set_option maxHeartbeats 1600000 in
theorem awake7_c (w : World) (hm : MkAt w) : Calls Tryd.prog 8 #[] w fun e w' => e = .returned (.bool true) ∧ Low w w' := by
  have HM := Lib.hid hm
  clear hm
  go_enter Tryd.func8, Tryd.ntmps8
  go_wp2_with fail
  refine (aw1 _ HM.out).mono ?_
  rintro e w1 ⟨g1, c1, rfl, hc1, hk1, l1⟩
  have HK1 := Lib.hid hk1
  have L1 := Lib.hid l1
  clear hk1 l1
  go_wp2_with fail
  refine (aw2 _ (HM.out.low L1.out)).mono ?_
  rintro e w2 ⟨v2, rfl, l2⟩
  have L2 := Lib.hid l2
  clear l2
  go_wp2_with fail
  refine (aw3 _ ((HM.out.low L1.out).low L2.out)).mono ?_
  rintro e w3 ⟨g3, c3, rfl, hc3, ⟨b0, b1⟩, l3⟩
  have L3 := Lib.hid l3
  clear l3
  obtain ⟨a0, a1, a2, a3, a4⟩ := HK1.out
  have a0 := L3.out.keep (L2.out.keep a0)
  have a1 := L3.out.keep (L2.out.keep a1)
  have a2 := L3.out.keep (L2.out.keep a2)
  have a3 := L3.out.keep (L2.out.keep a3)
  have a4 := L3.out.keep (L2.out.keep a4)
  go_wp2_with fail
  go_ret
  exact ⟨rfl, (L1.out.trans L2.out).trans L3.out⟩
end Go.Proofs.YtdblkjcimegoeaaDoor
