/- The reference's row of attributes; it tells what the program's does. Conditions: small types. -/
import Derived.Test.YtijjbfdbhfjfmaaGrQ
import Derived.Test.YtijjbfdbhfjfmaaScC
import Derived.Test.YtijjbfdbhfjfmaaPathR
namespace Go.Proofs.Ytijjbfdbhfjfmaa
open Go.RowKit
set_option linter.unusedVariables false
theorem kn_st (h : ByteArray → Bool) : ∀ (n : Nat) (t : T), mayB n t = true → knB h n t = stB h n t
  | 0, _, hm => by rfl
  | n + 1, t, hm => by
    obtain ⟨h1, -, h3⟩ := mayB_succ.1 hm
    unfold mayH at h1
    obtain ⟨hk, -, -⟩ := of_decide_eq_true h1
    have e1 : decide (t.k < 3) = (decide (t.k = 0) || decide (t.k = 1) || decide (t.k = 2)) := by
      rw [Bool.eq_iff_iff]; simp only [Bool.or_eq_true, decide_eq_true_iff]; omega
    have e2 : t.l.all (knB h n) = t.l.all (stB h n) := by
      rw [Bool.eq_iff_iff, List.all_eq_true, List.all_eq_true]
      exact ⟨fun k x hx => by rw [← kn_st h n x (h3 x (ins_l hx))]; exact k x hx, fun k x hx => by rw [kn_st h n x (h3 x (ins_l hx))]; exact k x hx⟩
    have e3 : (t.ats.all fun a => knB h n (aty a)) = t.ats.all fun a => stB h n (aty a) := by
      rw [Bool.eq_iff_iff, List.all_eq_true, List.all_eq_true]
      exact ⟨fun k x hx => by rw [← kn_st h n _ (h3 _ (ins_as hx))]; exact k x hx, fun k x hx => by rw [kn_st h n _ (h3 _ (ins_as hx))]; exact k x hx⟩
    rw [knB, stB, e1, e2, e3]
theorem row_same (h : ByteArray → Bool) (n : Nat) (l : List At) : (decide (chkE (n + 1) (recT l) = 0) && knB h (n + 1) (recT l)) = rowB h n l := by
  unfold rowB
  by_cases hc : chkE (n + 1) (recT l) = 0
  · rw [decide_eq_true hc, kn_st h (n + 1) (recT l) (chkE_ok.1 hc).2]
    rw [stB]
    simp [recT, T.k, T.l, T.ats]
  · rw [decide_eq_false hc]; rfl
set_option maxHeartbeats 1600000 in
theorem rrow_c (m : Nat) (ts : List Et) (n : Nat) (hn : n ≤ 100000) (l : List At) (w : World) (vt va v : Value) (h : EtsAt m w ts vt) (hr : RAs (fun _ => True) w n l v) : Calls Try.prog 34 #[.agg #[vt, va], v] w fun e w' => e = .returned (.bool (rowB (nmB (ts.map Et.r)) n l)) ∧ Low w w' := by
  obtain ⟨p, c, rfl, z1, z2⟩ := RowR.sl hr
  obtain ⟨U0, hU0⟩ : ∃ U, U = w.alloc (.cells #[vt, va] 25) := ⟨_, rfl⟩
  obtain ⟨U, hU⟩ : ∃ U, U = U0.alloc (.cells #[.int .i64 8, .string ⟨#[]⟩, .slice none 0 0, .slice p l.length c] 55) := ⟨_, rfl⟩
  have s0 : U0.heap.size = w.heap.size + 1 := by rw [hU0]; simp
  have l0 : Low U0 U := by rw [hU]; exact low_new (Low.refl _) _
  have LU := Lib.hid (show Low w U from (by rw [hU0]; exact low_new (Low.refl w) _ : Low w U0).trans l0)
  have HB := Lib.hid fun (W : World) (l2 : Low U W) => box2 (w := w) (wr := W) (c0 := vt) (c1 := va) (t := 25) (by rw [← hU0]; exact l0.trans l2)
  have HT := Lib.hid fun (W : World) (l2 : Low U W) => (by rw [← s0]; exact low_box (w := U0) (wr := W) (c0 := .int .i64 8) (c1 := .string ⟨#[]⟩) (c2 := .slice none 0 0) (c3 := .slice p l.length c) (t := 55) (by rw [← hU]; exact l2) : W.cell? ⟨w.heap.size + 1, 0, none⟩ = some (.int .i64 8) ∧ W.cell? ⟨w.heap.size + 1, 1, none⟩ = some (.string ⟨#[]⟩) ∧ W.cell? ⟨w.heap.size + 1, 2, none⟩ = some (.slice none 0 0) ∧ W.cell? ⟨w.heap.size + 1, 3, none⟩ = some (.slice p l.length c))
  rw [hU0] at hU
  have HU := Lib.hid hU
  have HC := Lib.hid (rCheck_c (by omega) (recT l) U _ _ ((rec_rt hr).low LU.out))
  have HK := Lib.hid fun (W : World) (l2 : Low U W) => known_n m ts (n + 1) (recT l) W vt va _ _ (h.low (LU.out.trans l2)) ((rec_rt hr).low (LU.out.trans l2))
  obtain ⟨q1, hq1⟩ : ∃ q, q = chkE (n + 1) (recT l) := ⟨_, rfl⟩
  obtain ⟨q2, hq2⟩ : ∃ q, q = knB (nmB (ts.map Et.r)) (n + 1) (recT l) := ⟨_, rfl⟩
  rw [← hq1] at HC
  rw [← hq2] at HK
  obtain ⟨R, hR⟩ : ∃ R, R = rowB (nmB (ts.map Et.r)) n l := ⟨_, rfl⟩
  have HR := Lib.hid (show R = (decide (q1 = 0) && q2) by rw [hR, ← row_same, hq1, hq2])
  rw [← hR]
  unfold tv recT at HC HK
  clear hr h hq1 hq2 hR hU hU0 s0 l0
  obtain ⟨b0, b1⟩ := HB.out U (Low.refl U)
  obtain ⟨t0, t1, t2, t3⟩ := HT.out U (Low.refl U)
  go_enter Try.func34, Try.ntmps34
  go_upto_region 2 with fail
  rw [← HU.out]
  by_cases k : q1 = 0
  · have HR0 := Lib.hid (show R = q2 by rw [HR.out]; simp [k])
    subst k
    clear HR
    go_wp2_with fail
    refine HC.out.mono ?_
    rintro e w2 ⟨rfl, l2⟩
    have HA2 := Lib.hid (HK.out w2 l2)
    clear b0 b1 t0 t1 t2 t3
    obtain ⟨b0, b1⟩ := HB.out w2 l2
    obtain ⟨t0, t1, t2, t3⟩ := HT.out w2 l2
    have L2 := Lib.hid (LU.out.trans l2)
    clear l2
    go_wp2_with fail
    refine HA2.out.mono ?_
    rintro e w3 ⟨rfl, l3⟩
    go_wp2_with fail
    go_ret
    exact ⟨retB HR0.out.symm, L2.out.trans l3⟩
  · have HR0 := Lib.hid (show R = false by rw [HR.out]; simp [k])
    clear HR
    go_wp2_with fail
    refine HC.out.mono ?_
    rintro e w2 ⟨rfl, l2⟩
    go_wp2_with fail
    go_ret
    exact ⟨retB HR0.out.symm, LU.out.trans l2⟩
end Go.Proofs.Ytijjbfdbhfjfmaa
