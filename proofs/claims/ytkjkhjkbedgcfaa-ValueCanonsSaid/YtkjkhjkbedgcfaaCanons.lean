/- Any value as it must be is the reference's, or refused. No condition. -/
import Derived.Test.YtkjkhjkbedgcfaaRCanon
import Derived.Test.YtkjkhjkbedgcfaaFinds
namespace Go.Proofs.Ytkjkhjkbedgcfaa
open Go.RowKit Go.Sort
theorem low_boxN {w wr : World} {c0 c1 c2 c3 c4 c5 c6 c7 : Value} {t : TypeId} (n : Nat) (h : Low (w.alloc (.cells #[c0, c1, c2, c3, c4, c5, c6, c7] t)) wr) (hn : w.heap.size = n) :
    wr.cell? ⟨n, 0, none⟩ = some c0 ∧ wr.cell? ⟨n, 1, none⟩ = some c1 ∧ wr.cell? ⟨n, 2, none⟩ = some c2 ∧ wr.cell? ⟨n, 3, none⟩ = some c3 ∧ wr.cell? ⟨n, 4, none⟩ = some c4 ∧ wr.cell? ⟨n, 5, none⟩ = some c5 ∧ wr.cell? ⟨n, 6, none⟩ = some c6 ∧ wr.cell? ⟨n, 7, none⟩ = some c7 := by subst hn; exact low_box h
theorem low_boxB {w wr : World} {c0 c1 c2 c3 c4 c5 c6 c7 : Value} {t : TypeId} (n : Nat) (h : Low (w.alloc (.cells #[c0, c1, c2, c3, c4, c5, c6, c7] t)) wr) (hn : w.heap.size = n) :
    (∀ X, (wr.alloc X).cell? ⟨n, 0, none⟩ = some c0) ∧ (∀ X, (wr.alloc X).cell? ⟨n, 1, none⟩ = some c1) ∧ (∀ X, (wr.alloc X).cell? ⟨n, 2, none⟩ = some c2) ∧ (∀ X, (wr.alloc X).cell? ⟨n, 3, none⟩ = some c3) ∧ (∀ X, (wr.alloc X).cell? ⟨n, 4, none⟩ = some c4) ∧ (∀ X, (wr.alloc X).cell? ⟨n, 5, none⟩ = some c5) ∧ (∀ X, (wr.alloc X).cell? ⟨n, 6, none⟩ = some c6) ∧ (∀ X, (wr.alloc X).cell? ⟨n, 7, none⟩ = some c7) := by subst hn; exact low_boxA h
set_option maxHeartbeats 8000000 in
set_option maxRecDepth 100000 in
theorem valueCanons_v (v : V) (w : World) (vit vnm : Value) (hv : R w v vit vnm) : Calls Try.prog 3 #[av v.h vit vnm] w fun e w' => e = .returned (.bool true) ∧ Low w w' := by
  obtain ⟨vai, vci, van, vcn, rfl, rfl⟩ := r_slices hv
  have HV := Lib.hid hv
  clear hv
  have L0 := Lib.hid (Low.alloc (Low.refl w) (.cells #[.int .i64 v.h.k, .bool v.h.b, .int .i64 v.h.n, .string v.h.s, .string v.h.t, .string v.h.i, .slice vai v.l.length vci, .slice van v.ns.length vcn] 27))
  have Hv0 := Lib.hid (Low.refl (w.alloc (.cells #[.int .i64 v.h.k, .bool v.h.b, .int .i64 v.h.n, .string v.h.s, .string v.h.t, .string v.h.i, .slice vai v.l.length vci, .slice van v.ns.length vcn] 27)))
  unfold av
  go_enter Try.func3, Try.ntmps3
  go_wp2_with fail
  refine (awake_c _).mono ?_
  rintro e w1 ⟨rfl, l1⟩
  have Hv1 := Lib.hid (Hv0.out.trans l1)
  clear l1
  obtain ⟨vx0, vx1, vx2, vx3, vx4, vx5, vx6, vx7⟩ := low_boxN w.heap.size Hv1.out (by simp)
  go_wp2_with fail
  refine (few_c (dep v) v _ 0 _ _ _ (Nat.le_refl _) (HV.out.low (L0.out.trans Hv1.out)) (by decide) (by decide)).mono ?_
  rintro e w2 ⟨p, rfl, hp, g⟩
  have Hv2 := Lib.hid (Hv1.out.trans g.low)
  have HP := Lib.hid hp
  clear g hp
  clear vx0 vx1 vx2 vx3 vx4 vx5 vx6 vx7
  rcases p with _ | _
  · go_wp2_with fail
    go_ret
    exact ⟨rfl, L0.out.trans Hv2.out⟩
  obtain ⟨hsm, hdp⟩ := HP.out rfl
  have SM := Lib.hid hsm
  have DP := Lib.hid (show dep v ≤ 1000000 by omega)
  clear HP hsm hdp
  obtain ⟨vx0, vx1, vx2, vx3, vx4, vx5, vx6, vx7⟩ := low_boxN w.heap.size Hv2.out (by simp)
  go_wp2_with fail
  refine (size_c (dep v) v _ _ _ _ (Nat.le_refl _) (HV.out.low (L0.out.trans Hv2.out))).mono ?_
  rintro e w3 ⟨n1, rfl, g⟩
  have Hv3 := Lib.hid (Hv2.out.trans g.low)
  clear g
  clear vx0 vx1 vx2 vx3 vx4 vx5 vx6 vx7
  by_cases hn1 : 500 < n1
  · go_wp2_with fail
    go_ret
    exact ⟨rfl, L0.out.trans Hv3.out⟩
  obtain ⟨c, x, hq⟩ : ∃ c x, canD v = (c, x) := ⟨_, _, rfl⟩
  have HQ := Lib.hid hq
  clear hq
  obtain ⟨vx0, vx1, vx2, vx3, vx4, vx5, vx6, vx7⟩ := low_boxN w.heap.size Hv3.out (by simp)
  go_wp2_with fail
  have CN := Canon_c v _ _ _ (HV.out.low (L0.out.trans Hv3.out)) SM.out
  rw [HQ.out] at CN
  change Calls _ _ _ _ (CanPost x c _) at CN
  refine CN.mono ?_
  rintro e w4 ⟨aai, aci, aan, acn, rfl, hrep, g⟩
  have Hv4 := Lib.hid (Hv3.out.trans g)
  have RA := Lib.hid hrep.any
  clear g hrep CN
  clear vx0 vx1 vx2 vx3 vx4 vx5 vx6 vx7
  obtain ⟨vx0, vx1, vx2, vx3, vx4, vx5, vx6, vx7⟩ := low_boxB w.heap.size Hv4.out (by simp)
  go_wp2_with fail
  have Hv5 := Lib.hid (Hv4.out.trans (Low.alloc (Low.refl w4) (.cells #[.int .i64 x.h.k, .bool x.h.b, .int .i64 x.h.n, .string x.h.s, .string x.h.t, .string x.h.i, .slice aai x.l.length aci, .slice aan x.ns.length acn] 27)))
  have Ha0 := Lib.hid (Low.refl (w4.alloc (.cells #[.int .i64 x.h.k, .bool x.h.b, .int .i64 x.h.n, .string x.h.s, .string x.h.t, .string x.h.i, .slice aai x.l.length aci, .slice aan x.ns.length acn] 27)))
  have BA := Lib.hid (Low.alloc (Low.refl w4) (.cells #[.int .i64 x.h.k, .bool x.h.b, .int .i64 x.h.n, .string x.h.s, .string x.h.t, .string x.h.i, .slice aai x.l.length aci, .slice aan x.ns.length acn] 27))
  have CN := rCanon_c v _ _ _ (HV.out.low (L0.out.trans Hv5.out)) SM.out DP.out
  rw [HQ.out] at CN
  change Calls _ _ _ _ (CanPost x c _) at CN
  refine CN.mono ?_
  rintro e w5 ⟨bai, bci, ban, bcn, rfl, hrep, g⟩
  have Hv6 := Lib.hid (Hv5.out.trans g)
  have Ha6 := Lib.hid (Ha0.out.trans g)
  have RB := Lib.hid hrep.any
  have RA2 := Lib.hid (RA.out.low (BA.out.trans g))
  clear g hrep CN
  clear vx0 vx1 vx2 vx3 vx4 vx5 vx6 vx7
  obtain ⟨ax0, ax1, ax2, ax3, ax4, ax5, ax6, ax7⟩ := low_boxB w4.heap.size Ha6.out (by simp)
  go_wp2_with fail
  have BB := Lib.hid (Low.alloc (Low.refl w5) (.cells #[.int .i64 x.h.k, .bool x.h.b, .int .i64 x.h.n, .string x.h.s, .string x.h.t, .string x.h.i, .slice bai x.l.length bci, .slice ban x.ns.length bcn] 27))
  have CW := whole_c x x _ _ _ _ _ (RA2.out.low BB.out) (RB.out.low BB.out)
  rw [eqB_refl] at CW
  refine CW.mono ?_
  rintro e w6 ⟨rfl, g⟩
  have Hv7 := Lib.hid (Hv6.out.trans (BB.out.trans g.low))
  have Ha7 := Lib.hid (Ha6.out.trans (BB.out.trans g.low))
  go_wp2_with fail
  go_ret
  exact ⟨rfl, L0.out.trans Hv7.out⟩
end Go.Proofs.Ytkjkhjkbedgcfaa
