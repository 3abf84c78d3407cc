/- of at the operator 17. No condition. -/
import Derived.Test.YtnchohglplobeaaGreatZg20
set_option linter.unusedVariables false
set_option linter.unusedSimpArgs false
set_option linter.unnecessarySimpa false
namespace Go.Proofs.YtnchohglplobeaaGreat
open Go.RowKit Go.Sort Go.Maps
set_option maxRecDepth 100000 in
set_option maxHeartbeats 4000000 in
theorem of17_c (K : Rk) {A : Nat → Prop} (e : E) (ai : Option Addr) (ci : Nat) (an : Option Addr) (cn : Nat) (ak : Option Addr) (ck : Nat) (am : Option Addr) (cm : Nat) (x : V) (w : World) (p0 : Option Addr) (c0 : Nat) (hop : e.op = 17) (hks : RowAt A w [x] (.slice p0 1 c0)) (hA : ∀ b, A b → b < w.heap.size) (hX : K.X.at w) : Calls Tryz.prog 71 #[K.v, ex12 e ai ci an cn ak ck am cm, .slice p0 1 c0] w (VR K.X A (if (recE K.q x).1 = 30 then (30, V0) else (0, truV (decide (0 ≤ getI (recE K.q x).2 e.nm)))) w) := by
 have HXX := Lib.hid hX
 have HA := Lib.hid hA
 obtain ⟨xb, xo, xai, xci, xan, xcn, xp, xcs, xr⟩ := rowA_at hks (show 0 < _ by simp)
 simp only [List.getElem_cons_zero, List.getElem_cons_succ] at xcs xr
 subst xp
 have HCX := Lib.hid xcs
 have HC := Lib.hid fun W (l : Low w W) => has14_c K (A := A) x W xai xci xan xcn e.nm (fun b hb => Nat.lt_of_lt_of_le (hA b hb) l.size) (xr.low l) (Sx.low hX l)
 obtain ⟨p, hp⟩ : ∃ p : Int × V, p = (if (recE K.q x).1 = 30 then (30, V0) else (0, truV (decide (0 ≤ getI (recE K.q x).2 e.nm)))) := ⟨_, rfl⟩
 rw [← hp] at HC ⊢
 unfold VR at HC
 have HOP := Lib.hid hop
 clear hks hA hX hop hp xcs xr
 obtain ⟨U, HU, LU, ZU, BK, BE, BR⟩ := boxes3 w [.string K.pu.t, .string K.pu.i, .string K.au.t, .string K.au.i, .string K.ru.t, .string K.ru.i, .int .i64 K.c.h.k, .bool K.c.h.b, .int .i64 K.c.h.n, .string K.c.h.s, .string K.c.h.t, .string K.c.h.i, .slice K.ai K.c.l.length K.ci, .slice K.an K.c.ns.length K.cn, .pointer K.xp, .map (some K.mb)] 80 [.int .i64 e.op, .int .i64 e.v.h.k, .bool e.v.h.b, .int .i64 e.v.h.n, .string e.v.h.s, .string e.v.h.t, .string e.v.h.i, .slice ai e.v.l.length ci, .slice an e.v.ns.length cn, .string e.nm, .slice ak e.ks.length ck, .slice am e.ns.length cm] 30 [.int .i64 0, .bool false, .int .i64 0, .string ⟨#[]⟩, .string ⟨#[]⟩, .string ⟨#[]⟩, .slice none 0 0, .slice none 0 0] 27
 go_enter Tryz.func71, Tryz.ntmps71
 go_upto_region 1 with fail
 rw [← HU.out]
 clear HU
 have HD : Hid (Low U U.drew) := Lib.hid (low_drew (Low.refl U))
 obtain ⟨k0, k1, k2, k3, k4, k5, k6, k7, k8, k9, k10, k11, k12, k13, k14, k15⟩ := (BK.out.low HD.out).at16
 obtain ⟨e0, e1, e2, e3, e4, e5, e6, e7, e8, e9, e10, e11⟩ := (BE.out.low HD.out).at12
 rw [HOP.out] at e0
 have ee0 := BE.out.at 0 _ rfl
 rw [HOP.out] at ee0
 obtain ⟨x0, x1, x2, x3, x4, x5, x6, x7⟩ := cells8 ((LU.out.trans HD.out).cellsv9 HCX.out)
 simp only [Nat.zero_mul, Nat.one_mul, Nat.add_zero] at x0 x1 x2 x3 x4 x5 x6 x7
 go_wp2_with fail
 go_region_with (go_at_call 103; refine (HC.out _ (LU.out.trans HD.out)).mono ?_; rintro e w1 ⟨bi, di, bn, dn, rfl, hrx, g1⟩; have HG := Lib.hid g1; have HRX := Lib.hid hrx; have HDS := Lib.hid (HD.out.size); clear g1 hrx HC k0 k1 k2 k3 k4 k5 k6 k7 k8 k9 k10 k11 k12 k13 k14 k15 e0 e1 e2 e3 e4 e5 e6 e7 e8 e9 e10 e11 ee0 x0 x1 x2 x3 x4 x5 x6 x7; have BR1 := Lib.hid (((Go.of (Sx.low HXX.out LU.out) HD.out).trans HG.out).box BR.out (by simp)); obtain ⟨z0, z1, z2, z3, z4, z5, z6, z7⟩ := BR1.out.at8; obtain ⟨f0, f1, f2, f3, f4, f5, f6, f7⟩ := BR1.out.op8)
 all_goals
  go_wp2_with fail
  refine bodyPost_ret (v := .tuple #[av8 p.2.h bi p.2.l.length di bn p.2.ns.length dn, .int .i64 p.1]) (by simp [results, Tryz.results71, go_sem, World.cell?_setCell_same', z0, z1, z2, z3, z4, z5, z6, z7]; try rfl) rfl ?_
  exact vr_put (k := w.heap.size + 2) (A := A) (U := U) (HRX.out.mono fun b hb => hb.imp id fun h => Nat.le_trans HDS.out h) ((Go.of HXX.out (LU.out.trans HD.out)).trans HG.out) LU.out.size ⟨by omega, by rw [ZU.out]; omega⟩ HA.out
end Go.Proofs.YtnchohglplobeaaGreat
