/- get: attributes of records and of entities. No condition. -/
import Derived.Test.YtnchohglplobeaaGreatZg13
set_option linter.unusedVariables false
set_option linter.unusedSimpArgs false
set_option linter.unnecessarySimpa false
namespace Go.Proofs.YtnchohglplobeaaGreat
open Go.RowKit Go.Sort Go.Maps
set_option maxRecDepth 100000 in
set_option maxHeartbeats 4000000 in
theorem get14_c (K : Rk) {A : Nat → Prop} (v : V) (w : World) (ai : Option Addr) (ci : Nat) (an : Option Addr) (cn : Nat) (s : ByteArray) (hA : ∀ b, A b → b < w.heap.size) (hr : Rep A w v (.slice ai v.l.length ci) (.slice an v.ns.length cn)) (hX : K.X.at w) :
  Calls Tryz.prog 104 #[K.v, av8 v.h ai v.l.length ci an v.ns.length cn, .string s] w (VR K.X A (if (recE K.q v).1 = 0 then (if 0 ≤ getI (recE K.q v).2 s then (0, getV (recE K.q v).2 s) else (31, V0)) else ((recE K.q v).1, V0)) w) := by
 have HXX := Lib.hid hX
 have HA := Lib.hid hA
 have HC := Lib.hid fun W (h : Low w W) => record_c K (A := A) v W ai ci an cn (fun b hb => Nat.lt_of_lt_of_le (hA b hb) h.size) (hr.low h) (Sx.low hX h)
 simp only [recV_q] at HC
 unfold VR at HC
 obtain ⟨⟨k, x⟩, hp⟩ : ∃ p, p = recE K.q v := ⟨_, rfl⟩
 rw [← hp] at HC ⊢
 clear hr hX hA hp
 dsimp only at HC ⊢
 by_cases h30 : k = 0
 ·rw [if_pos h30]
  subst h30
  obtain ⟨p, hp⟩ : ∃ p, p = (if 0 ≤ getI x s then (0, getV x s) else ((31, V0) : Int × V)) := ⟨_, rfl⟩
  rw [← hp]
  have HP := Lib.hid hp
  clear hp
  obtain ⟨U, HU, LU, ZU, BK, BV, BR⟩ := boxes3 w [.string K.pu.t, .string K.pu.i, .string K.au.t, .string K.au.i, .string K.ru.t, .string K.ru.i, .int .i64 K.c.h.k, .bool K.c.h.b, .int .i64 K.c.h.n, .string K.c.h.s, .string K.c.h.t, .string K.c.h.i, .slice K.ai K.c.l.length K.ci, .slice K.an K.c.ns.length K.cn, .pointer K.xp, .map (some K.mb)] 80 [.int .i64 v.h.k, .bool v.h.b, .int .i64 v.h.n, .string v.h.s, .string v.h.t, .string v.h.i, .slice ai v.l.length ci, .slice an v.ns.length cn] 27 [.int .i64 0, .bool false, .int .i64 0, .string ⟨#[]⟩, .string ⟨#[]⟩, .string ⟨#[]⟩, .slice none 0 0, .slice none 0 0] 27
  go_enter Tryz.func104, Tryz.ntmps104
  go_upto_region 1 with fail
  rw [← HU.out]
  clear HU
  obtain ⟨k0, k1, k2, k3, k4, k5, k6, k7, k8, k9, k10, k11, k12, k13, k14, k15⟩ := BK.out.at16
  obtain ⟨v0, v1, v2, v3, v4, v5, v6, v7⟩ := BV.out.at8
  go_wp2_with fail
  refine (HC.out _ LU.out).mono ?_
  rintro e w1 ⟨bi, di, bn, dn, rfl, hrx, g⟩
  have HG := Lib.hid g
  have HRX := Lib.hid hrx
  clear g hrx HC k0 k1 k2 k3 k4 k5 k6 k7 k8 k9 k10 k11 k12 k13 k14 k15 v0 v1 v2 v3 v4 v5 v6 v7
  go_upto_region 2 with fail
  obtain ⟨W2, hW2⟩ : ∃ W2, W2 = w1.alloc (.cells #[.int .i64 x.h.k, .bool x.h.b, .int .i64 x.h.n, .string x.h.s, .string x.h.t, .string x.h.i, .slice bi x.l.length di, .slice bn x.ns.length dn] 27) := ⟨_, rfl⟩
  have L2 := Lib.hid (show Low w1 W2 by rw [hW2]; exact Low.alloc (Low.refl _) _)
  have BE := Lib.hid (show BoxAtv W2 w1.heap.size [.int .i64 x.h.k, .bool x.h.b, .int .i64 x.h.n, .string x.h.s, .string x.h.t, .string x.h.i, .slice bi x.l.length di, .slice bn x.ns.length dn] from BoxAtv.made hW2 rfl rfl)
  have HG2 := Lib.hid ((Go.of HXX.out LU.out).trans (HG.out.low L2.out))
  have BR2 := Lib.hid ((HG.out.low L2.out).box BR.out (by simp))
  rw [← hW2]
  clear hW2 HG
  obtain ⟨e0, e1, e2, e3, e4, e5, e6, e7⟩ := BE.out.at8
  have HGT := Lib.hid (get_cA x s W2 _ _ (HRX.out.low L2.out))
  unfold GetPA avv at HGT
  obtain ⟨q, hq⟩ : ∃ q, q = decide (0 ≤ getI x s) := ⟨_, rfl⟩
  rw [← hq] at HGT
  obtain ⟨y, hy⟩ : ∃ y, y = getV x s := ⟨_, rfl⟩
  rw [← hy] at HGT
  have HPP := Lib.hid (show p = if q = true then (0, y) else (31, V0) by rw [HP.out, hq, hy]; simp only [decide_eq_true_eq])
  clear hq hy HP
  go_wp2_with fail
  refine HGT.out.mono ?_
  rintro e w3 ⟨it, nm, rfl, hry, g3⟩
  obtain ⟨yi, yc, yn, yd, rfl, rfl⟩ := r_slices hry.r
  have HRY := Lib.hid hry
  have HG3 := Lib.hid (HG2.out.low g3.low)
  have BR3 := Lib.hid (BR2.out.low g3.low)
  clear hry g3 HGT e0 e1 e2 e3 e4 e5 e6 e7
  go_upto_region 5 with fail
  obtain ⟨W4, hW4⟩ : ∃ W4, W4 = w3.alloc (.cells #[.int .i64 y.h.k, .bool y.h.b, .int .i64 y.h.n, .string y.h.s, .string y.h.t, .string y.h.i, .slice yi y.l.length yc, .slice yn y.ns.length yd] 27) := ⟨_, rfl⟩
  have L4 := Lib.hid (show Low w3 W4 by rw [hW4]; exact Low.alloc (Low.refl _) _)
  have BY := Lib.hid (show BoxAtv W4 w3.heap.size [.int .i64 y.h.k, .bool y.h.b, .int .i64 y.h.n, .string y.h.s, .string y.h.t, .string y.h.i, .slice yi y.l.length yc, .slice yn y.ns.length yd] from BoxAtv.made hW4 rfl rfl)
  have HG4 := Lib.hid (HG3.out.low L4.out)
  have BR4 := Lib.hid (BR3.out.low L4.out)
  rw [← hW4]
  clear hW4
  obtain ⟨z0, z1, z2, z3, z4, z5, z6, z7⟩ := BR4.out.at8
  obtain ⟨f0, f1, f2, f3, f4, f5, f6, f7⟩ := BR4.out.op8
  obtain ⟨y0, y1, y2, y3, y4, y5, y6, y7⟩ := BY.out.at8
  cases q with
  | true =>
   go_wp2_with fail
   refine bodyPost_ret (v := .tuple #[av8 y.h yi y.l.length yc yn y.ns.length yd, .int .i64 0]) (by simp [results, Tryz.results104, go_sem, World.cell?_setCell_same', z0, z1, z2, z3, z4, z5, z6, z7]; try rfl) rfl ?_
   rw [show p = (0, y) from by rw [HPP.out]; rfl]
   exact vr_put (k := w.heap.size + 2) (p := (0, y)) (A := A) (U := U) (HRY.out.low L4.out) HG4.out LU.out.size ⟨by omega, by rw [ZU.out]; omega⟩ HA.out
  | false =>
   go_wp2_with fail
   refine bodyPost_ret (v := .tuple #[zeV, .int .i64 31]) (by simp [results, Tryz.results104, go_sem, World.cell?_setCell_same', z0, z1, z2, z3, z4, z5, z6, z7]; try rfl) rfl ?_
   rw [show p = (31, V0) from by rw [HPP.out]; rfl]
   exact vr_err (HG4.out.k (k := w.heap.size + 2) (kept8 _ _ _ _ _ _ _ _ _ _) (by omega))
 ·rw [if_neg h30]
  have hk2 : (k != 0) = true := by simpa using h30
  have hk3 : (k == 0) = false := by simpa using h30
  clear h30
  obtain ⟨U, HU, LU, ZU, BK, BV, BR⟩ := boxes3 w [.string K.pu.t, .string K.pu.i, .string K.au.t, .string K.au.i, .string K.ru.t, .string K.ru.i, .int .i64 K.c.h.k, .bool K.c.h.b, .int .i64 K.c.h.n, .string K.c.h.s, .string K.c.h.t, .string K.c.h.i, .slice K.ai K.c.l.length K.ci, .slice K.an K.c.ns.length K.cn, .pointer K.xp, .map (some K.mb)] 80 [.int .i64 v.h.k, .bool v.h.b, .int .i64 v.h.n, .string v.h.s, .string v.h.t, .string v.h.i, .slice ai v.l.length ci, .slice an v.ns.length cn] 27 [.int .i64 0, .bool false, .int .i64 0, .string ⟨#[]⟩, .string ⟨#[]⟩, .string ⟨#[]⟩, .slice none 0 0, .slice none 0 0] 27
  go_enter Tryz.func104, Tryz.ntmps104
  go_upto_region 1 with fail
  rw [← HU.out]
  clear HU
  obtain ⟨k0, k1, k2, k3, k4, k5, k6, k7, k8, k9, k10, k11, k12, k13, k14, k15⟩ := BK.out.at16
  obtain ⟨v0, v1, v2, v3, v4, v5, v6, v7⟩ := BV.out.at8
  go_wp2_with fail
  refine (HC.out _ LU.out).mono ?_
  rintro e w1 ⟨bi, di, bn, dn, rfl, hrx, g⟩
  have HG := Lib.hid g
  have HRX := Lib.hid hrx
  clear g hrx HC k0 k1 k2 k3 k4 k5 k6 k7 k8 k9 k10 k11 k12 k13 k14 k15 v0 v1 v2 v3 v4 v5 v6 v7
  go_upto_region 2 with fail
  obtain ⟨W2, hW2⟩ : ∃ W2, W2 = w1.alloc (.cells #[.int .i64 x.h.k, .bool x.h.b, .int .i64 x.h.n, .string x.h.s, .string x.h.t, .string x.h.i, .slice bi x.l.length di, .slice bn x.ns.length dn] 27) := ⟨_, rfl⟩
  have L2 := Lib.hid (show Low w1 W2 by rw [hW2]; exact Low.alloc (Low.refl _) _)
  have BE := Lib.hid (show BoxAtv W2 w1.heap.size [.int .i64 x.h.k, .bool x.h.b, .int .i64 x.h.n, .string x.h.s, .string x.h.t, .string x.h.i, .slice bi x.l.length di, .slice bn x.ns.length dn] from BoxAtv.made hW2 rfl rfl)
  have HG2 := Lib.hid ((Go.of HXX.out LU.out).trans (HG.out.low L2.out))
  have BR2 := Lib.hid ((HG.out.low L2.out).box BR.out (by simp))
  rw [← hW2]
  clear hW2 HG
  obtain ⟨z0, z1, z2, z3, z4, z5, z6, z7⟩ := BR2.out.at8
  obtain ⟨f0, f1, f2, f3, f4, f5, f6, f7⟩ := BR2.out.op8
  go_wp2_with fail
  refine bodyPost_ret (v := .tuple #[zeV, .int .i64 k]) (by simp [results, Tryz.results104, go_sem, World.cell?_setCell_same', z0, z1, z2, z3, z4, z5, z6, z7]; try rfl) rfl ?_
  exact vr_err (HG2.out.k (k := w.heap.size + 2) (kept8 _ _ _ _ _ _ _ _ _ _) (by omega))
end Go.Proofs.YtnchohglplobeaaGreat
