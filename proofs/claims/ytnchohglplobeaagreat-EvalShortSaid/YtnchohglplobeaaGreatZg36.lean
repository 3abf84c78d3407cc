/- of at the operator 19. Condition: the rows are short. of at the operator 20. Condition: the rows are short. of at the operator 21. No condition. of at the operator 22. No condition. of at the operator 23. No condition. reckon of any expression. Condition: rows in memory, short; numbers in their range. -/
import Derived.Test.YtnchohglplobeaaGreatZg21
import Derived.Test.YtnchohglplobeaaGreatZEkoq12
import Derived.Test.YtnchohglplobeaaGreatZEkn9q12
import Derived.Test.YtnchohglplobeaaGreatZg31
import Derived.Test.YtnchohglplobeaaGreatZEvOa15q12
import Derived.Test.YtnchohglplobeaaGreatZEvOa16q12
import Derived.Test.YtnchohglplobeaaGreatZEvOa17q12
import Derived.Test.YtnchohglplobeaaGreatZEvOa18q12
set_option linter.unusedVariables false
set_option linter.unusedSimpArgs false
set_option linter.unnecessarySimpa false
namespace Go.Proofs.YtnchohglplobeaaGreat
open Go.RowKit Go.Sort Go.Maps
set_option maxRecDepth 100000 in
set_option maxHeartbeats 4000000 in
theorem of19_c (K : Rk) {A : Nat → Prop} (e : E) (ai : Option Addr) (ci : Nat) (an : Option Addr) (cn : Nat) (ak : Option Addr) (ck : Nat) (am : Option Addr) (cm : Nat) (l : List V) (w : World) (p0 : Option Addr) (c0 : Nat) (hop : e.op = 19) (hks : Ro w l (.slice p0 l.length c0)) (hsm : Smv (.mk { hd0 with k := 5 } l [])) (hA : ∀ b, A b → b < w.heap.size) (hX : K.X.at w) : Calls Tryz.prog 71 #[K.v, ex12 e ai ci an cn ak ck am cm, .slice p0 l.length c0] w (VR K.X A (canD (.mk { hd0 with k := 5 } l [])) w) := by
 have HXX := Lib.hid hX
 have HA := Lib.hid hA
 have HR := Lib.hid (show R w (.mk { hd0 with k := 5 } l []) (.slice p0 l.length c0) (.slice none 0 0) from rep_v.2 ⟨bh_zero, ⟨none, 0, rfl, by simp [V.ns], by simp [V.ns], .inl rfl⟩, hks⟩)
 have HC0 := Lib.hid fun W (h : Low w W) => vr_canU (X := K.X) (A := A) (HR.out.low h) hsm (Sx.low hX h)
 obtain ⟨p, hp⟩ : ∃ p : Int × V, p = canD (.mk { hd0 with k := 5 } l []) := ⟨_, rfl⟩
 rw [← hp] at HC0 ⊢
 have HC : Hid (∀ W (h : Low w W), Calls Tryz.prog 65 #[.agg #[.int .i64 5, .bool false, .int .i64 0, .string ⟨#[]⟩, .string ⟨#[]⟩, .string ⟨#[]⟩, .slice p0 l.length c0, .slice none 0 0]] W (VR K.X A p W)) := HC0
 clear HC0
 unfold VR at HC
 have HOP := Lib.hid hop
 clear hks hA hX hop hp hsm
 obtain ⟨U, HU, LU, ZU, BK, BE, BR⟩ := boxes3 w [.string K.pu.t, .string K.pu.i, .string K.au.t, .string K.au.i, .string K.ru.t, .string K.ru.i, .int .i64 K.c.h.k, .bool K.c.h.b, .int .i64 K.c.h.n, .string K.c.h.s, .string K.c.h.t, .string K.c.h.i, .slice K.ai K.c.l.length K.ci, .slice K.an K.c.ns.length K.cn, .pointer K.xp, .map (some K.mb)] 80 [.int .i64 e.op, .int .i64 e.v.h.k, .bool e.v.h.b, .int .i64 e.v.h.n, .string e.v.h.s, .string e.v.h.t, .string e.v.h.i, .slice ai e.v.l.length ci, .slice an e.v.ns.length cn, .string e.nm, .slice ak e.ks.length ck, .slice am e.ns.length cm] 30 [.int .i64 0, .bool false, .int .i64 0, .string ⟨#[]⟩, .string ⟨#[]⟩, .string ⟨#[]⟩, .slice none 0 0, .slice none 0 0] 27
 go_enter Tryz.func71, Tryz.ntmps71
 go_upto_region 1 with fail
 rw [← HU.out]
 clear HU
 obtain ⟨e0, e1, e2, e3, e4, e5, e6, e7, e8, e9, e10, e11⟩ := BE.out.at12
 rw [HOP.out] at e0
 go_wp2_with (go_at_call 65; refine (HC.out _ LU.out).mono ?_; rintro e w1 ⟨bi, di, bn, dn, rfl, hrx, g1⟩; have HG := Lib.hid g1; have HRX := Lib.hid hrx; clear g1 hrx HC e0 e1 e2 e3 e4 e5 e6 e7 e8 e9 e10 e11; have BR1 := Lib.hid (HG.out.box BR.out (by simp)); obtain ⟨z0, z1, z2, z3, z4, z5, z6, z7⟩ := BR1.out.at8; obtain ⟨f0, f1, f2, f3, f4, f5, f6, f7⟩ := BR1.out.op8)
 refine bodyPost_ret (v := .tuple #[av8 p.2.h bi p.2.l.length di bn p.2.ns.length dn, .int .i64 p.1]) (by simp [results, Tryz.results71, go_sem, World.cell?_setCell_same', z0, z1, z2, z3, z4, z5, z6, z7]; try rfl) rfl ?_
 exact vr_put (k := w.heap.size + 2) (A := A) (U := U) HRX.out ((Go.of HXX.out LU.out).trans HG.out) LU.out.size ⟨by omega, by rw [ZU.out]; omega⟩ HA.out
end Go.Proofs.YtnchohglplobeaaGreat
namespace Go.Proofs.YtnchohglplobeaaGreat
open Go.RowKit Go.Sort Go.Maps
set_option maxRecDepth 100000 in
set_option maxHeartbeats 4000000 in
theorem of20_c (K : Rk) {A : Nat → Prop} (e : E) (ai : Option Addr) (ci : Nat) (an : Option Addr) (cn : Nat) (ak : Option Addr) (ck : Nat) (am : Option Addr) (cm : Nat) (l : List V) (w : World) (p0 : Option Addr) (c0 : Nat) (hop : e.op = 20) (hks : Ro w l (.slice p0 l.length c0)) (hns : Na w e.ns (.slice am e.ns.length cm)) (hsm : Smv (.mk { hd0 with k := 6 } l e.ns)) (hA : ∀ b, A b → b < w.heap.size) (hX : K.X.at w) : Calls Tryz.prog 71 #[K.v, ex12 e ai ci an cn ak ck am cm, .slice p0 l.length c0] w (VR K.X A (canD (.mk { hd0 with k := 6 } l e.ns)) w) := by
 have HXX := Lib.hid hX
 have HA := Lib.hid hA
 have HR := Lib.hid (show R w (.mk { hd0 with k := 6 } l e.ns) (.slice p0 l.length c0) (.slice am e.ns.length cm) from rep_v.2 ⟨bh_zero, hns, hks⟩)
 have HC0 := Lib.hid fun W (h : Low w W) => vr_canU (X := K.X) (A := A) (HR.out.low h) hsm (Sx.low hX h)
 obtain ⟨p, hp⟩ : ∃ p : Int × V, p = canD (.mk { hd0 with k := 6 } l e.ns) := ⟨_, rfl⟩
 rw [← hp] at HC0 ⊢
 have HC : Hid (∀ W (h : Low w W), Calls Tryz.prog 65 #[.agg #[.int .i64 6, .bool false, .int .i64 0, .string ⟨#[]⟩, .string ⟨#[]⟩, .string ⟨#[]⟩, .slice p0 l.length c0, .slice am e.ns.length cm]] W (VR K.X A p W)) := HC0
 clear HC0
 unfold VR at HC
 have HOP := Lib.hid hop
 clear hks hA hX hop hp hsm hns
 obtain ⟨U, HU, LU, ZU, BK, BE, BR⟩ := boxes3 w [.string K.pu.t, .string K.pu.i, .string K.au.t, .string K.au.i, .string K.ru.t, .string K.ru.i, .int .i64 K.c.h.k, .bool K.c.h.b, .int .i64 K.c.h.n, .string K.c.h.s, .string K.c.h.t, .string K.c.h.i, .slice K.ai K.c.l.length K.ci, .slice K.an K.c.ns.length K.cn, .pointer K.xp, .map (some K.mb)] 80 [.int .i64 e.op, .int .i64 e.v.h.k, .bool e.v.h.b, .int .i64 e.v.h.n, .string e.v.h.s, .string e.v.h.t, .string e.v.h.i, .slice ai e.v.l.length ci, .slice an e.v.ns.length cn, .string e.nm, .slice ak e.ks.length ck, .slice am e.ns.length cm] 30 [.int .i64 0, .bool false, .int .i64 0, .string ⟨#[]⟩, .string ⟨#[]⟩, .string ⟨#[]⟩, .slice none 0 0, .slice none 0 0] 27
 go_enter Tryz.func71, Tryz.ntmps71
 go_upto_region 1 with fail
 rw [← HU.out]
 clear HU
 obtain ⟨e0, e1, e2, e3, e4, e5, e6, e7, e8, e9, e10, e11⟩ := BE.out.at12
 rw [HOP.out] at e0
 go_wp2_with (go_at_call 65; refine (HC.out _ LU.out).mono ?_; rintro e w1 ⟨bi, di, bn, dn, rfl, hrx, g1⟩; have HG := Lib.hid g1; have HRX := Lib.hid hrx; clear g1 hrx HC e0 e1 e2 e3 e4 e5 e6 e7 e8 e9 e10 e11; have BR1 := Lib.hid (HG.out.box BR.out (by simp)); obtain ⟨z0, z1, z2, z3, z4, z5, z6, z7⟩ := BR1.out.at8; obtain ⟨f0, f1, f2, f3, f4, f5, f6, f7⟩ := BR1.out.op8)
 refine bodyPost_ret (v := .tuple #[av8 p.2.h bi p.2.l.length di bn p.2.ns.length dn, .int .i64 p.1]) (by simp [results, Tryz.results71, go_sem, World.cell?_setCell_same', z0, z1, z2, z3, z4, z5, z6, z7]; try rfl) rfl ?_
 exact vr_put (k := w.heap.size + 2) (A := A) (U := U) HRX.out ((Go.of HXX.out LU.out).trans HG.out) LU.out.size ⟨by omega, by rw [ZU.out]; omega⟩ HA.out
end Go.Proofs.YtnchohglplobeaaGreat
namespace Go.Proofs.YtnchohglplobeaaGreat
open Go.RowKit Go.Sort Go.Maps
set_option maxRecDepth 100000 in
set_option maxHeartbeats 4000000 in
theorem of21_c (K : Rk) {A : Nat → Prop} (e : E) (ai : Option Addr) (ci : Nat) (an : Option Addr) (cn : Nat) (ak : Option Addr) (ck : Nat) (am : Option Addr) (cm : Nat) (x y : V) (w : World) (p0 : Option Addr) (c0 : Nat) (hop : e.op = 21) (hks : RowAt A w [x, y] (.slice p0 2 c0)) (hA : ∀ b, A b → b < w.heap.size) (hX : K.X.at w) : Calls Tryz.prog 71 #[K.v, ex12 e ai ci an cn ak ck am cm, .slice p0 2 c0] w (VR K.X A (if x.h.k = 5 then (0, truV (holdsB x y)) else (30, V0)) w) := by
 have HXX := Lib.hid hX
 have HA := Lib.hid hA
 obtain ⟨xb, xo, xai, xci, xan, xcn, xp, xcs, xr⟩ := rowA_at hks (show 0 < _ by simp)
 simp only [List.getElem_cons_zero, List.getElem_cons_succ] at xcs xr
 obtain ⟨yb, yo, yai, yci, yan, ycn, yp, ycs, yr⟩ := rowA_at hks (show 1 < _ by simp)
 simp only [List.getElem_cons_zero, List.getElem_cons_succ] at ycs yr
 subst xp
 simp only [Option.some.injEq, Addr.mk.injEq] at yp
 obtain ⟨rfl, rfl, -⟩ := yp
 have HCX := Lib.hid xcs
 have HCY := Lib.hid ycs
 have HC := Lib.hid fun W (l : Low w W) => Calls.mono (contains_c x y W xai xci xan xcn yai yci yan ycn (xr.r.low l) (yr.r.low l)) (fun _ _ q => (VR.upd q (Sx.low hX l) : VR K.X A _ W _ _))
 obtain ⟨p, hp⟩ : ∃ p : Int × V, p = (if x.h.k = 5 then (0, truV (holdsB x y)) else (30, V0)) := ⟨_, rfl⟩
 rw [← hp] at HC ⊢
 unfold VR at HC
 have HOP := Lib.hid hop
 clear hks hA hX hop hp xcs xr ycs yr
 obtain ⟨U, HU, LU, ZU, BK, BE, BR⟩ := boxes3 w [.string K.pu.t, .string K.pu.i, .string K.au.t, .string K.au.i, .string K.ru.t, .string K.ru.i, .int .i64 K.c.h.k, .bool K.c.h.b, .int .i64 K.c.h.n, .string K.c.h.s, .string K.c.h.t, .string K.c.h.i, .slice K.ai K.c.l.length K.ci, .slice K.an K.c.ns.length K.cn, .pointer K.xp, .map (some K.mb)] 80 [.int .i64 e.op, .int .i64 e.v.h.k, .bool e.v.h.b, .int .i64 e.v.h.n, .string e.v.h.s, .string e.v.h.t, .string e.v.h.i, .slice ai e.v.l.length ci, .slice an e.v.ns.length cn, .string e.nm, .slice ak e.ks.length ck, .slice am e.ns.length cm] 30 [.int .i64 0, .bool false, .int .i64 0, .string ⟨#[]⟩, .string ⟨#[]⟩, .string ⟨#[]⟩, .slice none 0 0, .slice none 0 0] 27
 go_enter Tryz.func71, Tryz.ntmps71
 go_upto_region 1 with fail
 rw [← HU.out]
 clear HU
 have HD : Hid (Low U U.drew) := Lib.hid (low_drew (Low.refl U))
 obtain ⟨k0, k1, k2, k3, k4, k5, k6, k7, k8, k9, k10, k11, k12, k13, k14, k15⟩ := (BK.out.low HD.out).at16
 obtain ⟨e0, e1, e2, e3, e4, e5, e6, e7, e8, e9, e10, e11⟩ := (BE.out.low HD.out).at12
 rw [HOP.out] at e0
 have ee0 := BE.out.at 0 _ rfl
 rw [HOP.out] at ee0
 obtain ⟨x0, x1, x2, x3, x4, x5, x6, x7⟩ := cells8 ((LU.out.trans HD.out).cellsv9 HCX.out)
 obtain ⟨y0, y1, y2, y3, y4, y5, y6, y7⟩ := cells8 ((LU.out.trans HD.out).cellsv9 HCY.out)
 simp only [Nat.zero_mul, Nat.one_mul, Nat.add_zero] at x0 x1 x2 x3 x4 x5 x6 x7 y0 y1 y2 y3 y4 y5 y6 y7
 go_wp2_with fail
 go_region_with (go_at_call 105; refine (HC.out _ (LU.out.trans HD.out)).mono ?_; rintro e w1 ⟨bi, di, bn, dn, rfl, hrx, g1⟩; have HG := Lib.hid g1; have HRX := Lib.hid hrx; have HDS := Lib.hid (HD.out.size); clear g1 hrx HC k0 k1 k2 k3 k4 k5 k6 k7 k8 k9 k10 k11 k12 k13 k14 k15 e0 e1 e2 e3 e4 e5 e6 e7 e8 e9 e10 e11 ee0 x0 x1 x2 x3 x4 x5 x6 x7 y0 y1 y2 y3 y4 y5 y6 y7; have BR1 := Lib.hid (((Go.of (Sx.low HXX.out LU.out) HD.out).trans HG.out).box BR.out (by simp)); obtain ⟨z0, z1, z2, z3, z4, z5, z6, z7⟩ := BR1.out.at8; obtain ⟨f0, f1, f2, f3, f4, f5, f6, f7⟩ := BR1.out.op8)
 all_goals
  go_wp2_with fail
  refine bodyPost_ret (v := .tuple #[av8 p.2.h bi p.2.l.length di bn p.2.ns.length dn, .int .i64 p.1]) (by simp [results, Tryz.results71, go_sem, World.cell?_setCell_same', z0, z1, z2, z3, z4, z5, z6, z7]; try rfl) rfl ?_
  exact vr_put (k := w.heap.size + 2) (A := A) (U := U) (HRX.out.mono fun b hb => hb.imp id fun h => Nat.le_trans HDS.out h) ((Go.of HXX.out (LU.out.trans HD.out)).trans HG.out) LU.out.size ⟨by omega, by rw [ZU.out]; omega⟩ HA.out
end Go.Proofs.YtnchohglplobeaaGreat
namespace Go.Proofs.YtnchohglplobeaaGreat
open Go.RowKit Go.Sort Go.Maps
set_option maxRecDepth 100000 in
set_option maxHeartbeats 4000000 in
theorem of22_c (K : Rk) {A : Nat → Prop} (e : E) (ai : Option Addr) (ci : Nat) (an : Option Addr) (cn : Nat) (ak : Option Addr) (ck : Nat) (am : Option Addr) (cm : Nat) (x y : V) (w : World) (p0 : Option Addr) (c0 : Nat) (hop : e.op = 22) (hks : RowAt A w [x, y] (.slice p0 2 c0)) (hA : ∀ b, A b → b < w.heap.size) (hX : K.X.at w) : Calls Tryz.prog 71 #[K.v, ex12 e ai ci an cn ak ck am cm, .slice p0 2 c0] w (VR K.X A (if x.h.k = 5 ∧ y.h.k = 5 then (0, truV (!(y.l.any fun z => !holdsB x z))) else (30, V0)) w) := by
 have HXX := Lib.hid hX
 have HA := Lib.hid hA
 obtain ⟨xb, xo, xai, xci, xan, xcn, xp, xcs, xr⟩ := rowA_at hks (show 0 < _ by simp)
 simp only [List.getElem_cons_zero, List.getElem_cons_succ] at xcs xr
 obtain ⟨yb, yo, yai, yci, yan, ycn, yp, ycs, yr⟩ := rowA_at hks (show 1 < _ by simp)
 simp only [List.getElem_cons_zero, List.getElem_cons_succ] at ycs yr
 subst xp
 simp only [Option.some.injEq, Addr.mk.injEq] at yp
 obtain ⟨rfl, rfl, -⟩ := yp
 have HCX := Lib.hid xcs
 have HCY := Lib.hid ycs
 have HC := Lib.hid fun W (l : Low w W) => Calls.mono (containsAll_c x y W xai xci xan xcn yai yci yan ycn (xr.r.low l) (yr.r.low l)) (fun _ _ q => (VR.upd q (Sx.low hX l) : VR K.X A _ W _ _))
 obtain ⟨p, hp⟩ : ∃ p : Int × V, p = (if x.h.k = 5 ∧ y.h.k = 5 then (0, truV (!(y.l.any fun z => !holdsB x z))) else (30, V0)) := ⟨_, rfl⟩
 rw [← hp] at HC ⊢
 unfold VR at HC
 have HOP := Lib.hid hop
 clear hks hA hX hop hp xcs xr ycs yr
 obtain ⟨U, HU, LU, ZU, BK, BE, BR⟩ := boxes3 w [.string K.pu.t, .string K.pu.i, .string K.au.t, .string K.au.i, .string K.ru.t, .string K.ru.i, .int .i64 K.c.h.k, .bool K.c.h.b, .int .i64 K.c.h.n, .string K.c.h.s, .string K.c.h.t, .string K.c.h.i, .slice K.ai K.c.l.length K.ci, .slice K.an K.c.ns.length K.cn, .pointer K.xp, .map (some K.mb)] 80 [.int .i64 e.op, .int .i64 e.v.h.k, .bool e.v.h.b, .int .i64 e.v.h.n, .string e.v.h.s, .string e.v.h.t, .string e.v.h.i, .slice ai e.v.l.length ci, .slice an e.v.ns.length cn, .string e.nm, .slice ak e.ks.length ck, .slice am e.ns.length cm] 30 [.int .i64 0, .bool false, .int .i64 0, .string ⟨#[]⟩, .string ⟨#[]⟩, .string ⟨#[]⟩, .slice none 0 0, .slice none 0 0] 27
 go_enter Tryz.func71, Tryz.ntmps71
 go_upto_region 1 with fail
 rw [← HU.out]
 clear HU
 have HD : Hid (Low U U.drew) := Lib.hid (low_drew (Low.refl U))
 obtain ⟨k0, k1, k2, k3, k4, k5, k6, k7, k8, k9, k10, k11, k12, k13, k14, k15⟩ := (BK.out.low HD.out).at16
 obtain ⟨e0, e1, e2, e3, e4, e5, e6, e7, e8, e9, e10, e11⟩ := (BE.out.low HD.out).at12
 rw [HOP.out] at e0
 have ee0 := BE.out.at 0 _ rfl
 rw [HOP.out] at ee0
 obtain ⟨x0, x1, x2, x3, x4, x5, x6, x7⟩ := cells8 ((LU.out.trans HD.out).cellsv9 HCX.out)
 obtain ⟨y0, y1, y2, y3, y4, y5, y6, y7⟩ := cells8 ((LU.out.trans HD.out).cellsv9 HCY.out)
 simp only [Nat.zero_mul, Nat.one_mul, Nat.add_zero] at x0 x1 x2 x3 x4 x5 x6 x7 y0 y1 y2 y3 y4 y5 y6 y7
 go_wp2_with fail
 go_region_with (go_at_call 106; refine (HC.out _ (LU.out.trans HD.out)).mono ?_; rintro e w1 ⟨bi, di, bn, dn, rfl, hrx, g1⟩; have HG := Lib.hid g1; have HRX := Lib.hid hrx; have HDS := Lib.hid (HD.out.size); clear g1 hrx HC k0 k1 k2 k3 k4 k5 k6 k7 k8 k9 k10 k11 k12 k13 k14 k15 e0 e1 e2 e3 e4 e5 e6 e7 e8 e9 e10 e11 ee0 x0 x1 x2 x3 x4 x5 x6 x7 y0 y1 y2 y3 y4 y5 y6 y7; have BR1 := Lib.hid (((Go.of (Sx.low HXX.out LU.out) HD.out).trans HG.out).box BR.out (by simp)); obtain ⟨z0, z1, z2, z3, z4, z5, z6, z7⟩ := BR1.out.at8; obtain ⟨f0, f1, f2, f3, f4, f5, f6, f7⟩ := BR1.out.op8)
 all_goals
  go_wp2_with fail
  refine bodyPost_ret (v := .tuple #[av8 p.2.h bi p.2.l.length di bn p.2.ns.length dn, .int .i64 p.1]) (by simp [results, Tryz.results71, go_sem, World.cell?_setCell_same', z0, z1, z2, z3, z4, z5, z6, z7]; try rfl) rfl ?_
  exact vr_put (k := w.heap.size + 2) (A := A) (U := U) (HRX.out.mono fun b hb => hb.imp id fun h => Nat.le_trans HDS.out h) ((Go.of HXX.out (LU.out.trans HD.out)).trans HG.out) LU.out.size ⟨by omega, by rw [ZU.out]; omega⟩ HA.out
end Go.Proofs.YtnchohglplobeaaGreat
namespace Go.Proofs.YtnchohglplobeaaGreat
open Go.RowKit Go.Sort Go.Maps
set_option maxRecDepth 100000 in
set_option maxHeartbeats 4000000 in
theorem of23_c (K : Rk) {A : Nat → Prop} (e : E) (ai : Option Addr) (ci : Nat) (an : Option Addr) (cn : Nat) (ak : Option Addr) (ck : Nat) (am : Option Addr) (cm : Nat) (x y : V) (w : World) (p0 : Option Addr) (c0 : Nat) (hop : e.op = 23) (hks : RowAt A w [x, y] (.slice p0 2 c0)) (hA : ∀ b, A b → b < w.heap.size) (hX : K.X.at w) : Calls Tryz.prog 71 #[K.v, ex12 e ai ci an cn ak ck am cm, .slice p0 2 c0] w (VR K.X A (if x.h.k = 5 ∧ y.h.k = 5 then (0, truV (y.l.any fun z => holdsB x z)) else (30, V0)) w) := by
 have HXX := Lib.hid hX
 have HA := Lib.hid hA
 obtain ⟨xb, xo, xai, xci, xan, xcn, xp, xcs, xr⟩ := rowA_at hks (show 0 < _ by simp)
 simp only [List.getElem_cons_zero, List.getElem_cons_succ] at xcs xr
 obtain ⟨yb, yo, yai, yci, yan, ycn, yp, ycs, yr⟩ := rowA_at hks (show 1 < _ by simp)
 simp only [List.getElem_cons_zero, List.getElem_cons_succ] at ycs yr
 subst xp
 simp only [Option.some.injEq, Addr.mk.injEq] at yp
 obtain ⟨rfl, rfl, -⟩ := yp
 have HCX := Lib.hid xcs
 have HCY := Lib.hid ycs
 have HC := Lib.hid fun W (l : Low w W) => Calls.mono (containsAny_c x y W xai xci xan xcn yai yci yan ycn (xr.r.low l) (yr.r.low l)) (fun _ _ q => (VR.upd q (Sx.low hX l) : VR K.X A _ W _ _))
 obtain ⟨p, hp⟩ : ∃ p : Int × V, p = (if x.h.k = 5 ∧ y.h.k = 5 then (0, truV (y.l.any fun z => holdsB x z)) else (30, V0)) := ⟨_, rfl⟩
 rw [← hp] at HC ⊢
 unfold VR at HC
 have HOP := Lib.hid hop
 clear hks hA hX hop hp xcs xr ycs yr
 obtain ⟨U, HU, LU, ZU, BK, BE, BR⟩ := boxes3 w [.string K.pu.t, .string K.pu.i, .string K.au.t, .string K.au.i, .string K.ru.t, .string K.ru.i, .int .i64 K.c.h.k, .bool K.c.h.b, .int .i64 K.c.h.n, .string K.c.h.s, .string K.c.h.t, .string K.c.h.i, .slice K.ai K.c.l.length K.ci, .slice K.an K.c.ns.length K.cn, .pointer K.xp, .map (some K.mb)] 80 [.int .i64 e.op, .int .i64 e.v.h.k, .bool e.v.h.b, .int .i64 e.v.h.n, .string e.v.h.s, .string e.v.h.t, .string e.v.h.i, .slice ai e.v.l.length ci, .slice an e.v.ns.length cn, .string e.nm, .slice ak e.ks.length ck, .slice am e.ns.length cm] 30 [.int .i64 0, .bool false, .int .i64 0, .string ⟨#[]⟩, .string ⟨#[]⟩, .string ⟨#[]⟩, .slice none 0 0, .slice none 0 0] 27
 go_enter Tryz.func71, Tryz.ntmps71
 go_upto_region 1 with fail
 rw [← HU.out]
 clear HU
 have HD : Hid (Low U U.drew) := Lib.hid (low_drew (Low.refl U))
 obtain ⟨k0, k1, k2, k3, k4, k5, k6, k7, k8, k9, k10, k11, k12, k13, k14, k15⟩ := (BK.out.low HD.out).at16
 obtain ⟨e0, e1, e2, e3, e4, e5, e6, e7, e8, e9, e10, e11⟩ := (BE.out.low HD.out).at12
 rw [HOP.out] at e0
 have ee0 := BE.out.at 0 _ rfl
 rw [HOP.out] at ee0
 obtain ⟨x0, x1, x2, x3, x4, x5, x6, x7⟩ := cells8 ((LU.out.trans HD.out).cellsv9 HCX.out)
 obtain ⟨y0, y1, y2, y3, y4, y5, y6, y7⟩ := cells8 ((LU.out.trans HD.out).cellsv9 HCY.out)
 simp only [Nat.zero_mul, Nat.one_mul, Nat.add_zero] at x0 x1 x2 x3 x4 x5 x6 x7 y0 y1 y2 y3 y4 y5 y6 y7
 go_wp2_with fail
 go_region_with (go_at_call 107; refine (HC.out _ (LU.out.trans HD.out)).mono ?_; rintro e w1 ⟨bi, di, bn, dn, rfl, hrx, g1⟩; have HG := Lib.hid g1; have HRX := Lib.hid hrx; have HDS := Lib.hid (HD.out.size); clear g1 hrx HC k0 k1 k2 k3 k4 k5 k6 k7 k8 k9 k10 k11 k12 k13 k14 k15 e0 e1 e2 e3 e4 e5 e6 e7 e8 e9 e10 e11 ee0 x0 x1 x2 x3 x4 x5 x6 x7 y0 y1 y2 y3 y4 y5 y6 y7; have BR1 := Lib.hid (((Go.of (Sx.low HXX.out LU.out) HD.out).trans HG.out).box BR.out (by simp)); obtain ⟨z0, z1, z2, z3, z4, z5, z6, z7⟩ := BR1.out.at8; obtain ⟨f0, f1, f2, f3, f4, f5, f6, f7⟩ := BR1.out.op8)
 all_goals
  go_wp2_with fail
  refine bodyPost_ret (v := .tuple #[av8 p.2.h bi p.2.l.length di bn p.2.ns.length dn, .int .i64 p.1]) (by simp [results, Tryz.results71, go_sem, World.cell?_setCell_same', z0, z1, z2, z3, z4, z5, z6, z7]; try rfl) rfl ?_
  exact vr_put (k := w.heap.size + 2) (A := A) (U := U) (HRX.out.mono fun b hb => hb.imp id fun h => Nat.le_trans HDS.out h) ((Go.of HXX.out (LU.out.trans HD.out)).trans HG.out) LU.out.size ⟨by omega, by rw [ZU.out]; omega⟩ HA.out
end Go.Proofs.YtnchohglplobeaaGreat
namespace Go.Proofs.YtnchohglplobeaaGreat
open Go.RowKit Go.Sort Go.Maps
theorem evL_nil {f : E → Int × V} : ∀ {ks : List E} {k : Int} {l : List V}, k ≠ 0 → evL f ks = (k, l) → l = []
 | [], k, l, h, e => by rw [evL] at e; simp at e; exact e.2
 | x :: ks, k, l, h, e => by
  rw [evL] at e
  by_cases h1 : (f x).1 = 0
  ·rw [if_pos h1] at e
   by_cases h2 : (evL f ks).1 = 0
   ·rw [if_pos h2] at e; simp at e; exact absurd e.1.symm h
   ·rw [if_neg h2] at e; simp at e; exact e.2
  ·rw [if_neg h1] at e; simp at e; exact e.2
theorem inR_of {x : V} (h : VOk x) : InR x.h.n := (iv_v.1 h.iv).1
theorem reckon_n {K : Rk} {W0 : World} (cx : Cx K W0) : ∀ n, CkE K W0 n := by
 intro n
 induction n with
 | zero => intro e ai ci an cn ak ck am cm w hr; exact hr.elim
 | succ n ih =>
  intro e ai ci an cn ak ck am cm w hr ho g
  obtain ⟨h1, h2, h3, h4⟩ := re_succ.1 hr
  have h3 : RowB W0 12 encE4 (RE n) e.ks (.slice ak e.ks.length ck) := h3
  have h1 : R W0 e.v (.slice ai e.v.l.length ci) (.slice an e.v.ns.length cn) := h1
  have h4 : Na W0 e.ns (.slice am e.ns.length cm) := h4
  obtain ⟨⟨⟨s1, s2, s3, s4, s5⟩, s6, s7⟩, s8⟩ := ho
  by_cases hf : formB e = true
  ·rw [evS_at hf]
   obtain ⟨⟨f1, f2⟩, f3, f4⟩ := form_ks hf
   have hv : ∀ x ∈ e.ks, VP (evS K.q n x) := fun x hx => vP_evS cx.ok n x (s8 x hx)
   by_cases n1 : e.op = 1
   ·have hp : evK K.q (evS K.q n) e.op e.v e.nm e.ks e.ns = canD e.v := by unfold evK; rw [if_pos n1]
    rw [hp]
    exact ck1 e ai ci an cn ak ck am cm w g hf n1 (g.r h1) s1
   by_cases n2 : e.op = 2
   ·have hp : evK K.q (evS K.q n) e.op e.v e.nm e.ks e.ns = varS K.q e.nm := by unfold evK; rw [if_neg n1, if_pos n2]
    rw [hp]
    exact ck2 e ai ci an cn ak ck am cm w g cx hf n2
   by_cases n3 : e.op = 3
   ·have hp : evK K.q (evS K.q n) e.op e.v e.nm e.ks e.ns = (32, V0) := by unfold evK; rw [if_neg n1, if_neg n2, if_pos n3]
    rw [hp]
    exact ck3 e ai ci an cn ak ck am cm w g hf n3
   by_cases n19 : e.op = 19
   ·by_cases h0 : (evL (evS K.q n) e.ks).1 = 0
    ·obtain ⟨k, l, hl⟩ : ∃ k l, evL (evS K.q n) e.ks = (k, l) := ⟨_, _, rfl⟩
     have hok := evL_ok hv h0
     rw [hl] at h0 hok
     dsimp only at h0 hok
     subst h0
     have hp : evK K.q (evS K.q n) e.op e.v e.nm e.ks e.ns = canD (.mk { hd0 with k := 5 } l []) := by unfold evK; rw [if_neg n1, if_neg n2, if_neg n3, if_pos n19, hl]; rfl
     rw [hp]
     have hz := smv_of (k := 5) (l := l) (ns := []) (by rw [hok.1]; exact s4) (by simp) hok.2
     exact ckOf e ai ci an cn ak ck am cm w g ih hf h3 s8 s4 n1 n2 n3 (by omega) (by omega) (by omega) (by omega) (by omega) (by omega) (by omega) (by omega) (by omega) cx ⟨s6, s7⟩ l hl _ fun Wc W ao cap g1 g2 row => of19_c K e ai ci an cn ak ck am cm l W ao cap n19 (RowAt.r row) hz.1 (fun b hb => hb.2) g2.at1
    ·obtain ⟨k, l, hl⟩ : ∃ k l, evL (evS K.q n) e.ks = (k, l) := ⟨_, _, rfl⟩
     have hnil : l = [] := evL_nil (by rw [hl] at h0; exact h0) hl
     subst hnil
     rw [hl] at h0
     have hp : evK K.q (evS K.q n) e.op e.v e.nm e.ks e.ns = (k, V0) := by unfold evK thenL; rw [if_neg n1, if_neg n2, if_neg n3, if_pos n19, hl, if_neg h0]
     rw [hp]
     exact ckErr e ai ci an cn ak ck am cm w g ih hf h3 s8 s4 n1 n2 n3 (by omega) (by omega) (by omega) k h0 hl
   by_cases n20 : e.op = 20
   ·by_cases h0 : (evL (evS K.q n) e.ks).1 = 0
    ·obtain ⟨k, l, hl⟩ : ∃ k l, evL (evS K.q n) e.ks = (k, l) := ⟨_, _, rfl⟩
     have hok := evL_ok hv h0
     rw [hl] at h0 hok
     dsimp only at h0 hok
     subst h0
     have hp : evK K.q (evS K.q n) e.op e.v e.nm e.ks e.ns = canD (.mk { hd0 with k := 6 } l e.ns) := by unfold evK; rw [if_neg n1, if_neg n2, if_neg n3, if_neg n19, if_pos n20, hl]; rfl
     rw [hp]
     have hz := smv_of (k := 6) (l := l) (ns := e.ns) (by rw [hok.1]; exact s4) s5 hok.2
     exact ckOf e ai ci an cn ak ck am cm w g ih hf h3 s8 s4 n1 n2 n3 (by omega) (by omega) (by omega) (by omega) (by omega) (by omega) (by omega) (by omega) (by omega) cx ⟨s6, s7⟩ l hl _ fun Wc W ao cap g1 g2 row => of20_c K e ai ci an cn ak ck am cm l W ao cap n20 (RowAt.r row) (na_lo (g.trans (g1.trans g2)).lo h4) hz.1 (fun b hb => hb.2) g2.at1
    ·obtain ⟨k, l, hl⟩ : ∃ k l, evL (evS K.q n) e.ks = (k, l) := ⟨_, _, rfl⟩
     have hnil : l = [] := evL_nil (by rw [hl] at h0; exact h0) hl
     subst hnil
     rw [hl] at h0
     have hp : evK K.q (evS K.q n) e.op e.v e.nm e.ks e.ns = (k, V0) := by unfold evK thenL; rw [if_neg n1, if_neg n2, if_neg n3, if_neg n19, if_pos n20, hl, if_neg h0]
     rw [hp]
     exact ckErr e ai ci an cn ak ck am cm w g ih hf h3 s8 s4 n1 n2 n3 (by omega) (by omega) (by omega) k h0 hl
   have hM : evK K.q (evS K.q n) e.op e.v e.nm e.ks e.ns = evM K.q (evS K.q n) e.op e.nm e.ks := by unfold evK; rw [if_neg n1, if_neg n2, if_neg n3, if_neg n19, if_neg n20]
   rw [hM]
   by_cases n7 : e.op = 7
   ·obtain ⟨a, b, c, hk⟩ := ks3 (e := e) (by
     have : kidsN e.op = 3 := by rw [n7]; rfl
     omega)
    have hl3 : e.ks.length = 3 := by rw [hk]; rfl
    have h3' : RowB W0 12 encE4 (RE n) [a, b, c] (.slice ak 3 ck) := by rw [← hk, ← hl3]; exact h3
    have hp : evM K.q (evS K.q n) e.op e.nm e.ks = truS (evS K.q n a) fun x => if x = true then evS K.q n b else evS K.q n c := by rw [hk]; rfl
    rw [hp]
    exact ck7 e ai ci an cn ak ck am cm w g ih hf n7 a b c hk h3' (s8 a (by rw [hk]; simp)) (s8 b (by rw [hk]; simp)) (s8 c (by rw [hk]; simp))
   by_cases m1 : e.op = 6 ∨ e.op = 14 ∨ e.op = 16 ∨ e.op = 17 ∨ e.op = 18
   ·obtain ⟨a, hk⟩ := ks1 (e := e) (by
     have : kidsN e.op = 1 := by rcases m1 with h | h | h | h | h <;> rw [h] <;> rfl
     omega)
    have hL := @evM1_L K.q (evS K.q n) e.op e.nm a
    have hva := hv a (by rw [hk]; simp)
    by_cases h0 : (evL (evS K.q n) e.ks).1 = 0
    ·rw [hk] at h0
     obtain ⟨hl, hp⟩ := hL.2 h0
     have hxa : (evS K.q n a).1 = 0 := by
      have := hl
      simp only [evL] at this
      by_cases q : (evS K.q n a).1 = 0
      ·exact q
      ·rw [if_neg q] at this; simp at this
     have hok := hva hxa
     rw [hk, hp]
     rw [← hk] at hl
     generalize (evS K.q n a).2 = x at hl hok
     rcases m1 with h | h | h | h | h
     ·rw [show op1 K.q e.op e.nm x = (if x.h.k = 1 then (0, truV (!x.h.b)) else (30, V0)) from by rw [h]; rfl]
      exact ckOf e ai ci an cn ak ck am cm w g ih hf h3 s8 s4 n1 n2 n3 (by omega) (by omega) n7 (by omega) (by omega) (by omega) (by omega) (by omega) (by omega) cx ⟨s6, s7⟩ [x] hl _ fun Wc W ao cap g1 g2 row => of6_c K e ai ci an cn ak ck am cm x W ao cap h row (fun b hb => hb.2) g2.at1
     ·rw [show op1 K.q e.op e.nm x = (if x.h.k = 2 then fitN (-x.h.n) else (30, V0)) from by rw [h]; rfl]
      exact ckNum14 e ai ci an cn ak ck am cm w g ih hf h3 s8 s4 cx h x hl (inR_of hok)
     ·rw [show op1 K.q e.op e.nm x = (if x.h.k = 4 then (0, truV (decide (x.h.t = e.nm))) else (30, V0)) from by rw [h]; rfl]
      exact ckOf e ai ci an cn ak ck am cm w g ih hf h3 s8 s4 n1 n2 n3 (by omega) (by omega) n7 (by omega) (by omega) (by omega) (by omega) (by omega) (by omega) cx ⟨s6, s7⟩ [x] hl _ fun Wc W ao cap g1 g2 row => of16_c K e ai ci an cn ak ck am cm x W ao cap h row (fun b hb => hb.2) g2.at1
     ·rw [show op1 K.q e.op e.nm x = (if (recE K.q x).1 = 30 then (30, V0) else (0, truV (decide (0 ≤ getI (recE K.q x).2 e.nm)))) from by rw [h]; rfl]
      exact ckOf e ai ci an cn ak ck am cm w g ih hf h3 s8 s4 n1 n2 n3 (by omega) (by omega) n7 (by omega) (by omega) (by omega) (by omega) (by omega) (by omega) cx ⟨s6, s7⟩ [x] hl _ fun Wc W ao cap g1 g2 row => of17_c K e ai ci an cn ak ck am cm x W ao cap h row (fun b hb => hb.2) g2.at1
     ·rw [show op1 K.q e.op e.nm x = (if (recE K.q x).1 = 0 then (if 0 ≤ getI (recE K.q x).2 e.nm then (0, getV (recE K.q x).2 e.nm) else (31, V0)) else ((recE K.q x).1, V0)) from by rw [h]; rfl]
      exact ckOf e ai ci an cn ak ck am cm w g ih hf h3 s8 s4 n1 n2 n3 (by omega) (by omega) n7 (by omega) (by omega) (by omega) (by omega) (by omega) (by omega) cx ⟨s6, s7⟩ [x] hl _ fun Wc W ao cap g1 g2 row => of18_c K e ai ci an cn ak ck am cm x W ao cap h row (fun b hb => hb.2) g2.at1
    ·obtain ⟨k, l, hl⟩ : ∃ k l, evL (evS K.q n) e.ks = (k, l) := ⟨_, _, rfl⟩
     have hnil : l = [] := evL_nil (by rw [hl] at h0; exact h0) hl
     subst hnil
     have hp : evM K.q (evS K.q n) e.op e.nm e.ks = (k, V0) := by rw [hk]; rw [hk] at h0 hl; rw [hL.1 h0, hl]
     rw [hp]
     rw [hl] at h0
     exact ckErr e ai ci an cn ak ck am cm w g ih hf h3 s8 s4 n1 n2 n3 (by omega) (by omega) n7 k h0 hl
   obtain ⟨a, b, hk⟩ := ks2 (e := e) (by
    have : kidsN e.op = 2 := by
     unfold kidsN
     rw [if_neg (by omega), if_neg (by omega), if_neg (by omega), if_neg (by omega)]
    omega)
   by_cases n4 : e.op = 4
   ·have hp : evM K.q (evS K.q n) e.op e.nm e.ks = decL false (e.ks.map fun x => trS (evS K.q n x)) := by rw [hk, dec2.1, n4]
    rw [hp]
    exact ck4 e ai ci an cn ak ck am cm w g ih hf n4 h3 s8
   by_cases n5 : e.op = 5
   ·have hp : evM K.q (evS K.q n) e.op e.nm e.ks = decL true (e.ks.map fun x => trS (evS K.q n x)) := by rw [hk, (dec2 (Q := K.q) (nm := e.nm)).2, n5]
    rw [hp]
    exact ck5 e ai ci an cn ak ck am cm w g ih hf n5 h3 s8
   have hL := @evM2_L K.q (evS K.q n) e.op e.nm a b n4 n5
   have hva := hv a (by rw [hk]; simp)
   have hvb := hv b (by rw [hk]; simp)
   by_cases h0 : (evL (evS K.q n) e.ks).1 = 0
   ·rw [hk] at h0
    obtain ⟨hl, hp⟩ := hL.2 h0
    have hxy : (evS K.q n a).1 = 0 ∧ (evS K.q n b).1 = 0 := by
     have := hl
     simp only [evL] at this
     by_cases q : (evS K.q n a).1 = 0
     ·by_cases q2 : (evS K.q n b).1 = 0
      ·exact ⟨q, q2⟩
      ·exfalso; simp [q, q2] at this
     ·rw [if_neg q] at this; simp at this
    have hox := hva hxy.1
    have hoy := hvb hxy.2
    rw [hk, hp]
    rw [← hk] at hl
    generalize (evS K.q n a).2 = x at hl hox
    generalize (evS K.q n b).2 = y at hl hoy
    have m2 : e.op = 8 ∨ e.op = 9 ∨ e.op = 10 ∨ e.op = 11 ∨ e.op = 12 ∨ e.op = 13 ∨ e.op = 15 ∨ e.op = 21 ∨ e.op = 22 ∨ e.op = 23 := by omega
    rcases m2 with h | h | h | h | h | h | h | h | h | h
    ·rw [show op2 K.q e.op x y = (0, truV (ord x y == 0)) from by rw [h]; rfl]
     exact ckOf e ai ci an cn ak ck am cm w g ih hf h3 s8 s4 n1 n2 n3 n4 n5 n7 (by omega) (by omega) (by omega) (by omega) (by omega) (by omega) cx ⟨s6, s7⟩ [x, y] hl _ fun Wc W ao cap g1 g2 row => of8_c K e ai ci an cn ak ck am cm x y W ao cap h row (fun b hb => hb.2) g2.at1
    ·rw [show op2 K.q e.op x y = (if x.h.k = 2 ∧ y.h.k = 2 then (0, truV (decide (x.h.n < y.h.n))) else (30, V0)) from by rw [h]; rfl]
     exact ckNum9 e ai ci an cn ak ck am cm w g ih hf h3 s8 s4 cx h x y hl (inR_of hox) (inR_of hoy)
    ·rw [show op2 K.q e.op x y = (if x.h.k = 2 ∧ y.h.k = 2 then (0, truV (decide (x.h.n ≤ y.h.n))) else (30, V0)) from by rw [h]; rfl]
     exact ckNum10 e ai ci an cn ak ck am cm w g ih hf h3 s8 s4 cx h x y hl (inR_of hox) (inR_of hoy)
    ·rw [show op2 K.q e.op x y = (if x.h.k = 2 ∧ y.h.k = 2 then fitN (x.h.n + y.h.n) else (30, V0)) from by rw [h]; rfl]
     exact ckNum11 e ai ci an cn ak ck am cm w g ih hf h3 s8 s4 cx h x y hl (inR_of hox) (inR_of hoy)
    ·rw [show op2 K.q e.op x y = (if x.h.k = 2 ∧ y.h.k = 2 then fitN (x.h.n - y.h.n) else (30, V0)) from by rw [h]; rfl]
     exact ckNum12 e ai ci an cn ak ck am cm w g ih hf h3 s8 s4 cx h x y hl (inR_of hox) (inR_of hoy)
    ·rw [show op2 K.q e.op x y = (if x.h.k = 2 ∧ y.h.k = 2 then fitN (x.h.n * y.h.n) else (30, V0)) from by rw [h]; rfl]
     exact ckNum13 e ai ci an cn ak ck am cm w g ih hf h3 s8 s4 cx h x y hl (inR_of hox) (inR_of hoy)
    ·rw [show op2 K.q e.op x y = (if x.h.k = 4 ∧ ((refsL y).all fun x => decide (x.h.k = 4)) = true then (0, truV ((refsL y).any fun z => K.X.isIn (usOf x) (usOf z))) else (30, V0)) from by rw [h]; rfl]
     exact ckOf e ai ci an cn ak ck am cm w g ih hf h3 s8 s4 n1 n2 n3 n4 n5 n7 (by omega) (by omega) (by omega) (by omega) (by omega) (by omega) cx ⟨s6, s7⟩ [x, y] hl _ fun Wc W ao cap g1 g2 row => of15_c K e ai ci an cn ak ck am cm x y W ao cap h row (fun b hb => hb.2) g2.at1 (by have := ((sm_v y).1 hoy.sm).1; omega)
    ·rw [show op2 K.q e.op x y = (if x.h.k = 5 then (0, truV (holdsB x y)) else (30, V0)) from by rw [h]; rfl]
     exact ckOf e ai ci an cn ak ck am cm w g ih hf h3 s8 s4 n1 n2 n3 n4 n5 n7 (by omega) (by omega) (by omega) (by omega) (by omega) (by omega) cx ⟨s6, s7⟩ [x, y] hl _ fun Wc W ao cap g1 g2 row => of21_c K e ai ci an cn ak ck am cm x y W ao cap h row (fun b hb => hb.2) g2.at1
    ·rw [show op2 K.q e.op x y = (if x.h.k = 5 ∧ y.h.k = 5 then (0, truV (!(y.l.any fun z => !holdsB x z))) else (30, V0)) from by rw [h]; rfl]
     exact ckOf e ai ci an cn ak ck am cm w g ih hf h3 s8 s4 n1 n2 n3 n4 n5 n7 (by omega) (by omega) (by omega) (by omega) (by omega) (by omega) cx ⟨s6, s7⟩ [x, y] hl _ fun Wc W ao cap g1 g2 row => of22_c K e ai ci an cn ak ck am cm x y W ao cap h row (fun b hb => hb.2) g2.at1
    ·rw [show op2 K.q e.op x y = (if x.h.k = 5 ∧ y.h.k = 5 then (0, truV (y.l.any fun z => holdsB x z)) else (30, V0)) from by rw [h]; rfl]
     exact ckOf e ai ci an cn ak ck am cm w g ih hf h3 s8 s4 n1 n2 n3 n4 n5 n7 (by omega) (by omega) (by omega) (by omega) (by omega) (by omega) cx ⟨s6, s7⟩ [x, y] hl _ fun Wc W ao cap g1 g2 row => of23_c K e ai ci an cn ak ck am cm x y W ao cap h row (fun b hb => hb.2) g2.at1
   ·obtain ⟨k, l, hl⟩ : ∃ k l, evL (evS K.q n) e.ks = (k, l) := ⟨_, _, rfl⟩
    have hnil : l = [] := evL_nil (by rw [hl] at h0; exact h0) hl
    subst hnil
    have hp : evM K.q (evS K.q n) e.op e.nm e.ks = (k, V0) := by rw [hk]; rw [hk] at h0 hl; rw [hL.1 h0, hl]
    rw [hp]
    rw [hl] at h0
    exact ckErr e ai ci an cn ak ck am cm w g ih hf h3 s8 s4 n1 n2 n3 n4 n5 n7 k h0 hl
  ·have hf : formB e = false := by simpa using hf
   rw [evS, if_pos hf]
   exact ckBad e ai ci an cn ak ck am cm w g hf
end Go.Proofs.YtnchohglplobeaaGreat
