/- reckon (C4). Condition: its kids. reckon (C5). Condition: its kids. -/
import Derived.Test.YtnchohglplobeaaGreatZg17
set_option linter.unusedVariables false
set_option linter.unusedSimpArgs false
set_option linter.unnecessarySimpa false
namespace Go.Proofs.YtnchohglplobeaaGreat
open Go.RowKit Go.Sort Go.Maps
set_option maxRecDepth 100000 in
set_option maxHeartbeats 4000000 in
theorem ck4 {K : Rk} {W0 : World} (e : E) (ai : Option Addr) (ci : Nat) (an : Option Addr) (cn : Nat) (ak : Option Addr) (ck : Nat) (am : Option Addr) (cm : Nat) (w : World) (g : Go K.X W0 w) {n : Nat} (ih : CkE K W0 n) (hf : formB e = true) (hop : e.op = 4) (hr : RowB W0 12 encE4 (RE n) e.ks (.slice ak e.ks.length ck)) (ho : ∀ x ∈ e.ks, OkE n x) : Calls Tryz.prog 33 #[K.v, ex12 e ai ci an cn ak ck am cm] w (VR K.X (fun b => b < 0) (decL false (e.ks.map fun x => trS (evS K.q n x))) w) := by
 have HG0 := Lib.hid g
 have HA := Lib.hid (hA0 g)
 have HCNT := Lib.hid (show ∀ W, Calls Tryz.prog 64 #[ex12 e ai ci an cn ak ck am cm] W (fun r w' => r = .returned (.bool true) ∧ Low W w') from fun W => by have h := count_c e W ai ci an cn ak ck am cm; rwa [hf] at h)
 have HOP := Lib.hid hop
 have HC := Lib.hid fun W (h : Go K.X W0 W) => decided_c ih e.ks false ak ck W hr ho h (A := (fun b => b < 0))
 obtain ⟨p, hp⟩ : ∃ p : Int × V, p = decL false (e.ks.map fun x => trS (evS K.q n x)) := ⟨_, rfl⟩
 rw [← hp] at HC ⊢
 unfold VR at HC
 clear hf g hop hp hr ho ih
 obtain ⟨U, HU, LU, ZU, BK, BE, BR⟩ := boxes3 w [.string K.pu.t, .string K.pu.i, .string K.au.t, .string K.au.i, .string K.ru.t, .string K.ru.i, .int .i64 K.c.h.k, .bool K.c.h.b, .int .i64 K.c.h.n, .string K.c.h.s, .string K.c.h.t, .string K.c.h.i, .slice K.ai K.c.l.length K.ci, .slice K.an K.c.ns.length K.cn, .pointer K.xp, .map (some K.mb)] 80 [.int .i64 e.op, .int .i64 e.v.h.k, .bool e.v.h.b, .int .i64 e.v.h.n, .string e.v.h.s, .string e.v.h.t, .string e.v.h.i, .slice ai e.v.l.length ci, .slice an e.v.ns.length cn, .string e.nm, .slice ak e.ks.length ck, .slice am e.ns.length cm] 30 [.int .i64 0, .bool false, .int .i64 0, .string ⟨#[]⟩, .string ⟨#[]⟩, .string ⟨#[]⟩, .slice none 0 0, .slice none 0 0] 27
 go_enter Tryz.func33, Tryz.ntmps33
 go_upto_region 1 with fail
 rw [← HU.out]
 clear HU
 have HGU := Lib.hid (Go.of HG0.out.at1 LU.out)
 obtain ⟨e0, e1, e2, e3, e4, e5, e6, e7, e8, e9, e10, e11⟩ := BE.out.at12
 go_wp2_with (first | (go_at_call 64; refine (HCNT.out _).mono ?_; rintro e w1 ⟨rfl, l1⟩; have G1 := Lib.hid (Go.of HGU.out.at1 l1); clear l1 HCNT e0 e1 e2 e3 e4 e5 e6 e7 e8 e9 e10 e11; obtain ⟨k0, k1, k2, k3, k4, k5, k6, k7, k8, k9, k10, k11, k12, k13, k14, k15⟩ := (G1.out.box BK.out (by simp)).at16; obtain ⟨e0, e1, e2, e3, e4, e5, e6, e7, e8, e9, e10, e11⟩ := (G1.out.box BE.out (by simp)).at12; (try rw [HOP.out] at e0)) | (go_at_call 67; refine (HC.out _ (HG0.out.trans (HGU.out.trans G1.out))).mono ?_; rintro e w2 ⟨bi, di, bn, dn, rfl, hrx, g2⟩; have G2 := Lib.hid (G1.out.trans g2); have HRX := Lib.hid hrx; have HZ := Lib.hid G1.out.size; clear g2 hrx HC e0 e1 e2 e3 e4 e5 e6 e7 e8 e9 e10 e11 k0 k1 k2 k3 k4 k5 k6 k7 k8 k9 k10 k11 k12 k13 k14 k15; obtain ⟨z0, z1, z2, z3, z4, z5, z6, z7⟩ := (G2.out.box BR.out (by simp)).at8; obtain ⟨f0, f1, f2, f3, f4, f5, f6, f7⟩ := (G2.out.box BR.out (by simp)).op8))
 refine bodyPost_ret (v := .tuple #[av8 p.2.h bi p.2.l.length di bn p.2.ns.length dn, .int .i64 p.1]) (by simp [results, Tryz.results33, go_sem, World.cell?_setCell_same', z0, z1, z2, z3, z4, z5, z6, z7]; try rfl) rfl ?_
 exact vr_put (k := w.heap.size + 2) (A := (fun b => b < 0)) (U := U) (HRX.out.mono fun b hb => hb.imp id fun h => Nat.le_trans HZ.out h) (HGU.out.trans G2.out) LU.out.size ⟨by omega, by rw [ZU.out]; omega⟩ HA.out
end Go.Proofs.YtnchohglplobeaaGreat
namespace Go.Proofs.YtnchohglplobeaaGreat
open Go.RowKit Go.Sort Go.Maps
set_option maxRecDepth 100000 in
set_option maxHeartbeats 4000000 in
theorem ck5 {K : Rk} {W0 : World} (e : E) (ai : Option Addr) (ci : Nat) (an : Option Addr) (cn : Nat) (ak : Option Addr) (ck : Nat) (am : Option Addr) (cm : Nat) (w : World) (g : Go K.X W0 w) {n : Nat} (ih : CkE K W0 n) (hf : formB e = true) (hop : e.op = 5) (hr : RowB W0 12 encE4 (RE n) e.ks (.slice ak e.ks.length ck)) (ho : ∀ x ∈ e.ks, OkE n x) : Calls Tryz.prog 33 #[K.v, ex12 e ai ci an cn ak ck am cm] w (VR K.X (fun b => b < 0) (decL true (e.ks.map fun x => trS (evS K.q n x))) w) := by
 have HG0 := Lib.hid g
 have HA := Lib.hid (hA0 g)
 have HCNT := Lib.hid (show ∀ W, Calls Tryz.prog 64 #[ex12 e ai ci an cn ak ck am cm] W (fun r w' => r = .returned (.bool true) ∧ Low W w') from fun W => by have h := count_c e W ai ci an cn ak ck am cm; rwa [hf] at h)
 have HOP := Lib.hid hop
 have HC := Lib.hid fun W (h : Go K.X W0 W) => decided_c ih e.ks true ak ck W hr ho h (A := (fun b => b < 0))
 obtain ⟨p, hp⟩ : ∃ p : Int × V, p = decL true (e.ks.map fun x => trS (evS K.q n x)) := ⟨_, rfl⟩
 rw [← hp] at HC ⊢
 unfold VR at HC
 clear hf g hop hp hr ho ih
 obtain ⟨U, HU, LU, ZU, BK, BE, BR⟩ := boxes3 w [.string K.pu.t, .string K.pu.i, .string K.au.t, .string K.au.i, .string K.ru.t, .string K.ru.i, .int .i64 K.c.h.k, .bool K.c.h.b, .int .i64 K.c.h.n, .string K.c.h.s, .string K.c.h.t, .string K.c.h.i, .slice K.ai K.c.l.length K.ci, .slice K.an K.c.ns.length K.cn, .pointer K.xp, .map (some K.mb)] 80 [.int .i64 e.op, .int .i64 e.v.h.k, .bool e.v.h.b, .int .i64 e.v.h.n, .string e.v.h.s, .string e.v.h.t, .string e.v.h.i, .slice ai e.v.l.length ci, .slice an e.v.ns.length cn, .string e.nm, .slice ak e.ks.length ck, .slice am e.ns.length cm] 30 [.int .i64 0, .bool false, .int .i64 0, .string ⟨#[]⟩, .string ⟨#[]⟩, .string ⟨#[]⟩, .slice none 0 0, .slice none 0 0] 27
 go_enter Tryz.func33, Tryz.ntmps33
 go_upto_region 1 with fail
 rw [← HU.out]
 clear HU
 have HGU := Lib.hid (Go.of HG0.out.at1 LU.out)
 obtain ⟨e0, e1, e2, e3, e4, e5, e6, e7, e8, e9, e10, e11⟩ := BE.out.at12
 go_wp2_with (first | (go_at_call 64; refine (HCNT.out _).mono ?_; rintro e w1 ⟨rfl, l1⟩; have G1 := Lib.hid (Go.of HGU.out.at1 l1); clear l1 HCNT e0 e1 e2 e3 e4 e5 e6 e7 e8 e9 e10 e11; obtain ⟨k0, k1, k2, k3, k4, k5, k6, k7, k8, k9, k10, k11, k12, k13, k14, k15⟩ := (G1.out.box BK.out (by simp)).at16; obtain ⟨e0, e1, e2, e3, e4, e5, e6, e7, e8, e9, e10, e11⟩ := (G1.out.box BE.out (by simp)).at12; (try rw [HOP.out] at e0)) | (go_at_call 67; refine (HC.out _ (HG0.out.trans (HGU.out.trans G1.out))).mono ?_; rintro e w2 ⟨bi, di, bn, dn, rfl, hrx, g2⟩; have G2 := Lib.hid (G1.out.trans g2); have HRX := Lib.hid hrx; have HZ := Lib.hid G1.out.size; clear g2 hrx HC e0 e1 e2 e3 e4 e5 e6 e7 e8 e9 e10 e11 k0 k1 k2 k3 k4 k5 k6 k7 k8 k9 k10 k11 k12 k13 k14 k15; obtain ⟨z0, z1, z2, z3, z4, z5, z6, z7⟩ := (G2.out.box BR.out (by simp)).at8; obtain ⟨f0, f1, f2, f3, f4, f5, f6, f7⟩ := (G2.out.box BR.out (by simp)).op8))
 refine bodyPost_ret (v := .tuple #[av8 p.2.h bi p.2.l.length di bn p.2.ns.length dn, .int .i64 p.1]) (by simp [results, Tryz.results33, go_sem, World.cell?_setCell_same', z0, z1, z2, z3, z4, z5, z6, z7]; try rfl) rfl ?_
 exact vr_put (k := w.heap.size + 2) (A := (fun b => b < 0)) (U := U) (HRX.out.mono fun b hb => hb.imp id fun h => Nat.le_trans HZ.out h) (HGU.out.trans G2.out) LU.out.size ⟨by omega, by rw [ZU.out]; omega⟩ HA.out
end Go.Proofs.YtnchohglplobeaaGreat
