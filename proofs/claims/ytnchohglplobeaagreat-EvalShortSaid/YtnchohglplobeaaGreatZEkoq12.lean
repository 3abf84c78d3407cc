/- reckon (Co). Condition: its kids. -/
import Derived.Test.YtnchohglplobeaaGreatZg17
set_option linter.unusedVariables false
set_option linter.unusedSimpArgs false
set_option linter.unnecessarySimpa false
namespace Go.Proofs.YtnchohglplobeaaGreat
open Go.RowKit Go.Sort Go.Maps
set_option maxRecDepth 100000 in
set_option maxHeartbeats 4000000 in
theorem ckOf {K : Rk} {W0 : World} (e : E) (ai : Option Addr) (ci : Nat) (an : Option Addr) (cn : Nat) (ak : Option Addr) (ck : Nat) (am : Option Addr) (cm : Nat) (w : World) (g : Go K.X W0 w) {n : Nat} (ih : CkE K W0 n) (hf : formB e = true) (hr : RowB W0 12 encE4 (RE n) e.ks (.slice ak e.ks.length ck)) (ho : ∀ x ∈ e.ks, OkE n x) (hl : e.ks.length ≤ 70000) (n1 : e.op ≠ 1) (n2 : e.op ≠ 2) (n3 : e.op ≠ 3) (n4 : e.op ≠ 4) (n5 : e.op ≠ 5) (n7 : e.op ≠ 7) (n9 : e.op ≠ 9) (n10 : e.op ≠ 10) (n11 : e.op ≠ 11) (n12 : e.op ≠ 12) (n13 : e.op ≠ 13) (n14 : e.op ≠ 14) (cx : Cx K W0) (hin : -9223372036854775808 ≤ e.op ∧ e.op ≤ 9223372036854775807) (l : List V) (hp : evL (evS K.q n) e.ks = (0, l)) (p : Int × V)
  (HO : ∀ (Wc W : World) (ao : Option Addr) (cap : Nat), Go K.X w Wc → Go K.X Wc W → RowAt (fun b => (b < 0 ∨ Wc.heap.size ≤ b) ∧ b < W.heap.size) W l (.slice ao l.length cap) → Calls Tryz.prog 71 #[K.v, ex12 e ai ci an cn ak ck am cm, .slice ao l.length cap] W (VR K.X (fun b => (b < 0 ∨ Wc.heap.size ≤ b) ∧ b < W.heap.size) p W)) : Calls Tryz.prog 33 #[K.v, ex12 e ai ci an cn ak ck am cm] w (VR K.X (fun b => b < 0) (p) w) := by
 have HG0 := Lib.hid g
 have HA := Lib.hid (hA0 g)
 have HCNT := Lib.hid (show ∀ W, Calls Tryz.prog 64 #[ex12 e ai ci an cn ak ck am cm] W (fun r w' => r = .returned (.bool true) ∧ Low W w') from fun W => by have h := count_c e W ai ci an cn ak ck am cm; rwa [hf] at h)
 have HAL := Lib.hid fun W (h : Go K.X W0 W) => reckonAll_c ih e.ks ak ck W hr ho hl h
 unfold AllPE at HAL
 rw [hp] at HAL
 dsimp only at HAL
 have HOO := Lib.hid HO
 unfold VR at HOO
 have HCX := Lib.hid cx
 have HNN := Lib.hid (opF_none (kn e.op hin) n9 n10 n11 n12 n13 n14)
 have HLK := Lib.hid (show ∀ W, OpsAt W K.mb → (Instr.lookup 77 (.map (some K.mb)) (.int .i64 e.op) true).run Tryz.prog W = .ok (.tuple #[.nilFunc, .bool false]) W from fun W h => by
  have := MapAt.lookOk h keyedKn und_ops (z := .nilFunc) (by rfl) (kn e.op hin)
  rw [HNN.out] at this
  exact this)
 have b1 : (e.op == 1) = false := by simpa using n1
 have b2 : (e.op == 2) = false := by simpa using n2
 have b3 : (e.op == 3) = false := by simpa using n3
 have b4 : (e.op == 4) = false := by simpa using n4
 have b5 : (e.op == 5) = false := by simpa using n5
 have b7 : (e.op == 7) = false := by simpa using n7
 clear HNN
 clear hf g hr ho ih hp cx HO hin n1 n2 n3 n4 n5 n7 n9 n10 n11 n12 n13 n14
 obtain ⟨U, HU, LU, ZU, BK, BE, BR⟩ := boxes3 w [.string K.pu.t, .string K.pu.i, .string K.au.t, .string K.au.i, .string K.ru.t, .string K.ru.i, .int .i64 K.c.h.k, .bool K.c.h.b, .int .i64 K.c.h.n, .string K.c.h.s, .string K.c.h.t, .string K.c.h.i, .slice K.ai K.c.l.length K.ci, .slice K.an K.c.ns.length K.cn, .pointer K.xp, .map (some K.mb)] 80 [.int .i64 e.op, .int .i64 e.v.h.k, .bool e.v.h.b, .int .i64 e.v.h.n, .string e.v.h.s, .string e.v.h.t, .string e.v.h.i, .slice ai e.v.l.length ci, .slice an e.v.ns.length cn, .string e.nm, .slice ak e.ks.length ck, .slice am e.ns.length cm] 30 [.int .i64 0, .bool false, .int .i64 0, .string ⟨#[]⟩, .string ⟨#[]⟩, .string ⟨#[]⟩, .slice none 0 0, .slice none 0 0] 27
 go_enter Tryz.func33, Tryz.ntmps33
 go_upto_region 1 with fail
 rw [← HU.out]
 clear HU
 have HGU := Lib.hid (Go.of HG0.out.at1 LU.out)
 obtain ⟨e0, e1, e2, e3, e4, e5, e6, e7, e8, e9, e10, e11⟩ := BE.out.at12
 go_wp2_with (first | (go_at_call 64; refine (HCNT.out _).mono ?_; rintro e w1 ⟨rfl, l1⟩; have G1 := Lib.hid (Go.of HGU.out.at1 l1); clear l1 HCNT e0 e1 e2 e3 e4 e5 e6 e7 e8 e9 e10 e11; obtain ⟨k0, k1, k2, k3, k4, k5, k6, k7, k8, k9, k10, k11, k12, k13, k14, k15⟩ := (G1.out.box BK.out (by simp)).at16; obtain ⟨e0, e1, e2, e3, e4, e5, e6, e7, e8, e9, e10, e11⟩ := (G1.out.box BE.out (by simp)).at12) | (go_at_call 69; refine (HAL.out _ (HG0.out.trans (HGU.out.trans G1.out))).mono ?_; rintro e w2 ⟨ra, rc, rfl, hrx, g2⟩; have G2 := Lib.hid (G1.out.trans g2); have HROW := Lib.hid hrx.lt; have HG2 := Lib.hid g2; have hlk := HLK.out w2 (HCX.out.at' (HG0.out.trans (HGU.out.trans G2.out))); clear g2 hrx HAL e0 e1 e2 e3 e4 e5 e6 e7 e8 e9 e10 e11 k0 k1 k2 k3 k4 k5 k6 k7 k8 k9 k10 k11 k12 k13 k14 k15; obtain ⟨k0, k1, k2, k3, k4, k5, k6, k7, k8, k9, k10, k11, k12, k13, k14, k15⟩ := (G2.out.box BK.out (by simp)).at16; obtain ⟨e0, e1, e2, e3, e4, e5, e6, e7, e8, e9, e10, e11⟩ := (G2.out.box BE.out (by simp)).at12) | (go_at_call 71; refine (HOO.out w1 w2 _ _ (HGU.out.trans G1.out) HG2.out HROW.out).mono ?_; rintro e w3 ⟨bi, di, bn, dn, rfl, hrx, g3⟩; have G3 := Lib.hid (G2.out.trans g3); have HRX := Lib.hid hrx; have HZ := Lib.hid G1.out.size; have HZ2 := Lib.hid G2.out.size; clear g3 hrx HOO e0 e1 e2 e3 e4 e5 e6 e7 e8 e9 e10 e11 k0 k1 k2 k3 k4 k5 k6 k7 k8 k9 k10 k11 k12 k13 k14 k15 hlk; obtain ⟨z0, z1, z2, z3, z4, z5, z6, z7⟩ := (G3.out.box BR.out (by simp)).at8; obtain ⟨f0, f1, f2, f3, f4, f5, f6, f7⟩ := (G3.out.box BR.out (by simp)).op8))
 refine bodyPost_ret (v := .tuple #[av8 p.2.h bi p.2.l.length di bn p.2.ns.length dn, .int .i64 p.1]) (by simp [results, Tryz.results33, go_sem, World.cell?_setCell_same', z0, z1, z2, z3, z4, z5, z6, z7]; try rfl) rfl ?_
 exact vr_put (k := w.heap.size + 2) (A := (fun b => b < 0)) (U := U) (HRX.out.mono fun b hb => by rcases hb with ⟨h | h, -⟩ | h; exact .inl h; exact .inr (Nat.le_trans HZ.out h); exact .inr (Nat.le_trans HZ2.out h)) (HGU.out.trans G3.out) LU.out.size ⟨by omega, by rw [ZU.out]; omega⟩ HA.out
end Go.Proofs.YtnchohglplobeaaGreat
