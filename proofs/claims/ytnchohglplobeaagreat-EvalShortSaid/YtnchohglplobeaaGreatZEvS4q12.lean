/- choice: If. Condition: reckon. -/
import Derived.Test.YtnchohglplobeaaGreatZg14
set_option linter.unusedVariables false
set_option linter.unusedSimpArgs false
set_option linter.unnecessarySimpa false
namespace Go.Proofs.YtnchohglplobeaaGreat
open Go.RowKit Go.Sort Go.Maps
set_option maxRecDepth 100000 in
set_option maxHeartbeats 4000000 in
theorem choice_c {K : Rk} {W0 : World} {n : Nat} (ih : CkE K W0 n) (a b c : E) (p0 : Option Addr) (c0 : Nat) (w : World) (hr : RowB W0 12 encE4 (RE n) [a, b, c] (.slice p0 3 c0)) (hoa : OkE n a) (hob : OkE n b) (hoc : OkE n c) (g : Go K.X W0 w) : Calls Tryz.prog 68 #[K.v, .slice p0 3 c0] w (VR K.X (fun b => b < 0) (truS (evS K.q n a) fun x => if x = true then evS K.q n b else evS K.q n c) w) := by
 have HG0 := Lib.hid g
 have HA := Lib.hid (hA0 g)
 obtain ⟨xb, xo, xai, xci, xan, xcn, xak, xck, xam, xcm, xp, xcs, xre⟩ := re_at hr (show 0 < _ by simp)
 simp only [List.getElem_cons_zero, List.getElem_cons_succ] at xcs xre
 obtain ⟨yb, yo, yai, yci, yan, ycn, yak, yck, yam, ycm, yp, ycs, yre⟩ := re_at hr (show 1 < _ by simp)
 simp only [List.getElem_cons_zero, List.getElem_cons_succ] at ycs yre
 obtain ⟨ub, uo, uai, uci, uan, ucn, uak, uck, uam, ucm, up, ucs, ure⟩ := re_at hr (show 2 < _ by simp)
 simp only [List.getElem_cons_zero, List.getElem_cons_succ] at ucs ure
 subst xp
 simp only [Option.some.injEq, Addr.mk.injEq] at yp up
 obtain ⟨rfl, rfl, -⟩ := yp
 obtain ⟨rfl, rfl, -⟩ := up
 have HT := Lib.hid fun W (l : Go K.X w W) => truthOf_c ih a xai xci xan xcn xak xck xam xcm W xre hoa (g.trans l)
 have HB := Lib.hid fun W (l : Go K.X w W) => ih b yai yci yan ycn yak yck yam ycm W yre hob (g.trans l)
 have HCC := Lib.hid fun W (l : Go K.X w W) => ih c uai uci uan ucn uak uck uam ucm W ure hoc (g.trans l)
 have HXC := Lib.hid xcs
 have HYC := Lib.hid ycs
 have HUC := Lib.hid ucs
 unfold TrP at HT
 unfold VR at HB HCC
 obtain ⟨p, hp⟩ : ∃ p : Int × V, p = (truS (evS K.q n a) fun x => if x = true then evS K.q n b else evS K.q n c) := ⟨_, rfl⟩
 rw [← hp]
 have HP := Lib.hid (show p = if (trS (evS K.q n a)).1 = 0 then (if (trS (evS K.q n a)).2 = true then evS K.q n b else evS K.q n c) else ((trS (evS K.q n a)).1, V0) by
  rw [hp]
  unfold truS trS
  by_cases h0 : (evS K.q n a).1 = 0
  ·rw [if_pos h0, if_pos h0]
   by_cases h1 : (evS K.q n a).2.h.k = 1
   ·rw [if_pos h1, if_pos h1]; rfl
   ·rw [if_neg h1, if_neg h1]; rfl
  ·rw [if_neg h0, if_neg h0, if_neg h0])
 obtain ⟨⟨k, t⟩, ht⟩ : ∃ p, p = trS (evS K.q n a) := ⟨_, rfl⟩
 simp only [← ht] at HT HP
 obtain ⟨pb, hpb⟩ : ∃ p, p = evS K.q n b := ⟨_, rfl⟩
 obtain ⟨pc, hpc⟩ : ∃ p, p = evS K.q n c := ⟨_, rfl⟩
 simp only [← hpb, ← hpc] at HB HCC HP
 clear hr hoa hob hoc g xcs xre ycs yre ucs ure hp ht hpb hpc ih
 obtain ⟨U, HU, LU, ZU, BK, BR⟩ := boxes2 w [.string K.pu.t, .string K.pu.i, .string K.au.t, .string K.au.i, .string K.ru.t, .string K.ru.i, .int .i64 K.c.h.k, .bool K.c.h.b, .int .i64 K.c.h.n, .string K.c.h.s, .string K.c.h.t, .string K.c.h.i, .slice K.ai K.c.l.length K.ci, .slice K.an K.c.ns.length K.cn, .pointer K.xp, .map (some K.mb)] 80 [.int .i64 0, .bool false, .int .i64 0, .string ⟨#[]⟩, .string ⟨#[]⟩, .string ⟨#[]⟩, .slice none 0 0, .slice none 0 0] 27
 go_enter Tryz.func68, Tryz.ntmps68
 go_upto_region 1 with fail
 rw [← HU.out]
 clear HU
 have HGU := Lib.hid (Go.of HG0.out.at1 LU.out)
 have HGD := Lib.hid (HGU.out.low (low_drew (Low.refl U)))
 obtain ⟨k0, k1, k2, k3, k4, k5, k6, k7, k8, k9, k10, k11, k12, k13, k14, k15⟩ := (BK.out.low (low_drew (Low.refl U))).at16
 obtain ⟨e0, e1, e2, e3, e4, e5, e6, e7, e8, e9, e10, e11⟩ := cells12b (HG0.out.trans HGD.out |>.lo.cells HXC.out)
 simp only [Nat.zero_mul, Nat.add_zero] at e0 e1 e2 e3 e4 e5 e6 e7 e8 e9 e10 e11
 go_cut [6, 7] from 8 to 15 (fun v6 v7 wx => v6 = .bool t ∧ v7 = .int .i64 k ∧ Hid (Go K.X U wx))
 case first =>
  go_region_with (go_at_call 98; refine (HT.out _ HGD.out).mono ?_; rintro e w1 ⟨rfl, g1⟩; have HGX := Lib.hid ((Go.of HGU.out.at1 (low_drew (Low.refl U))).trans g1); clear g1 HT k0 k1 k2 k3 k4 k5 k6 k7 k8 k9 k10 k11 k12 k13 k14 k15 e0 e1 e2 e3 e4 e5 e6 e7 e8 e9 e10 e11)
  all_goals
   go_wp2_with fail
   go_meet
   exact ⟨rfl, rfl, HGX⟩
 case rest =>
 obtain ⟨rfl, rfl, HGX⟩ := hcut
 clear k0 k1 k2 k3 k4 k5 k6 k7 k8 k9 k10 k11 k12 k13 k14 k15 e0 e1 e2 e3 e4 e5 e6 e7 e8 e9 e10 e11 HT
 have HG1 := Lib.hid (HGU.out.trans HGX.out)
 have BK1 := Lib.hid (HGX.out.box BK.out (by simp))
 have BR1 := Lib.hid (HGX.out.box BR.out (by simp))
 have HZ1 := Lib.hid HGX.out.size
 rename World => w1
 by_cases h0 : k = 0
 ·subst h0
  have HP2 := Lib.hid (show p = if t = true then pb else pc by rw [HP.out, if_pos rfl])
  clear HP
  cases t with
  | true =>
   have HPP : Hid (p = pb) := HP2
   clear HP2 HCC HUC
   have HGD1 := Lib.hid (HG1.out.low (low_drew (Low.refl w1)))
   obtain ⟨k0, k1, k2, k3, k4, k5, k6, k7, k8, k9, k10, k11, k12, k13, k14, k15⟩ := (BK1.out.low (low_drew (Low.refl w1))).at16
   obtain ⟨e0, e1, e2, e3, e4, e5, e6, e7, e8, e9, e10, e11⟩ := cells12b (HG0.out.trans HGD1.out |>.lo.cells HYC.out)
   simp only [Nat.one_mul] at e0 e1 e2 e3 e4 e5 e6 e7 e8 e9 e10 e11
   go_wp2_with fail
   go_region_with (go_at_call 33; refine (HB.out _ HGD1.out).mono ?_; rintro e w2 ⟨bi, di, bn, dn, rfl, hrx, g2⟩; have HG2 := Lib.hid (HGD1.out.trans g2); have HRX := Lib.hid hrx; have BR2 := Lib.hid (((Go.of HG1.out.at1 (low_drew (Low.refl w1))).trans g2).box BR1.out (by simp)); have HZ2 := Lib.hid (low_drew (Low.refl w1)).size; clear g2 hrx HB k0 k1 k2 k3 k4 k5 k6 k7 k8 k9 k10 k11 k12 k13 k14 k15 e0 e1 e2 e3 e4 e5 e6 e7 e8 e9 e10 e11; obtain ⟨z0, z1, z2, z3, z4, z5, z6, z7⟩ := BR2.out.at8; obtain ⟨f0, f1, f2, f3, f4, f5, f6, f7⟩ := BR2.out.op8)
   all_goals
    go_wp2_with fail
    refine bodyPost_ret (v := .tuple #[av8 pb.2.h bi pb.2.l.length di bn pb.2.ns.length dn, .int .i64 pb.1]) (by simp [results, Tryz.results68, go_sem, World.cell?_setCell_same', z0, z1, z2, z3, z4, z5, z6, z7]; try rfl) rfl ?_
    rw [HPP.out]
    exact vr_put (k := w.heap.size + 1) (A := fun b => b < 0) (U := U) (HRX.out.mono fun b hb => hb.imp id fun h => Nat.le_trans HZ1.out (Nat.le_trans HZ2.out h)) HG2.out LU.out.size ⟨by omega, by rw [ZU.out]; omega⟩ HA.out
  | false =>
   have HPP : Hid (p = pc) := HP2
   clear HP2 HB HYC
   have HGD1 := Lib.hid (HG1.out.low (low_drew (Low.refl w1)))
   obtain ⟨k0, k1, k2, k3, k4, k5, k6, k7, k8, k9, k10, k11, k12, k13, k14, k15⟩ := (BK1.out.low (low_drew (Low.refl w1))).at16
   obtain ⟨e0, e1, e2, e3, e4, e5, e6, e7, e8, e9, e10, e11⟩ := cells12b (HG0.out.trans HGD1.out |>.lo.cells HUC.out)
   go_wp2_with fail
   go_region_with (go_at_call 33; refine (HCC.out _ HGD1.out).mono ?_; rintro e w2 ⟨bi, di, bn, dn, rfl, hrx, g2⟩; have HG2 := Lib.hid (HGD1.out.trans g2); have HRX := Lib.hid hrx; have BR2 := Lib.hid (((Go.of HG1.out.at1 (low_drew (Low.refl w1))).trans g2).box BR1.out (by simp)); have HZ2 := Lib.hid (low_drew (Low.refl w1)).size; clear g2 hrx HCC k0 k1 k2 k3 k4 k5 k6 k7 k8 k9 k10 k11 k12 k13 k14 k15 e0 e1 e2 e3 e4 e5 e6 e7 e8 e9 e10 e11; obtain ⟨z0, z1, z2, z3, z4, z5, z6, z7⟩ := BR2.out.at8; obtain ⟨f0, f1, f2, f3, f4, f5, f6, f7⟩ := BR2.out.op8)
   all_goals
    go_wp2_with fail
    refine bodyPost_ret (v := .tuple #[av8 pc.2.h bi pc.2.l.length di bn pc.2.ns.length dn, .int .i64 pc.1]) (by simp [results, Tryz.results68, go_sem, World.cell?_setCell_same', z0, z1, z2, z3, z4, z5, z6, z7]; try rfl) rfl ?_
    rw [HPP.out]
    exact vr_put (k := w.heap.size + 1) (A := fun b => b < 0) (U := U) (HRX.out.mono fun b hb => hb.imp id fun h => Nat.le_trans HZ1.out (Nat.le_trans HZ2.out h)) HG2.out LU.out.size ⟨by omega, by rw [ZU.out]; omega⟩ HA.out
 ·have HPP := Lib.hid (show p = (k, V0) by rw [HP.out, if_neg h0])
  have hk2 : (k == 0) = false := by simpa using h0
  have hk4 : (k != 0) = true := by simpa using h0
  clear h0 HP
  obtain ⟨z0, z1, z2, z3, z4, z5, z6, z7⟩ := BR1.out.at8
  obtain ⟨f0, f1, f2, f3, f4, f5, f6, f7⟩ := BR1.out.op8
  go_wp2_with fail
  refine bodyPost_ret (v := .tuple #[zeV, .int .i64 k]) (by simp [results, Tryz.results68, go_sem, World.cell?_setCell_same', z0, z1, z2, z3, z4, z5, z6, z7]; try rfl) rfl ?_
  rw [HPP.out]
  exact vr_err (HG1.out.k (k := w.heap.size + 1) (kept8 _ _ _ _ _ _ _ _ _ _) (by omega))
end Go.Proofs.YtnchohglplobeaaGreat
