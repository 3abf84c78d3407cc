/- reckon (C7). Condition: its kids. reckon (Cb). Condition: its kids. reckon (Ce). Condition: its kids. Plain digits: which bytes are those of a number, and which number they are. No condition. ints.Mul and ints.Neg: the product and the opposite, or 14. No condition but that the arguments are 64-bit numbers. -/
import Derived.Test.YtnchohglplobeaaGreatZg17
set_option linter.unusedVariables false
set_option linter.unusedSimpArgs false
set_option linter.unnecessarySimpa false
namespace Go.Proofs.YtnchohglplobeaaGreat
open Go.RowKit Go.Sort Go.Maps
set_option maxRecDepth 100000 in
set_option maxHeartbeats 4000000 in
theorem ck7 {K : Rk} {W0 : World} (e : E) (ai : Option Addr) (ci : Nat) (an : Option Addr) (cn : Nat) (ak : Option Addr) (ck : Nat) (am : Option Addr) (cm : Nat) (w : World) (g : Go K.X W0 w) {n : Nat} (ih : CkE K W0 n) (hf : formB e = true) (hop : e.op = 7) (a b c : E) (hks : e.ks = [a, b, c]) (hr : RowB W0 12 encE4 (RE n) [a, b, c] (.slice ak 3 ck)) (hoa : OkE n a) (hob : OkE n b) (hoc : OkE n c) : Calls Tryz.prog 33 #[K.v, ex12 e ai ci an cn ak ck am cm] w (VR K.X (fun b => b < 0) (truS (evS K.q n a) fun x => if x = true then evS K.q n b else evS K.q n c) w) := by
 have HG0 := Lib.hid g
 have HA := Lib.hid (hA0 g)
 have HCNT := Lib.hid (show ∀ W, Calls Tryz.prog 64 #[ex12 e ai ci an cn ak ck am cm] W (fun r w' => r = .returned (.bool true) ∧ Low W w') from fun W => by have h := count_c e W ai ci an cn ak ck am cm; rwa [hf] at h)
 have HOP := Lib.hid hop
 have HC := Lib.hid fun W (h : Go K.X W0 W) => choice_c ih a b c ak ck W hr hoa hob hoc h
 obtain ⟨p, hp⟩ : ∃ p : Int × V, p = (truS (evS K.q n a) fun x => if x = true then evS K.q n b else evS K.q n c) := ⟨_, rfl⟩
 rw [← hp] at HC ⊢
 unfold VR at HC
 have hl : e.ks.length = 3 := by rw [hks]; rfl
 have HLN : Hid ((e.ks.length : Nat) = 3) := Lib.hid hl
 clear hf g hop hp hr ih hoa hob hoc hks hl
 obtain ⟨U, HU, LU, ZU, BK, BE, BR⟩ := boxes3 w [.string K.pu.t, .string K.pu.i, .string K.au.t, .string K.au.i, .string K.ru.t, .string K.ru.i, .int .i64 K.c.h.k, .bool K.c.h.b, .int .i64 K.c.h.n, .string K.c.h.s, .string K.c.h.t, .string K.c.h.i, .slice K.ai K.c.l.length K.ci, .slice K.an K.c.ns.length K.cn, .pointer K.xp, .map (some K.mb)] 80 [.int .i64 e.op, .int .i64 e.v.h.k, .bool e.v.h.b, .int .i64 e.v.h.n, .string e.v.h.s, .string e.v.h.t, .string e.v.h.i, .slice ai e.v.l.length ci, .slice an e.v.ns.length cn, .string e.nm, .slice ak e.ks.length ck, .slice am e.ns.length cm] 30 [.int .i64 0, .bool false, .int .i64 0, .string ⟨#[]⟩, .string ⟨#[]⟩, .string ⟨#[]⟩, .slice none 0 0, .slice none 0 0] 27
 go_enter Tryz.func33, Tryz.ntmps33
 go_upto_region 1 with fail
 rw [← HU.out]
 clear HU
 have HGU := Lib.hid (Go.of HG0.out.at1 LU.out)
 obtain ⟨e0, e1, e2, e3, e4, e5, e6, e7, e8, e9, e10, e11⟩ := BE.out.at12
 go_wp2_with (first | (go_at_call 64; refine (HCNT.out _).mono ?_; rintro e w1 ⟨rfl, l1⟩; have G1 := Lib.hid (Go.of HGU.out.at1 l1); clear l1 HCNT e0 e1 e2 e3 e4 e5 e6 e7 e8 e9 e10 e11; obtain ⟨k0, k1, k2, k3, k4, k5, k6, k7, k8, k9, k10, k11, k12, k13, k14, k15⟩ := (G1.out.box BK.out (by simp)).at16; obtain ⟨e0, e1, e2, e3, e4, e5, e6, e7, e8, e9, e10, e11⟩ := (G1.out.box BE.out (by simp)).at12; (try rw [HOP.out] at e0); rw [HLN.out] at e10) | (go_at_call 68; refine (HC.out _ (HG0.out.trans (HGU.out.trans G1.out))).mono ?_; rintro e w2 ⟨bi, di, bn, dn, rfl, hrx, g2⟩; have G2 := Lib.hid (G1.out.trans g2); have HRX := Lib.hid hrx; have HZ := Lib.hid G1.out.size; clear g2 hrx HC e0 e1 e2 e3 e4 e5 e6 e7 e8 e9 e10 e11 k0 k1 k2 k3 k4 k5 k6 k7 k8 k9 k10 k11 k12 k13 k14 k15; obtain ⟨z0, z1, z2, z3, z4, z5, z6, z7⟩ := (G2.out.box BR.out (by simp)).at8; obtain ⟨f0, f1, f2, f3, f4, f5, f6, f7⟩ := (G2.out.box BR.out (by simp)).op8))
 refine bodyPost_ret (v := .tuple #[av8 p.2.h bi p.2.l.length di bn p.2.ns.length dn, .int .i64 p.1]) (by simp [results, Tryz.results33, go_sem, World.cell?_setCell_same', z0, z1, z2, z3, z4, z5, z6, z7]; try rfl) rfl ?_
 exact vr_put (k := w.heap.size + 2) (A := (fun b => b < 0)) (U := U) (HRX.out.mono fun b hb => hb.imp id fun h => Nat.le_trans HZ.out h) (HGU.out.trans G2.out) LU.out.size ⟨by omega, by rw [ZU.out]; omega⟩ HA.out
end Go.Proofs.YtnchohglplobeaaGreat
namespace Go.Proofs.YtnchohglplobeaaGreat
open Go.RowKit Go.Sort Go.Maps
set_option maxRecDepth 100000 in
set_option maxHeartbeats 4000000 in
theorem ckBad {K : Rk} {W0 : World} (e : E) (ai : Option Addr) (ci : Nat) (an : Option Addr) (cn : Nat) (ak : Option Addr) (ck : Nat) (am : Option Addr) (cm : Nat) (w : World) (g : Go K.X W0 w) (hf : formB e = false) : Calls Tryz.prog 33 #[K.v, ex12 e ai ci an cn ak ck am cm] w (VR K.X (fun b => b < 0) ((1, V0)) w) := by
 have HG0 := Lib.hid g
 have HA := Lib.hid (hA0 g)
 have HCNT := Lib.hid (show ∀ W, Calls Tryz.prog 64 #[ex12 e ai ci an cn ak ck am cm] W (fun r w' => r = .returned (.bool false) ∧ Low W w') from fun W => by have h := count_c e W ai ci an cn ak ck am cm; rwa [hf] at h)
 clear hf g
 obtain ⟨U, HU, LU, ZU, BK, BE, BR⟩ := boxes3 w [.string K.pu.t, .string K.pu.i, .string K.au.t, .string K.au.i, .string K.ru.t, .string K.ru.i, .int .i64 K.c.h.k, .bool K.c.h.b, .int .i64 K.c.h.n, .string K.c.h.s, .string K.c.h.t, .string K.c.h.i, .slice K.ai K.c.l.length K.ci, .slice K.an K.c.ns.length K.cn, .pointer K.xp, .map (some K.mb)] 80 [.int .i64 e.op, .int .i64 e.v.h.k, .bool e.v.h.b, .int .i64 e.v.h.n, .string e.v.h.s, .string e.v.h.t, .string e.v.h.i, .slice ai e.v.l.length ci, .slice an e.v.ns.length cn, .string e.nm, .slice ak e.ks.length ck, .slice am e.ns.length cm] 30 [.int .i64 0, .bool false, .int .i64 0, .string ⟨#[]⟩, .string ⟨#[]⟩, .string ⟨#[]⟩, .slice none 0 0, .slice none 0 0] 27
 go_enter Tryz.func33, Tryz.ntmps33
 go_upto_region 1 with fail
 rw [← HU.out]
 clear HU
 have HGU := Lib.hid (Go.of HG0.out.at1 LU.out)
 obtain ⟨e0, e1, e2, e3, e4, e5, e6, e7, e8, e9, e10, e11⟩ := BE.out.at12
 go_wp2_with (go_at_call 64; refine (HCNT.out _).mono ?_; rintro e w1 ⟨rfl, l1⟩; have G1 := Lib.hid (Go.of HGU.out.at1 l1); clear l1 HCNT e0 e1 e2 e3 e4 e5 e6 e7 e8 e9 e10 e11; obtain ⟨z0, z1, z2, z3, z4, z5, z6, z7⟩ := (G1.out.box BR.out (by simp)).at8; obtain ⟨f0, f1, f2, f3, f4, f5, f6, f7⟩ := (G1.out.box BR.out (by simp)).op8)
 refine bodyPost_ret (v := .tuple #[zeV, .int .i64 1]) (by simp [results, Tryz.results33, go_sem, World.cell?_setCell_same', z0, z1, z2, z3, z4, z5, z6, z7]; try rfl) rfl ?_
 exact vr_err ((HGU.out.trans G1.out).k (k := w.heap.size + 2) (kept8 _ _ _ _ _ _ _ _ _ _) (by omega))
end Go.Proofs.YtnchohglplobeaaGreat
namespace Go.Proofs.YtnchohglplobeaaGreat
open Go.RowKit Go.Sort Go.Maps
set_option maxRecDepth 100000 in
set_option maxHeartbeats 4000000 in
theorem ckErr {K : Rk} {W0 : World} (e : E) (ai : Option Addr) (ci : Nat) (an : Option Addr) (cn : Nat) (ak : Option Addr) (ck : Nat) (am : Option Addr) (cm : Nat) (w : World) (g : Go K.X W0 w) {n : Nat} (ih : CkE K W0 n) (hf : formB e = true) (hr : RowB W0 12 encE4 (RE n) e.ks (.slice ak e.ks.length ck)) (ho : ∀ x ∈ e.ks, OkE n x) (hl : e.ks.length ≤ 70000) (n1 : e.op ≠ 1) (n2 : e.op ≠ 2) (n3 : e.op ≠ 3) (n4 : e.op ≠ 4) (n5 : e.op ≠ 5) (n7 : e.op ≠ 7) (k : Int) (hk : k ≠ 0) (hp : evL (evS K.q n) e.ks = (k, [])) : Calls Tryz.prog 33 #[K.v, ex12 e ai ci an cn ak ck am cm] w (VR K.X (fun b => b < 0) ((k, V0)) w) := by
 have HG0 := Lib.hid g
 have HA := Lib.hid (hA0 g)
 have HCNT := Lib.hid (show ∀ W, Calls Tryz.prog 64 #[ex12 e ai ci an cn ak ck am cm] W (fun r w' => r = .returned (.bool true) ∧ Low W w') from fun W => by have h := count_c e W ai ci an cn ak ck am cm; rwa [hf] at h)
 have HAL := Lib.hid fun W (h : Go K.X W0 W) => reckonAll_c ih e.ks ak ck W hr ho hl h
 unfold AllPE at HAL
 rw [hp] at HAL
 dsimp only at HAL
 have hk2 : (k == 0) = false := by simpa using hk
 have hk4 : (k != 0) = true := by simpa using hk
 have b1 : (e.op == 1) = false := by simpa using n1
 have b2 : (e.op == 2) = false := by simpa using n2
 have b3 : (e.op == 3) = false := by simpa using n3
 have b4 : (e.op == 4) = false := by simpa using n4
 have b5 : (e.op == 5) = false := by simpa using n5
 have b7 : (e.op == 7) = false := by simpa using n7
 clear hf g hr ho ih hk hp n1 n2 n3 n4 n5 n7
 obtain ⟨U, HU, LU, ZU, BK, BE, BR⟩ := boxes3 w [.string K.pu.t, .string K.pu.i, .string K.au.t, .string K.au.i, .string K.ru.t, .string K.ru.i, .int .i64 K.c.h.k, .bool K.c.h.b, .int .i64 K.c.h.n, .string K.c.h.s, .string K.c.h.t, .string K.c.h.i, .slice K.ai K.c.l.length K.ci, .slice K.an K.c.ns.length K.cn, .pointer K.xp, .map (some K.mb)] 80 [.int .i64 e.op, .int .i64 e.v.h.k, .bool e.v.h.b, .int .i64 e.v.h.n, .string e.v.h.s, .string e.v.h.t, .string e.v.h.i, .slice ai e.v.l.length ci, .slice an e.v.ns.length cn, .string e.nm, .slice ak e.ks.length ck, .slice am e.ns.length cm] 30 [.int .i64 0, .bool false, .int .i64 0, .string ⟨#[]⟩, .string ⟨#[]⟩, .string ⟨#[]⟩, .slice none 0 0, .slice none 0 0] 27
 go_enter Tryz.func33, Tryz.ntmps33
 go_upto_region 1 with fail
 rw [← HU.out]
 clear HU
 have HGU := Lib.hid (Go.of HG0.out.at1 LU.out)
 obtain ⟨e0, e1, e2, e3, e4, e5, e6, e7, e8, e9, e10, e11⟩ := BE.out.at12
 go_wp2_with (first | (go_at_call 64; refine (HCNT.out _).mono ?_; rintro e w1 ⟨rfl, l1⟩; have G1 := Lib.hid (Go.of HGU.out.at1 l1); clear l1 HCNT e0 e1 e2 e3 e4 e5 e6 e7 e8 e9 e10 e11; obtain ⟨k0, k1, k2, k3, k4, k5, k6, k7, k8, k9, k10, k11, k12, k13, k14, k15⟩ := (G1.out.box BK.out (by simp)).at16; obtain ⟨e0, e1, e2, e3, e4, e5, e6, e7, e8, e9, e10, e11⟩ := (G1.out.box BE.out (by simp)).at12) | (go_at_call 69; refine (HAL.out _ (HG0.out.trans (HGU.out.trans G1.out))).mono ?_; rintro e w2 ⟨ra, rc, rfl, hrx, g2⟩; have G2 := Lib.hid (G1.out.trans g2); clear g2 hrx HAL e0 e1 e2 e3 e4 e5 e6 e7 e8 e9 e10 e11 k0 k1 k2 k3 k4 k5 k6 k7 k8 k9 k10 k11 k12 k13 k14 k15; obtain ⟨z0, z1, z2, z3, z4, z5, z6, z7⟩ := (G2.out.box BR.out (by simp)).at8; obtain ⟨f0, f1, f2, f3, f4, f5, f6, f7⟩ := (G2.out.box BR.out (by simp)).op8))
 refine bodyPost_ret (v := .tuple #[zeV, .int .i64 k]) (by simp [results, Tryz.results33, go_sem, World.cell?_setCell_same', z0, z1, z2, z3, z4, z5, z6, z7]; try rfl) rfl ?_
 exact vr_err ((HGU.out.trans G2.out).k (k := w.heap.size + 2) (kept8 _ _ _ _ _ _ _ _ _ _) (by omega))
end Go.Proofs.YtnchohglplobeaaGreat
namespace Go.Proofs.YtnchohglplobeaaGreat
open Go.RowKit
def sgn (b : Bool) (n : Nat) : Int := if b = true then -(n : Int) else (n : Int)
end Go.Proofs.YtnchohglplobeaaGreat
namespace Go.Proofs.YtnchohglplobeaaGreat
open Go.RowKit
theorem ret1 {k : IntKind} {a b : Int} (h : a = b) : Ending.returned (.int k a) = .returned (.int k b) := by rw [h]
theorem ret2i {k l : IntKind} {a b c d : Int} (h : a = b) (g : c = d) : Ending.returned (.tuple #[.int k a, .int l c]) = .returned (.tuple #[.int k b, .int l d]) := by rw [h, g]
theorem u64w (a : Int) : IntKind.u64.wrap a = a % 18446744073709551616 := IntKind.wrap_u64 a
set_option maxHeartbeats 400000 in
theorem size_ci (a : Int) (ha : InR a) (w : World) :
  Calls Tryz.prog 93 #[.int .i64 a] w fun e w' => e = .returned (.int .u64 (a.natAbs : Int)) ∧ w' = w := by
 obtain ⟨ha1, ha2⟩ := ha
 by_cases h : a < 0
 ·have e : (a.natAbs : Int) = IntKind.u64.wrap (-(IntKind.u64.wrap a)) := by rw [u64w, u64w]; omega
  have E := Lib.hid e
  clear e
  go_enter Tryz.func93, Tryz.ntmps93
  go_wp2
  go_ret
  exact ⟨ret1 E.out.symm, rfl⟩
 ·have e : (a.natAbs : Int) = a := by omega
  have E := Lib.hid e
  clear e
  have ha0 : 0 ≤ a := by omega
  go_enter Tryz.func93, Tryz.ntmps93
  go_wp2
  go_ret
  exact ⟨ret1 E.out.symm, rfl⟩
set_option maxHeartbeats 400000 in
theorem signed_c (b : Bool) (n : Nat) (hn : n ≤ 18446744073709551615) (w : World) :
  Calls Tryz.prog 94 #[.bool b, .int .u64 (n : Int)] w fun e w' => e = .returned (.tuple #[.int .i64 (fitV (sgn b n)), .int .i64 (fitE (sgn b n))]) ∧ w' = w := by
 cases b
 ·rw [show sgn false n = (n : Int) from rfl]
  by_cases h : n ≤ 9223372036854775807
  ·rw [(fit_in (n := (n : Int)) (by omega) (by omega)).1, (fit_in (n := (n : Int)) (by omega) (by omega)).2]
   go_enter Tryz.func94, Tryz.ntmps94
   go_wp2
   go_ret2
   exact ⟨rfl, rfl⟩
  ·rw [(fit_out (n := (n : Int)) (by omega)).1, (fit_out (n := (n : Int)) (by omega)).2]
   go_enter Tryz.func94, Tryz.ntmps94
   go_wp2
   go_ret2
   exact ⟨rfl, rfl⟩
 ·rw [show sgn true n = -(n : Int) from rfl]
  by_cases h : n ≤ 9223372036854775808
  ·rw [(fit_in (n := -(n : Int)) (by omega) (by omega)).1, (fit_in (n := -(n : Int)) (by omega) (by omega)).2]
   have e : wrap64 (IntKind.u64.wrap (-(n : Int))) = -(n : Int) := by rw [u64w]; unfold wrap64; omega
   have E := Lib.hid e
   clear e
   go_enter Tryz.func94, Tryz.ntmps94
   go_wp2
   go_ret2
   exact ⟨ret2i E.out rfl, rfl⟩
  ·rw [(fit_out (n := -(n : Int)) (by omega)).1, (fit_out (n := -(n : Int)) (by omega)).2]
   go_enter Tryz.func94, Tryz.ntmps94
   go_wp2
   go_ret2
   exact ⟨rfl, rfl⟩
theorem sgn_neg (a : Int) : sgn (decide (0 ≤ a)) a.natAbs = -a := by
 unfold sgn
 by_cases h : 0 ≤ a
 ·rw [if_pos (by simpa using h)]; omega
 ·rw [if_neg (by simpa using h)]; omega
theorem neg_c (a : Int) (ha : InR a) (w : World) :
  Calls Tryz.prog 63 #[.int .i64 a] w fun e w' => e = .returned (.tuple #[.int .i64 (fitV (-a)), .int .i64 (fitE (-a))]) ∧ w' = w := by
 rw [← sgn_neg a]
 go_enter Tryz.func63, Tryz.ntmps63
 go_wp2_with fail
 refine (size_ci a ha _).mono ?_
 rintro e w' ⟨rfl, rfl⟩
 go_wp2_with fail
 refine (signed_c _ _ (by unfold InR at ha; omega) _).mono ?_
 rintro e w' ⟨rfl, rfl⟩
 go_wp2
 go_ret2
 exact ⟨rfl, rfl⟩
theorem nabs_mul (a b : Int) : a.natAbs * b.natAbs = (a * b).natAbs := (Int.natAbs_mul a b).symm
theorem sgn_mul (a b : Int) : sgn (decide (a < 0) != decide (b < 0)) (a.natAbs * b.natAbs) = a * b := by
 have e : ((a.natAbs * b.natAbs : Nat) : Int) = (a.natAbs : Int) * (b.natAbs : Int) := Int.natCast_mul _ _
 unfold sgn
 rcases Int.lt_or_le a 0 with h | h <;> rcases Int.lt_or_le b 0 with g | g
 ·have ea : (a.natAbs : Int) = -a := by omega
  have eb : (b.natAbs : Int) = -b := by omega
  rw [if_neg (by simp [h, g]), e, ea, eb, Int.neg_mul_neg]
 ·have ea : (a.natAbs : Int) = -a := by omega
  have eb : (b.natAbs : Int) = b := by omega
  rw [if_pos (by simp [h]; omega), e, ea, eb, Int.neg_mul, Int.neg_neg]
 ·have ea : (a.natAbs : Int) = a := by omega
  have eb : (b.natAbs : Int) = -b := by omega
  rw [if_pos (by simp [g]; omega), e, ea, eb, Int.mul_neg, Int.neg_neg]
 ·have ea : (a.natAbs : Int) = a := by omega
  have eb : (b.natAbs : Int) = b := by omega
  have h' : ¬ a < 0 := by omega
  have g' : ¬ b < 0 := by omega
  rw [if_neg (by simp [h', g']), e, ea, eb]
theorem big_out (a b : Int) (h : 18446744073709551616 ≤ a.natAbs * b.natAbs) : a * b < -9223372036854775808 ∨ 9223372036854775807 < a * b := by
 rw [nabs_mul] at h; omega
set_option maxHeartbeats 400000 in
theorem mul_c (a b : Int) (ha : InR a) (hb : InR b) (w : World) :
  Calls Tryz.prog 61 #[.int .i64 a, .int .i64 b] w fun e w' => e = .returned (.tuple #[.int .i64 (fitV (a * b)), .int .i64 (fitE (a * b))]) ∧ w' = w := by
 by_cases h : 18446744073709551616 ≤ a.natAbs * b.natAbs
 ·have ho := big_out a b h
  rw [(fit_out ho).1, (fit_out ho).2]
  clear ho
  have hq : (((a.natAbs * b.natAbs / 18446744073709551616 : Nat) : Int) == 0) = false := by rw [beq_eq_false_iff_ne]; omega
  have hh := Lib.hid h
  clear h
  go_enter Tryz.func61, Tryz.ntmps61
  go_wp2_with fail
  refine (size_ci a ha _).mono ?_
  rintro e w' ⟨rfl, rfl⟩
  go_wp2_with fail
  refine (size_ci b hb _).mono ?_
  rintro e w' ⟨rfl, rfl⟩
  go_wp2_with fail
  refine (Tryz.bits_Mul64 _ _ (by unfold InR at ha; omega) (by unfold InR at hb; omega) _).mono ?_
  rintro e w' ⟨rfl, rfl⟩
  go_wp2_with fail
  go_ret2
  exact ⟨rfl, rfl⟩
 ·have hz : a.natAbs * b.natAbs / 18446744073709551616 = 0 := by omega
  have hm : a.natAbs * b.natAbs % 18446744073709551616 = a.natAbs * b.natAbs := by omega
  rw [← sgn_mul a b]
  have hh := Lib.hid h
  have hz := Lib.hid hz
  have hm := Lib.hid hm
  clear h
  go_enter Tryz.func61, Tryz.ntmps61
  go_wp2_with fail
  refine (size_ci a ha _).mono ?_
  rintro e w' ⟨rfl, rfl⟩
  go_wp2_with fail
  refine (size_ci b hb _).mono ?_
  rintro e w' ⟨rfl, rfl⟩
  go_wp2_with fail
  refine (Tryz.bits_Mul64 _ _ (by unfold InR at ha; omega) (by unfold InR at hb; omega) _).mono ?_
  rintro e w' ⟨rfl, rfl⟩
  rw [hz.out, hm.out]
  go_wp2_with fail
  refine (signed_c _ _ (by have := hh.out; omega) _).mono ?_
  rintro e w' ⟨rfl, rfl⟩
  go_wp2
  go_ret2
  exact ⟨rfl, rfl⟩
end Go.Proofs.YtnchohglplobeaaGreat
