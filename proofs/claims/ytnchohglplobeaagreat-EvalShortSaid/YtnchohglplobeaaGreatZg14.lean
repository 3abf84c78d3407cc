/- variable: what a variable comes to. No condition. truthOf: the truth that an expression comes to. Condition: reckon. decided: And and Or. Condition: reckon. -/
import Derived.Test.YtnchohglplobeaaGreatZg13
set_option linter.unusedVariables false
set_option linter.unusedSimpArgs false
set_option linter.unnecessarySimpa false
namespace Go.Proofs.YtnchohglplobeaaGreat
open Go.RowKit Go.Sort Go.Maps
theorem VR.down {X : Sx} {A : Nat → Prop} {p : Int × V} {w w' : World} {e : Ending} (h : VR X (fun _ => False) p w e w') : VR X A p w e w' := by
 obtain ⟨ai, ci, an, cn, he, hr, g⟩ := h
 exact ⟨ai, ci, an, cn, he, hr.mono fun b hb => by
  rcases hb with h | h
  ·exact h.elim
  ·exact .inr h, g⟩
theorem vr_can {v : V} {w : World} {it nm : Value} (hr : R w v it nm) (hs : Smv v) : Calls Tryz.prog 65 #[avv v.h it nm] w (VR none (fun _ => False) (canD v) w) := by
 refine (Canon_c v w it nm hr hs).mono ?_
 rintro e w' ⟨ai, ci, an, cn, he, hr, l⟩
 exact ⟨ai, ci, an, cn, he, hr.mono fun b h => .inr h, Go.ofN l⟩
set_option maxRecDepth 100000 in
set_option maxHeartbeats 4000000 in
theorem variable_c (K : Rk) (s : ByteArray) (w : World) (hc : R w K.c (.slice K.ai K.c.l.length K.ci) (.slice K.an K.c.ns.length K.cn)) (hs : Smv K.c) (hX : K.X.at w) :
  Calls Tryz.prog 66 #[K.v, .string s] w (VR K.X (fun _ => False) (varS K.q s) w) := by
 have HXX := Lib.hid hX
 have HC := Lib.hid fun W (h : Low w W) => vr_can (hc.low h) hs
 unfold VR avv at HC
 clear hc hs hX
 unfold varS
 by_cases h0 : s = ⟨#[112, 114, 105, 110, 99, 105, 112, 97, 108]⟩
 ·rw [if_pos h0]
  subst h0
  have HT := Lib.hid (fun W => ref_c K.pu.t K.pu.i W)
  obtain ⟨U, HU, LU, ZU, BK, BR⟩ := boxes2 w [.string K.pu.t, .string K.pu.i, .string K.au.t, .string K.au.i, .string K.ru.t, .string K.ru.i, .int .i64 K.c.h.k, .bool K.c.h.b, .int .i64 K.c.h.n, .string K.c.h.s, .string K.c.h.t, .string K.c.h.i, .slice K.ai K.c.l.length K.ci, .slice K.an K.c.ns.length K.cn, .pointer K.xp, .map (some K.mb)] 80 [.int .i64 0, .bool false, .int .i64 0, .string ⟨#[]⟩, .string ⟨#[]⟩, .string ⟨#[]⟩, .slice none 0 0, .slice none 0 0] 27
  go_enter Tryz.func66, Tryz.ntmps66
  go_upto_region 1 with fail
  rw [← HU.out]
  clear HU
  obtain ⟨k0, k1, k2, k3, k4, k5, k6, k7, k8, k9, k10, k11, k12, k13, k14, k15⟩ := BK.out.at16
  go_wp2_with fail
  refine (HT.out _).mono ?_
  rintro e w1 ⟨rfl, g⟩
  have HG := Lib.hid g.low
  clear g HT k0 k1 k2 k3 k4 k5 k6 k7 k8 k9 k10 k11 k12 k13 k14 k15
  obtain ⟨z0, z1, z2, z3, z4, z5, z6, z7⟩ := (BR.out.low HG.out).at8
  obtain ⟨f0, f1, f2, f3, f4, f5, f6, f7⟩ := (BR.out.low HG.out).op8
  go_wp2_with fail
  refine bodyPost_ret (v := .tuple #[reV K.pu.t K.pu.i, .int .i64 0]) (by simp [results, Tryz.results66, go_sem, World.cell?_setCell_same', z0, z1, z2, z3, z4, z5, z6, z7]; try rfl) rfl ?_
  exact vr_ref K.pu.ht K.pu.hi ((Go.of HXX.out (LU.out.trans HG.out)).k (k := w.heap.size + 1) (kept8 _ _ _ _ _ _ _ _ _ _) (by omega))
 rw [if_neg h0]
 have q0 : (s.toList == [112, 114, 105, 110, 99, 105, 112, 97, 108]) = false := by
  have h : (s.toList == ByteArray.toList ⟨#[112, 114, 105, 110, 99, 105, 112, 97, 108]⟩) = false := by rw [str_beq]; exact decide_eq_false h0
  rw [show ByteArray.toList ⟨#[112, 114, 105, 110, 99, 105, 112, 97, 108]⟩ = [112, 114, 105, 110, 99, 105, 112, 97, 108] from by rw [ByteArray.toList_eq]] at h
  exact h
 by_cases h2 : s = ⟨#[97, 99, 116, 105, 111, 110]⟩
 ·rw [if_pos h2]
  subst h2
  have HT := Lib.hid (fun W => ref_c K.au.t K.au.i W)
  obtain ⟨U, HU, LU, ZU, BK, BR⟩ := boxes2 w [.string K.pu.t, .string K.pu.i, .string K.au.t, .string K.au.i, .string K.ru.t, .string K.ru.i, .int .i64 K.c.h.k, .bool K.c.h.b, .int .i64 K.c.h.n, .string K.c.h.s, .string K.c.h.t, .string K.c.h.i, .slice K.ai K.c.l.length K.ci, .slice K.an K.c.ns.length K.cn, .pointer K.xp, .map (some K.mb)] 80 [.int .i64 0, .bool false, .int .i64 0, .string ⟨#[]⟩, .string ⟨#[]⟩, .string ⟨#[]⟩, .slice none 0 0, .slice none 0 0] 27
  go_enter Tryz.func66, Tryz.ntmps66
  go_upto_region 1 with fail
  rw [← HU.out]
  clear HU
  obtain ⟨k0, k1, k2, k3, k4, k5, k6, k7, k8, k9, k10, k11, k12, k13, k14, k15⟩ := BK.out.at16
  go_wp2_with fail
  refine (HT.out _).mono ?_
  rintro e w1 ⟨rfl, g⟩
  have HG := Lib.hid g.low
  clear g HT k0 k1 k2 k3 k4 k5 k6 k7 k8 k9 k10 k11 k12 k13 k14 k15
  obtain ⟨z0, z1, z2, z3, z4, z5, z6, z7⟩ := (BR.out.low HG.out).at8
  obtain ⟨f0, f1, f2, f3, f4, f5, f6, f7⟩ := (BR.out.low HG.out).op8
  go_wp2_with fail
  refine bodyPost_ret (v := .tuple #[reV K.au.t K.au.i, .int .i64 0]) (by simp [results, Tryz.results66, go_sem, World.cell?_setCell_same', z0, z1, z2, z3, z4, z5, z6, z7]; try rfl) rfl ?_
  exact vr_ref K.au.ht K.au.hi ((Go.of HXX.out (LU.out.trans HG.out)).k (k := w.heap.size + 1) (kept8 _ _ _ _ _ _ _ _ _ _) (by omega))
 rw [if_neg h2]
 have q2 : (s.toList == [97, 99, 116, 105, 111, 110]) = false := by
  have h : (s.toList == ByteArray.toList ⟨#[97, 99, 116, 105, 111, 110]⟩) = false := by rw [str_beq]; exact decide_eq_false h2
  rw [show ByteArray.toList ⟨#[97, 99, 116, 105, 111, 110]⟩ = [97, 99, 116, 105, 111, 110] from by rw [ByteArray.toList_eq]] at h
  exact h
 by_cases h4 : s = ⟨#[114, 101, 115, 111, 117, 114, 99, 101]⟩
 ·rw [if_pos h4]
  subst h4
  have HT := Lib.hid (fun W => ref_c K.ru.t K.ru.i W)
  obtain ⟨U, HU, LU, ZU, BK, BR⟩ := boxes2 w [.string K.pu.t, .string K.pu.i, .string K.au.t, .string K.au.i, .string K.ru.t, .string K.ru.i, .int .i64 K.c.h.k, .bool K.c.h.b, .int .i64 K.c.h.n, .string K.c.h.s, .string K.c.h.t, .string K.c.h.i, .slice K.ai K.c.l.length K.ci, .slice K.an K.c.ns.length K.cn, .pointer K.xp, .map (some K.mb)] 80 [.int .i64 0, .bool false, .int .i64 0, .string ⟨#[]⟩, .string ⟨#[]⟩, .string ⟨#[]⟩, .slice none 0 0, .slice none 0 0] 27
  go_enter Tryz.func66, Tryz.ntmps66
  go_upto_region 1 with fail
  rw [← HU.out]
  clear HU
  obtain ⟨k0, k1, k2, k3, k4, k5, k6, k7, k8, k9, k10, k11, k12, k13, k14, k15⟩ := BK.out.at16
  go_wp2_with fail
  refine (HT.out _).mono ?_
  rintro e w1 ⟨rfl, g⟩
  have HG := Lib.hid g.low
  clear g HT k0 k1 k2 k3 k4 k5 k6 k7 k8 k9 k10 k11 k12 k13 k14 k15
  obtain ⟨z0, z1, z2, z3, z4, z5, z6, z7⟩ := (BR.out.low HG.out).at8
  obtain ⟨f0, f1, f2, f3, f4, f5, f6, f7⟩ := (BR.out.low HG.out).op8
  go_wp2_with fail
  refine bodyPost_ret (v := .tuple #[reV K.ru.t K.ru.i, .int .i64 0]) (by simp [results, Tryz.results66, go_sem, World.cell?_setCell_same', z0, z1, z2, z3, z4, z5, z6, z7]; try rfl) rfl ?_
  exact vr_ref K.ru.ht K.ru.hi ((Go.of HXX.out (LU.out.trans HG.out)).k (k := w.heap.size + 1) (kept8 _ _ _ _ _ _ _ _ _ _) (by omega))
 rw [if_neg h4]
 have q4 : (s.toList == [114, 101, 115, 111, 117, 114, 99, 101]) = false := by
  have h : (s.toList == ByteArray.toList ⟨#[114, 101, 115, 111, 117, 114, 99, 101]⟩) = false := by rw [str_beq]; exact decide_eq_false h4
  rw [show ByteArray.toList ⟨#[114, 101, 115, 111, 117, 114, 99, 101]⟩ = [114, 101, 115, 111, 117, 114, 99, 101] from by rw [ByteArray.toList_eq]] at h
  exact h
 by_cases h6 : s = ⟨#[99, 111, 110, 116, 101, 120, 116]⟩
 ·rw [if_pos h6]
  subst h6
  clear h0 h2 h4
  have HPQ := Lib.hid (show K.q.c = K.c from rfl)
  rw [HPQ.out]
  obtain ⟨p, hp⟩ : ∃ p, p = canD K.c := ⟨_, rfl⟩
  rw [← hp] at HC ⊢
  clear hp
  obtain ⟨U, HU, LU, ZU, BK, BR⟩ := boxes2 w [.string K.pu.t, .string K.pu.i, .string K.au.t, .string K.au.i, .string K.ru.t, .string K.ru.i, .int .i64 K.c.h.k, .bool K.c.h.b, .int .i64 K.c.h.n, .string K.c.h.s, .string K.c.h.t, .string K.c.h.i, .slice K.ai K.c.l.length K.ci, .slice K.an K.c.ns.length K.cn, .pointer K.xp, .map (some K.mb)] 80 [.int .i64 0, .bool false, .int .i64 0, .string ⟨#[]⟩, .string ⟨#[]⟩, .string ⟨#[]⟩, .slice none 0 0, .slice none 0 0] 27
  go_enter Tryz.func66, Tryz.ntmps66
  go_upto_region 1 with fail
  rw [← HU.out]
  clear HU
  obtain ⟨k0, k1, k2, k3, k4, k5, k6, k7, k8, k9, k10, k11, k12, k13, k14, k15⟩ := BK.out.at16
  go_wp2_with fail
  refine (HC.out _ LU.out).mono ?_
  rintro e w1 ⟨bi, di, bn, dn, rfl, hrx, g⟩
  have HG := Lib.hid g.lo
  have HRX := Lib.hid hrx
  clear g hrx HC k0 k1 k2 k3 k4 k5 k6 k7 k8 k9 k10 k11 k12 k13 k14 k15
  obtain ⟨z0, z1, z2, z3, z4, z5, z6, z7⟩ := (BR.out.low HG.out).at8
  obtain ⟨f0, f1, f2, f3, f4, f5, f6, f7⟩ := (BR.out.low HG.out).op8
  go_wp2_with fail
  refine bodyPost_ret (v := .tuple #[av8 p.2.h bi p.2.l.length di bn p.2.ns.length dn, .int .i64 p.1]) (by simp [results, Tryz.results66, go_sem, World.cell?_setCell_same', z0, z1, z2, z3, z4, z5, z6, z7]; try rfl) rfl ?_
  exact vr_put (k := w.heap.size + 1) (A := fun _ => False) (U := U) HRX.out (Go.of HXX.out (LU.out.trans HG.out)) LU.out.size ⟨by omega, by rw [ZU.out]; omega⟩ (fun b h => h.elim)
 rw [if_neg h6]
 have q6 : (s.toList == [99, 111, 110, 116, 101, 120, 116]) = false := by
  have h : (s.toList == ByteArray.toList ⟨#[99, 111, 110, 116, 101, 120, 116]⟩) = false := by rw [str_beq]; exact decide_eq_false h6
  rw [show ByteArray.toList ⟨#[99, 111, 110, 116, 101, 120, 116]⟩ = [99, 111, 110, 116, 101, 120, 116] from by rw [ByteArray.toList_eq]] at h
  exact h
 clear h0 h2 h4 h6
 obtain ⟨U, HU, LU, ZU, BK, BR⟩ := boxes2 w [.string K.pu.t, .string K.pu.i, .string K.au.t, .string K.au.i, .string K.ru.t, .string K.ru.i, .int .i64 K.c.h.k, .bool K.c.h.b, .int .i64 K.c.h.n, .string K.c.h.s, .string K.c.h.t, .string K.c.h.i, .slice K.ai K.c.l.length K.ci, .slice K.an K.c.ns.length K.cn, .pointer K.xp, .map (some K.mb)] 80 [.int .i64 0, .bool false, .int .i64 0, .string ⟨#[]⟩, .string ⟨#[]⟩, .string ⟨#[]⟩, .slice none 0 0, .slice none 0 0] 27
 go_enter Tryz.func66, Tryz.ntmps66
 go_upto_region 1 with fail
 rw [← HU.out]
 clear HU
 obtain ⟨z0, z1, z2, z3, z4, z5, z6, z7⟩ := BR.out.at8
 obtain ⟨f0, f1, f2, f3, f4, f5, f6, f7⟩ := BR.out.op8
 go_wp2_with fail
 refine bodyPost_ret (v := .tuple #[zeV, .int .i64 1]) (by simp [results, Tryz.results66, go_sem, World.cell?_setCell_same', z0, z1, z2, z3, z4, z5, z6, z7]; try rfl) rfl ?_
 exact vr_err ((Go.of HXX.out LU.out).k (k := w.heap.size + 1) (kept8 _ _ _ _ _ _ _ _ _ _) (by omega))
end Go.Proofs.YtnchohglplobeaaGreat
namespace Go.Proofs.YtnchohglplobeaaGreat
open Go.RowKit Go.Sort Go.Maps
def CkE (K : Rk) (W0 : World) (n : Nat) : Prop := ∀ (e : E) (ai : Option Addr) (ci : Nat) (an : Option Addr) (cn : Nat) (ak : Option Addr) (ck : Nat) (am : Option Addr) (cm : Nat) (w : World), RE n W0 e (p4 e ai ci an cn ak ck am cm) → OkE n e → Go K.X W0 w → Calls Tryz.prog 33 #[K.v, ex12 e ai ci an cn ak ck am cm] w (VR K.X (fun b => b < 0) (evS K.q n e) w)
theorem RowB.go {X : Sx} {n : Nat} {w w' : World} {l : List E} {it : Value} (h : RowB w 12 encE4 (RE n) l it) (g : Go X w w') : RowB w' 12 encE4 (RE n) l it := RowB.lo h g.lo fun _ _ k => RE.lo k g.lo
theorem hA0 {X : Sx} {W0 w : World} (g : Go X W0 w) : ∀ b, b < 0 → b < w.heap.size := fun b hb => absurd hb (Nat.not_lt_zero _)
def trS (p : Int × V) : Int × Bool := if p.1 = 0 then (if p.2.h.k = 1 then (0, p.2.h.b) else (30, false)) else (p.1, false)
def TrP (X : Sx) (p : Int × Bool) (w : World) (e : Ending) (w' : World) : Prop := e = .returned (.tuple #[.bool p.2, .int .i64 p.1]) ∧ Go X w w'
set_option maxRecDepth 100000 in
set_option maxHeartbeats 4000000 in
theorem truthOf_c {K : Rk} {W0 : World} {n : Nat} (ih : CkE K W0 n) (e : E) (ai : Option Addr) (ci : Nat) (an : Option Addr) (cn : Nat) (ak : Option Addr) (ck : Nat) (am : Option Addr) (cm : Nat) (w : World) (hr : RE n W0 e (p4 e ai ci an cn ak ck am cm)) (ho : OkE n e) (g : Go K.X W0 w) : Calls Tryz.prog 98 #[K.v, ex12 e ai ci an cn ak ck am cm] w (TrP K.X (trS (evS K.q n e)) w) := by
 have HC := Lib.hid fun W (l : Go K.X w W) => ih e ai ci an cn ak ck am cm W hr ho (g.trans l)
 unfold VR at HC
 obtain ⟨⟨k, x⟩, hp⟩ : ∃ p, p = evS K.q n e := ⟨_, rfl⟩
 rw [← hp] at HC ⊢
 have HG0 := Lib.hid g
 clear hp hr ho g
 dsimp only at HC
 unfold trS
 by_cases h0 : k = 0
 ·subst h0
  by_cases h1 : x.h.k = 1
  ·rw [if_pos rfl, if_pos h1]
   have HK := Lib.hid h1
   clear h1
   obtain ⟨U, HU, LU, ZU, BK, BE⟩ := boxes2 w [.string K.pu.t, .string K.pu.i, .string K.au.t, .string K.au.i, .string K.ru.t, .string K.ru.i, .int .i64 K.c.h.k, .bool K.c.h.b, .int .i64 K.c.h.n, .string K.c.h.s, .string K.c.h.t, .string K.c.h.i, .slice K.ai K.c.l.length K.ci, .slice K.an K.c.ns.length K.cn, .pointer K.xp, .map (some K.mb)] 80 [.int .i64 e.op, .int .i64 e.v.h.k, .bool e.v.h.b, .int .i64 e.v.h.n, .string e.v.h.s, .string e.v.h.t, .string e.v.h.i, .slice ai e.v.l.length ci, .slice an e.v.ns.length cn, .string e.nm, .slice ak e.ks.length ck, .slice am e.ns.length cm] 30
   go_enter Tryz.func98, Tryz.ntmps98
   go_upto_region 1 with fail
   rw [← HU.out]
   clear HU
   have HGU := Lib.hid (Go.of HG0.out.at1 LU.out)
   obtain ⟨k0, k1, k2, k3, k4, k5, k6, k7, k8, k9, k10, k11, k12, k13, k14, k15⟩ := BK.out.at16
   obtain ⟨e0, e1, e2, e3, e4, e5, e6, e7, e8, e9, e10, e11⟩ := BE.out.at12
   go_wp2_with fail
   refine (HC.out _ HGU.out).mono ?_
   rintro e w1 ⟨bi, di, bn, dn, rfl, hrx, g1⟩
   have HG := Lib.hid g1
   clear g1 hrx HC k0 k1 k2 k3 k4 k5 k6 k7 k8 k9 k10 k11 k12 k13 k14 k15 e0 e1 e2 e3 e4 e5 e6 e7 e8 e9 e10 e11
   go_upto_region 2 with fail
   obtain ⟨W2, hW2⟩ : ∃ W2, W2 = w1.alloc (.cells #[.int .i64 x.h.k, .bool x.h.b, .int .i64 x.h.n, .string x.h.s, .string x.h.t, .string x.h.i, .slice bi x.l.length di, .slice bn x.ns.length dn] 27) := ⟨_, rfl⟩
   have L2 := Lib.hid (show Low w1 W2 by rw [hW2]; exact Low.alloc (Low.refl _) _)
   have BX := Lib.hid (show BoxAtv W2 w1.heap.size [.int .i64 x.h.k, .bool x.h.b, .int .i64 x.h.n, .string x.h.s, .string x.h.t, .string x.h.i, .slice bi x.l.length di, .slice bn x.ns.length dn] from BoxAtv.made hW2 rfl rfl)
   have HG2 := Lib.hid ((HGU.out.trans HG.out).low L2.out)
   rw [← hW2]
   clear hW2
   obtain ⟨x0, x1, x2, x3, x4, x5, x6, x7⟩ := BX.out.at8
   rw [HK.out] at x0
   go_wp2_with fail
   go_ret2
   exact ⟨rfl, HG2.out⟩
  ·rw [if_pos rfl, if_neg h1]
   have hk2 : (x.h.k == 1) = false := by simpa using h1
   have hk4 : (x.h.k != 1) = true := by simpa using h1
   clear h1
   obtain ⟨U, HU, LU, ZU, BK, BE⟩ := boxes2 w [.string K.pu.t, .string K.pu.i, .string K.au.t, .string K.au.i, .string K.ru.t, .string K.ru.i, .int .i64 K.c.h.k, .bool K.c.h.b, .int .i64 K.c.h.n, .string K.c.h.s, .string K.c.h.t, .string K.c.h.i, .slice K.ai K.c.l.length K.ci, .slice K.an K.c.ns.length K.cn, .pointer K.xp, .map (some K.mb)] 80 [.int .i64 e.op, .int .i64 e.v.h.k, .bool e.v.h.b, .int .i64 e.v.h.n, .string e.v.h.s, .string e.v.h.t, .string e.v.h.i, .slice ai e.v.l.length ci, .slice an e.v.ns.length cn, .string e.nm, .slice ak e.ks.length ck, .slice am e.ns.length cm] 30
   go_enter Tryz.func98, Tryz.ntmps98
   go_upto_region 1 with fail
   rw [← HU.out]
   clear HU
   have HGU := Lib.hid (Go.of HG0.out.at1 LU.out)
   obtain ⟨k0, k1, k2, k3, k4, k5, k6, k7, k8, k9, k10, k11, k12, k13, k14, k15⟩ := BK.out.at16
   obtain ⟨e0, e1, e2, e3, e4, e5, e6, e7, e8, e9, e10, e11⟩ := BE.out.at12
   go_wp2_with fail
   refine (HC.out _ HGU.out).mono ?_
   rintro e w1 ⟨bi, di, bn, dn, rfl, hrx, g1⟩
   have HG := Lib.hid g1
   clear g1 hrx HC k0 k1 k2 k3 k4 k5 k6 k7 k8 k9 k10 k11 k12 k13 k14 k15 e0 e1 e2 e3 e4 e5 e6 e7 e8 e9 e10 e11
   go_upto_region 2 with fail
   obtain ⟨W2, hW2⟩ : ∃ W2, W2 = w1.alloc (.cells #[.int .i64 x.h.k, .bool x.h.b, .int .i64 x.h.n, .string x.h.s, .string x.h.t, .string x.h.i, .slice bi x.l.length di, .slice bn x.ns.length dn] 27) := ⟨_, rfl⟩
   have L2 := Lib.hid (show Low w1 W2 by rw [hW2]; exact Low.alloc (Low.refl _) _)
   have BX := Lib.hid (show BoxAtv W2 w1.heap.size [.int .i64 x.h.k, .bool x.h.b, .int .i64 x.h.n, .string x.h.s, .string x.h.t, .string x.h.i, .slice bi x.l.length di, .slice bn x.ns.length dn] from BoxAtv.made hW2 rfl rfl)
   have HG2 := Lib.hid ((HGU.out.trans HG.out).low L2.out)
   rw [← hW2]
   clear hW2
   obtain ⟨x0, x1, x2, x3, x4, x5, x6, x7⟩ := BX.out.at8
   go_wp2_with fail
   go_ret2
   exact ⟨rfl, HG2.out⟩
 ·rw [if_neg h0]
  have hk2 : (k == 0) = false := by simpa using h0
  have hk4 : (k != 0) = true := by simpa using h0
  clear h0
  obtain ⟨U, HU, LU, ZU, BK, BE⟩ := boxes2 w [.string K.pu.t, .string K.pu.i, .string K.au.t, .string K.au.i, .string K.ru.t, .string K.ru.i, .int .i64 K.c.h.k, .bool K.c.h.b, .int .i64 K.c.h.n, .string K.c.h.s, .string K.c.h.t, .string K.c.h.i, .slice K.ai K.c.l.length K.ci, .slice K.an K.c.ns.length K.cn, .pointer K.xp, .map (some K.mb)] 80 [.int .i64 e.op, .int .i64 e.v.h.k, .bool e.v.h.b, .int .i64 e.v.h.n, .string e.v.h.s, .string e.v.h.t, .string e.v.h.i, .slice ai e.v.l.length ci, .slice an e.v.ns.length cn, .string e.nm, .slice ak e.ks.length ck, .slice am e.ns.length cm] 30
  go_enter Tryz.func98, Tryz.ntmps98
  go_upto_region 1 with fail
  rw [← HU.out]
  clear HU
  have HGU := Lib.hid (Go.of HG0.out.at1 LU.out)
  obtain ⟨k0, k1, k2, k3, k4, k5, k6, k7, k8, k9, k10, k11, k12, k13, k14, k15⟩ := BK.out.at16
  obtain ⟨e0, e1, e2, e3, e4, e5, e6, e7, e8, e9, e10, e11⟩ := BE.out.at12
  go_wp2_with fail
  refine (HC.out _ HGU.out).mono ?_
  rintro e w1 ⟨bi, di, bn, dn, rfl, hrx, g1⟩
  have HG := Lib.hid g1
  clear g1 hrx HC k0 k1 k2 k3 k4 k5 k6 k7 k8 k9 k10 k11 k12 k13 k14 k15 e0 e1 e2 e3 e4 e5 e6 e7 e8 e9 e10 e11
  go_upto_region 2 with fail
  obtain ⟨W2, hW2⟩ : ∃ W2, W2 = w1.alloc (.cells #[.int .i64 x.h.k, .bool x.h.b, .int .i64 x.h.n, .string x.h.s, .string x.h.t, .string x.h.i, .slice bi x.l.length di, .slice bn x.ns.length dn] 27) := ⟨_, rfl⟩
  have L2 := Lib.hid (show Low w1 W2 by rw [hW2]; exact Low.alloc (Low.refl _) _)
  have BX := Lib.hid (show BoxAtv W2 w1.heap.size [.int .i64 x.h.k, .bool x.h.b, .int .i64 x.h.n, .string x.h.s, .string x.h.t, .string x.h.i, .slice bi x.l.length di, .slice bn x.ns.length dn] from BoxAtv.made hW2 rfl rfl)
  have HG2 := Lib.hid ((HGU.out.trans HG.out).low L2.out)
  rw [← hW2]
  clear hW2
  obtain ⟨x0, x1, x2, x3, x4, x5, x6, x7⟩ := BX.out.at8
  go_wp2_with fail
  go_ret2
  exact ⟨rfl, HG2.out⟩
end Go.Proofs.YtnchohglplobeaaGreat
namespace Go.Proofs.YtnchohglplobeaaGreat
open Go.RowKit Go.Sort Go.Maps
def decL (b : Bool) : List (Int × Bool) → Int × V
 | [] => (0, truV (!b))
 | p :: l => if p.1 = 0 then (if p.2 = b then (0, truV b) else decL b l) else (p.1, V0)
theorem decL_drop {α : Type} (b : Bool) (f : α → Int × Bool) {l : List α} {i : Nat} (h : i < l.length) : decL b ((l.drop i).map f) = if (f l[i]).1 = 0 then (if (f l[i]).2 = b then (0, truV b) else decL b ((l.drop (i + 1)).map f)) else ((f l[i]).1, V0) := by
 rw [List.drop_eq_getElem_cons h, List.map_cons, decL]
set_option maxRecDepth 100000 in
set_option maxHeartbeats 4000000 in
theorem decided_c {K : Rk} {W0 : World} {n : Nat} (ih : CkE K W0 n) (ks : List E) (b : Bool) (p0 : Option Addr) (c0 : Nat) (w : World) (hr : RowB W0 12 encE4 (RE n) ks (.slice p0 ks.length c0)) (ho : ∀ x ∈ ks, OkE n x) (g : Go K.X W0 w) {A : Nat → Prop} : Calls Tryz.prog 67 #[K.v, .slice p0 ks.length c0, .bool b] w (VR K.X A (decL b (ks.map fun x => trS (evS K.q n x))) w) := by
 have HTR := Lib.hid fun (j : Nat) (hj : j < ks.length) (W : World) (ai : Option Addr) (ci : Nat) (an : Option Addr) (cn : Nat) (ak : Option Addr) (ck : Nat) (am : Option Addr) (cm : Nat) (h : RE n W0 ks[j] (p4 ks[j] ai ci an cn ak ck am cm)) (l : Go K.X W0 W) => truthOf_c ih ks[j] ai ci an cn ak ck am cm W h (ho _ (List.getElem_mem hj)) l
 have HROW := Lib.hid hr
 have HG0 := Lib.hid g
 obtain ⟨-, z1, z2⟩ := row_len hr
 obtain ⟨p, hp⟩ : ∃ p, p = decL b (ks.map fun x => trS (evS K.q n x)) := ⟨_, rfl⟩
 rw [← hp]
 have HP := Lib.hid hp
 clear hr ho g ih hp
 obtain ⟨U, HU, LU, ZU, BK, BR⟩ := boxes2 w [.string K.pu.t, .string K.pu.i, .string K.au.t, .string K.au.i, .string K.ru.t, .string K.ru.i, .int .i64 K.c.h.k, .bool K.c.h.b, .int .i64 K.c.h.n, .string K.c.h.s, .string K.c.h.t, .string K.c.h.i, .slice K.ai K.c.l.length K.ci, .slice K.an K.c.ns.length K.cn, .pointer K.xp, .map (some K.mb)] 80 [.int .i64 0, .bool false, .int .i64 0, .string ⟨#[]⟩, .string ⟨#[]⟩, .string ⟨#[]⟩, .slice none 0 0, .slice none 0 0] 27
 go_enter Tryz.func67, Tryz.ntmps67
 go_upto_region 1 with fail
 rw [← HU.out]
 clear HU
 have HGU := Lib.hid (Go.of HG0.out.at1 LU.out)
 go_wp2_with fail
 go_loopg [14] ks.length (fun gk vi wr => ∃ (i : Nat), vi = .int .i64 (i : Int) ∧ i ≤ ks.length ∧ ks.length - i ≤ gk ∧ Hid (Go K.X U wr) ∧ Hid (p = decL b ((ks.drop i).map fun x => trS (evS K.q n x))))
 case atStart => exact ⟨0, rfl, Nat.zero_le _, Nat.le_refl _, Lib.hid (Go.refl HGU.out.at1), Lib.hid HP.out⟩
 case round =>
  obtain ⟨i, rfl, hi, hg, G, HQ⟩ := hrel
  have HGR := Lib.hid (HGU.out.trans G.out)
  by_cases hlt : i < ks.length
  ·have zl : (i : Int) < (ks.length : Int) := by omega
   obtain ⟨eb, eo, ai, ci, an, cn, ak, ck, am, cm, hpp, hcs, hre⟩ := re_at HROW.out hlt
   have hcs2 : CellsAt wr eb (eo + i * 12) _ := (HG0.out.trans HGR.out).lo.cells hcs
   obtain ⟨e0, e1, e2, e3, e4, e5, e6, e7, e8, e9, e10, e11⟩ := cells12b hcs2
   have HTC := Lib.hid fun W (l : Go K.X wr W) => HTR.out i hlt W ai ci an cn ak ck am cm hre ((HG0.out.trans HGR.out).trans l)
   have HST := Lib.hid (HQ.out.trans (decL_drop b (fun x => trS (evS K.q n x)) hlt))
   unfold TrP at HTC
   obtain ⟨y, hy⟩ : ∃ y, y = ks[i] := ⟨_, rfl⟩
   rw [← hy] at e0 e1 e2 e3 e4 e5 e6 e7 e8 e9 e10 e11
   obtain ⟨⟨k, t⟩, ht⟩ : ∃ p, p = trS (evS K.q n ks[i]) := ⟨_, rfl⟩
   simp only [← ht] at HTC HST
   simp only [← hy] at HTC
   clear hcs hcs2 hre ht hy HTR
   subst hpp
   go_upto_region 4 with fail
   obtain ⟨W3, hW3⟩ : ∃ W, W = wr.alloc (.cells #[.int .i64 y.op, .int .i64 y.v.h.k, .bool y.v.h.b, .int .i64 y.v.h.n, .string y.v.h.s, .string y.v.h.t, .string y.v.h.i, .slice ai y.v.l.length ci, .slice an y.v.ns.length cn, .string y.nm, .slice ak y.ks.length ck, .slice am y.ns.length cm] 30) := ⟨_, rfl⟩
   have L3 := Lib.hid (show Low wr W3 by rw [hW3]; exact Low.alloc (Low.refl wr) _)
   have BE := Lib.hid (show BoxAtv W3 wr.heap.size [.int .i64 y.op, .int .i64 y.v.h.k, .bool y.v.h.b, .int .i64 y.v.h.n, .string y.v.h.s, .string y.v.h.t, .string y.v.h.i, .slice ai y.v.l.length ci, .slice an y.v.ns.length cn, .string y.nm, .slice ak y.ks.length ck, .slice am y.ns.length cm] from BoxAtv.made hW3 rfl rfl)
   have HG3 := Lib.hid (Go.of G.out.at1 L3.out)
   have BK3 := Lib.hid ((G.out.low L3.out).box BK.out (by simp))
   rw [← hW3]
   clear hW3 e0 e1 e2 e3 e4 e5 e6 e7 e8 e9 e10 e11
   obtain ⟨k0, k1, k2, k3, k4, k5, k6, k7, k8, k9, k10, k11, k12, k13, k14, k15⟩ := BK3.out.at16
   obtain ⟨e0, e1, e2, e3, e4, e5, e6, e7, e8, e9, e10, e11⟩ := BE.out.at12
   go_wp2_with fail
   refine (HTC.out _ HG3.out).mono ?_
   rintro e w1 ⟨rfl, g1⟩
   have HG1 := Lib.hid (G.out.trans (HG3.out.trans g1))
   have BR1 := Lib.hid (HG1.out.box BR.out (by simp))
   clear g1 HTC k0 k1 k2 k3 k4 k5 k6 k7 k8 k9 k10 k11 k12 k13 k14 k15 e0 e1 e2 e3 e4 e5 e6 e7 e8 e9 e10 e11
   by_cases h0 : k = 0
   ·subst h0
    have HST2 := Lib.hid (show p = if t = b then (0, truV b) else decL b ((ks.drop (i + 1)).map fun x => trS (evS K.q n x)) from by rw [HST.out, if_pos rfl])
    by_cases hb : t = b
    ·subst hb
     have HPP := Lib.hid (show p = (0, truV t) by rw [HST2.out, if_pos rfl])
     have HT := Lib.hid (fun W => truth_c t W)
     clear HST HST2 HQ HP
     go_wp2_with fail
     refine (HT.out _).mono ?_
     rintro e w5 ⟨rfl, g5⟩
     have HG5 := Lib.hid (HG1.out.low g5.low)
     have BR5 := Lib.hid (BR1.out.low g5.low)
     clear g5 HT
     obtain ⟨z0, z1, z2, z3, z4, z5, z6, z7⟩ := BR5.out.at8
     obtain ⟨f0, f1, f2, f3, f4, f5, f6, f7⟩ := BR5.out.op8
     go_wp2_with fail
     refine bodyPost_ret (v := .tuple #[trV t, .int .i64 0]) (by simp [results, Tryz.results67, go_sem, World.cell?_setCell_same', z0, z1, z2, z3, z4, z5, z6, z7]; try rfl) rfl ?_
     rw [HPP.out]
     exact vr_tru ((HGU.out.trans HG5.out).k (k := w.heap.size + 1) (kept8 _ _ _ _ _ _ _ _ _ _) (by omega))
    ·have HPP := Lib.hid (show p = decL b ((ks.drop (i + 1)).map fun x => trS (evS K.q n x)) by rw [HST2.out, if_neg hb])
     have hb1 : (t == b) = false := by simpa using hb
     clear HST HST2 HQ HP hb
     go_wp2_with fail
     go_roundg (ks.length - (i + 1))
     case measure => omega
     case rel => exact ⟨i + 1, by go_num, by omega, by omega, HG1, HPP⟩
   ·have HPP := Lib.hid (show p = (k, V0) by rw [HST.out, if_neg h0])
    have hk2 : (k == 0) = false := by simpa using h0
    have hk4 : (k != 0) = true := by simpa using h0
    clear HST HQ HP h0
    obtain ⟨z0, z1, z2, z3, z4, z5, z6, z7⟩ := BR1.out.at8
    obtain ⟨f0, f1, f2, f3, f4, f5, f6, f7⟩ := BR1.out.op8
    go_wp2_with fail
    refine bodyPost_ret (v := .tuple #[zeV, .int .i64 k]) (by simp [results, Tryz.results67, go_sem, World.cell?_setCell_same', z0, z1, z2, z3, z4, z5, z6, z7]; try rfl) rfl ?_
    rw [HPP.out]
    exact vr_err ((HGU.out.trans HG1.out).k (k := w.heap.size + 1) (kept8 _ _ _ _ _ _ _ _ _ _) (by omega))
  ·have zl : ¬ (i : Int) < (ks.length : Int) := by omega
   have HPP := Lib.hid (show p = (0, truV (!b)) by rw [HQ.out, List.drop_eq_nil_of_le (by omega)]; rfl)
   have HT := Lib.hid (fun W => truth_c (!b) W)
   clear HQ HP HTR
   go_wp2_with fail
   refine (HT.out _).mono ?_
   rintro e w5 ⟨rfl, g5⟩
   have HG5 := Lib.hid (G.out.low g5.low)
   have BR5 := Lib.hid (HG5.out.box BR.out (by simp))
   clear g5 HT
   obtain ⟨z0, z1, z2, z3, z4, z5, z6, z7⟩ := BR5.out.at8
   obtain ⟨f0, f1, f2, f3, f4, f5, f6, f7⟩ := BR5.out.op8
   go_wp2_with fail
   refine bodyPost_ret (v := .tuple #[trV (!b), .int .i64 0]) (by simp [results, Tryz.results67, go_sem, World.cell?_setCell_same', z0, z1, z2, z3, z4, z5, z6, z7]; try rfl) rfl ?_
   rw [HPP.out]
   exact vr_tru ((HGU.out.trans HG5.out).k (k := w.heap.size + 1) (kept8 _ _ _ _ _ _ _ _ _ _) (by omega))
end Go.Proofs.YtnchohglplobeaaGreat
