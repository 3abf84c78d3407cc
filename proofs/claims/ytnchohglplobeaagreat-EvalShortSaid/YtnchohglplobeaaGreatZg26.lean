/- reckon (Cn12). Condition: its kids. ofNumbers at the operator 13. Condition: the numbers are of 64 bits. -/
import Derived.Test.YtnchohglplobeaaGreatZg25
set_option linter.unusedVariables false
set_option linter.unusedSimpArgs false
set_option linter.unnecessarySimpa false
namespace Go.Proofs.YtnchohglplobeaaGreat
open Go.RowKit Go.Sort Go.Maps
set_option maxRecDepth 100000 in
set_option maxHeartbeats 4000000 in
theorem ckNum12 {K : Rk} {W0 : World} (e : E) (ai : Option Addr) (ci : Nat) (an : Option Addr) (cn : Nat) (ak : Option Addr) (ck : Nat) (am : Option Addr) (cm : Nat) (w : World) (g : Go K.X W0 w) {n : Nat} (ih : CkE K W0 n) (hf : formB e = true) (hr : RowB W0 12 encE4 (RE n) e.ks (.slice ak e.ks.length ck)) (ho : ∀ x ∈ e.ks, OkE n x) (hl : e.ks.length ≤ 70000) (cx : Cx K W0) (hop : e.op = 12) (x y : V) (hp : evL (evS K.q n) e.ks = (0, [x, y])) (hix : InR x.h.n) (hiy : InR y.h.n) : Calls Tryz.prog 33 #[K.v, ex12 e ai ci an cn ak ck am cm] w (VR K.X (fun b => b < 0) (if x.h.k = 2 ∧ y.h.k = 2 then fitN (x.h.n - y.h.n) else (30, V0)) w) := by
 have HG0 := Lib.hid g
 have HA := Lib.hid (hA0 g)
 have HCNT := Lib.hid (show ∀ W, Calls Tryz.prog 64 #[ex12 e ai ci an cn ak ck am cm] W (fun r w' => r = .returned (.bool true) ∧ Low W w') from fun W => by have h := count_c e W ai ci an cn ak ck am cm; rwa [hf] at h)
 have HAL := Lib.hid fun W (h : Go K.X W0 W) => reckonAll_c ih e.ks ak ck W hr ho hl h
 unfold AllPE at HAL
 have HOP := Lib.hid hop
 rw [hp] at HAL
 have HAL2 : Hid (∀ W, Go K.X W0 W → Calls Tryz.prog 69 #[K.v, .slice ak e.ks.length ck] W (fun e w' => ∃ ao cap, e = .returned (.tuple #[.slice ao 2 cap, .int .i64 0]) ∧ RowAt (fun b => b < 0 ∨ W.heap.size ≤ b) w' [x, y] (.slice ao 2 cap) ∧ Go K.X W w')) := HAL
 have HNU := Lib.hid fun W (ao : Option Addr) (cap : Nat) (h : Ro W [x, y] (.slice ao 2 cap)) => ofNum12_c x y W ao cap h hix hiy
 obtain ⟨p, hpp⟩ : ∃ p : Int × V, p = (if x.h.k = 2 ∧ y.h.k = 2 then fitN (x.h.n - y.h.n) else (30, V0)) := ⟨_, rfl⟩
 rw [← hpp] at HNU ⊢
 unfold VR at HNU
 have HCX := Lib.hid cx
 have HLK := Lib.hid (show ∀ W, OpsAt W K.mb → (Instr.lookup 77 (.map (some K.mb)) (.int .i64 12) true).run Tryz.prog W = .ok (.tuple #[.func (.func 58) #[] #[], .bool true]) W from fun W h => by
  have := MapAt.lookOk h keyedKn und_ops (z := .nilFunc) (by rfl) (kn 12 (by decide))
  rw [show opF (kn 12 (by decide)) = some (.func (.func 58) #[] #[]) from by rw [opF_at]; rfl] at this
  exact this)
 clear hf g hr ho ih hp cx hpp hix hiy HAL hop
 obtain ⟨U, HU, LU, ZU, BK, BE, BR⟩ := boxes3 w [.string K.pu.t, .string K.pu.i, .string K.au.t, .string K.au.i, .string K.ru.t, .string K.ru.i, .int .i64 K.c.h.k, .bool K.c.h.b, .int .i64 K.c.h.n, .string K.c.h.s, .string K.c.h.t, .string K.c.h.i, .slice K.ai K.c.l.length K.ci, .slice K.an K.c.ns.length K.cn, .pointer K.xp, .map (some K.mb)] 80 [.int .i64 e.op, .int .i64 e.v.h.k, .bool e.v.h.b, .int .i64 e.v.h.n, .string e.v.h.s, .string e.v.h.t, .string e.v.h.i, .slice ai e.v.l.length ci, .slice an e.v.ns.length cn, .string e.nm, .slice ak e.ks.length ck, .slice am e.ns.length cm] 30 [.int .i64 0, .bool false, .int .i64 0, .string ⟨#[]⟩, .string ⟨#[]⟩, .string ⟨#[]⟩, .slice none 0 0, .slice none 0 0] 27
 go_enter Tryz.func33, Tryz.ntmps33
 go_upto_region 1 with fail
 rw [← HU.out]
 clear HU
 have HGU := Lib.hid (Go.of HG0.out.at1 LU.out)
 obtain ⟨e0, e1, e2, e3, e4, e5, e6, e7, e8, e9, e10, e11⟩ := BE.out.at12
 go_wp2_with (first | (go_at_call 64; refine (HCNT.out _).mono ?_; rintro e w1 ⟨rfl, l1⟩; have G1 := Lib.hid (Go.of HGU.out.at1 l1); clear l1 HCNT e0 e1 e2 e3 e4 e5 e6 e7 e8 e9 e10 e11; obtain ⟨k0, k1, k2, k3, k4, k5, k6, k7, k8, k9, k10, k11, k12, k13, k14, k15⟩ := (G1.out.box BK.out (by simp)).at16; obtain ⟨e0, e1, e2, e3, e4, e5, e6, e7, e8, e9, e10, e11⟩ := (G1.out.box BE.out (by simp)).at12; (try rw [HOP.out] at e0)) | (go_at_call 69; refine (HAL2.out _ (HG0.out.trans (HGU.out.trans G1.out))).mono ?_; rintro e w2 ⟨ra, rc, rfl, hrx, g2⟩; have G2 := Lib.hid (G1.out.trans g2); have HROW := Lib.hid hrx.r; have hlk := HLK.out w2 (HCX.out.at' (HG0.out.trans (HGU.out.trans G2.out))); clear g2 hrx HAL2 e0 e1 e2 e3 e4 e5 e6 e7 e8 e9 e10 e11 k0 k1 k2 k3 k4 k5 k6 k7 k8 k9 k10 k11 k12 k13 k14 k15; obtain ⟨k0, k1, k2, k3, k4, k5, k6, k7, k8, k9, k10, k11, k12, k13, k14, k15⟩ := (G2.out.box BK.out (by simp)).at16; obtain ⟨e0, e1, e2, e3, e4, e5, e6, e7, e8, e9, e10, e11⟩ := (G2.out.box BE.out (by simp)).at12; (try rw [HOP.out] at e0)) | (go_at_call 70; refine (HNU.out w2 _ _ HROW.out).mono ?_; rintro e w3 ⟨bi, di, bn, dn, rfl, hrx, g3⟩; have G3 := Lib.hid (G2.out.low g3.lo); have HRX := Lib.hid hrx; have HZ2 := Lib.hid G2.out.size; clear g3 hrx HNU e0 e1 e2 e3 e4 e5 e6 e7 e8 e9 e10 e11 k0 k1 k2 k3 k4 k5 k6 k7 k8 k9 k10 k11 k12 k13 k14 k15 hlk; obtain ⟨z0, z1, z2, z3, z4, z5, z6, z7⟩ := (G3.out.box BR.out (by simp)).at8; obtain ⟨f0, f1, f2, f3, f4, f5, f6, f7⟩ := (G3.out.box BR.out (by simp)).op8))
 refine bodyPost_ret (v := .tuple #[av8 p.2.h bi p.2.l.length di bn p.2.ns.length dn, .int .i64 p.1]) (by simp [results, Tryz.results33, go_sem, World.cell?_setCell_same', z0, z1, z2, z3, z4, z5, z6, z7]; try rfl) rfl ?_
 exact vr_put (k := w.heap.size + 2) (A := (fun b => b < 0)) (U := U) (HRX.out.mono fun b hb => hb.elim False.elim fun h => .inr (Nat.le_trans HZ2.out h)) (HGU.out.trans G3.out) LU.out.size ⟨by omega, by rw [ZU.out]; omega⟩ HA.out
end Go.Proofs.YtnchohglplobeaaGreat
namespace Go.Proofs.YtnchohglplobeaaGreat
open Go.RowKit Go.Sort Go.Maps
set_option maxRecDepth 100000 in
set_option maxHeartbeats 4000000 in
theorem ofNum13_c (x y : V) (w : World) (p0 : Option Addr) (c0 : Nat) (hr : Ro w [x, y] (.slice p0 2 c0)) (hix : InR x.h.n) (hiy : InR y.h.n) : Calls Tryz.prog 70 #[.func (.func 60) #[] #[], .slice p0 2 c0] w (VR none (fun _ => False) (if x.h.k = 2 ∧ y.h.k = 2 then fitN (x.h.n * y.h.n) else (30, V0)) w) := by
 obtain ⟨L, hL⟩ : ∃ L, L = [x, y] := ⟨_, rfl⟩
 rw [← hL] at hr
 obtain ⟨p, hp⟩ : ∃ p : Int × V, p = (if x.h.k = 2 ∧ y.h.k = 2 then fitN (x.h.n * y.h.n) else (30, V0)) := ⟨_, rfl⟩
 rw [← hp]
 have HLN := Lib.hid (show L.length = 2 by rw [hL]; rfl)
 have HYES := Lib.hid (show (∀ j (hj : j < L.length), L[j].h.k = 2) → p = fitN (x.h.n * y.h.n) from fun h => by
  subst hL
  have a0 : x.h.k = 2 := h 0 (by simp)
  have a1 : y.h.k = 2 := h 1 (by simp)
  rw [hp, if_pos ⟨a0, a1⟩])
 have HNO := Lib.hid (show ∀ j (hj : j < L.length), L[j].h.k ≠ 2 → p = (30, V0) from fun j hj h => by
  subst hL
  rw [hp, if_neg]
  intro q
  simp only [List.length_cons, List.length_nil] at hj
  rcases j with _ | _ | j
  ·exact h q.1
  ·exact h q.2
  ·omega)
 have HMAP := Lib.hid (show L.map (fun x => x.h.n) = [x.h.n, y.h.n] by rw [hL]; rfl)
 have HF := Lib.hid (fun W b q c h0 h1 => opf13_c x.h.n y.h.n hix hiy W b q c h0 h1)
 have HR := Lib.hid hr
 clear hr hix hiy hp hL
 obtain ⟨U, HU, LU, ZU, BR⟩ := boxes1 w [.int .i64 0, .bool false, .int .i64 0, .string ⟨#[]⟩, .string ⟨#[]⟩, .string ⟨#[]⟩, .slice none 0 0, .slice none 0 0] 27
 go_enter Tryz.func70, Tryz.ntmps70
 go_upto_region 1 with fail
 rw [← HU.out]
 clear HU
 have HRO := Lib.hid (HR.out.low LU.out)
 go_wp2_with fail
 go_loopg [6, 11] 2 (fun gk vs vi wr => ∃ (vr : Value) (i : Nat) (R : List Int), vr = vs ∧ vi = .int .i64 (i : Int) ∧ i ≤ 2 ∧ 2 - i ≤ gk ∧ R.length ≤ i ∧ Hid (Low U wr) ∧ Hid (OwnR 2 1 encI U.heap.size wr vr R) ∧ Hid (R = (L.take i).map fun x => x.h.n) ∧ Hid (∀ j (hj : j < L.length), j < i → L[j].h.k = 2))
 case atStart => exact ⟨_, 0, [], rfl, rfl, Nat.zero_le _, Nat.le_refl _, Nat.le_refl _, Lib.hid (Low.refl _), Lib.hid (OwnR.nil _ _ _ _ _), Lib.hid rfl, Lib.hid fun j hj h => absurd h (Nat.not_lt_zero _)⟩
 case round =>
  obtain ⟨vr, i, R, rfl, rfl, hi, hg, hR, G, O, K, KK⟩ := hrel
  by_cases hlt : i < 2
  ·have zl : (i : Int) < 2 := by omega
   have hil : i < L.length := by rw [HLN.out]; exact hlt
   obtain ⟨b, o, xi, xc, xn, xd, hpp, hcs, hrx⟩ := ro_at (HRO.out.low G.out) hil
   obtain ⟨e0, e1, e2, e3, e4, e5, e6, e7⟩ := cells8 hcs
   have hst := map_snocI L hil
   obtain ⟨z, hz⟩ : ∃ z, z = L[i] := ⟨_, rfl⟩
   rw [← hz] at e0 e1 e2 e3 e4 e5 e6 e7 hst
   have HSTEP := Lib.hid hst
   have HX := Lib.hid hz
   subst hpp
   clear hcs hrx hst hz
   by_cases hk : z.h.k = 2
   ·have HKX := Lib.hid (show ∀ j (hj : j < L.length), j < i + 1 → L[j].h.k = 2 from fun j hj hji => by
     rcases Nat.lt_succ_iff_lt_or_eq.1 hji with h | rfl
     ·exact KK.out j hj h
     ·rw [← HX.out]; exact hk)
    have HK4 := Lib.hid hk
    clear hk
    go_upto_region 5 with fail
    rw [HK4.out]
    obtain ⟨W3, hW3⟩ : ∃ W, W = wr.alloc (.cells #[.int .i64 2, .bool z.h.b, .int .i64 z.h.n, .string z.h.s, .string z.h.t, .string z.h.i, .slice xi z.l.length xc, .slice xn z.ns.length xd] 27) := ⟨_, rfl⟩
    have HW3 := Lib.hid hW3
    have L3 := Lib.hid (show Low wr W3 by rw [hW3]; exact Low.alloc (Low.refl wr) _)
    have BN := Lib.hid (show BoxAtv W3 wr.heap.size [.int .i64 2, .bool z.h.b, .int .i64 z.h.n, .string z.h.s, .string z.h.t, .string z.h.i, .slice xi z.l.length xc, .slice xn z.ns.length xd] from BoxAtv.made hW3 rfl rfl)
    have O3 := Lib.hid (OwnR.low O.out L3.out)
    have hsz3 : U.heap.size ≤ W3.heap.size := Nat.le_trans G.out.size L3.out.size
    rw [← HW3.out]
    clear HW3 hW3 e0 e1 e2 e3 e4 e5 e6 e7
    obtain ⟨n0, n1, n2, n3, n4, n5, n6, n7⟩ := BN.out.at8
    go_wp2_with (first
     | (at_builtin; go_loud (refine appR rfl _ _ _ rfl Tryz.underlying59 i_info rfl (by decide) (by decide) encI_len encI_one U.heap.size _ R rfl (OwnR.alloc O3.out _) z.h.n ⟨W3.heap.size, 0, none⟩ 1 rfl (fun j u hj => newcell_at _ _ _ _ _ rfl hj) (by omega) (by show U.heap.size ≤ (W3.alloc _).heap.size; simp; omega) ?_); intro v6 w6 O6 B6 K6 N6))
    have O6' := Lib.hid O6
    have L6 := Lib.hid (show Low U w6 from (low_newU (G.out.trans L3.out) _).trans_belowU B6 (Nat.le_refl _))
    clear O6 B6 K6 N6
    go_roundg (2 - (i + 1))
    case measure => omega
    case rel => exact ⟨_, i + 1, R ++ [z.h.n], rfl, by go_num, by omega, by omega, by simp; omega, L6, O6', Lib.hid (by rw [HSTEP.out, K.out]), HKX⟩
   ·have hk2 : (z.h.k == 2) = false := by simpa using hk
    have hk4 : (z.h.k != 2) = true := by simpa using hk
    have HPN := Lib.hid (HNO.out i hil (by rw [← HX.out]; exact hk))
    clear hk
    go_upto_region 5 with fail
    obtain ⟨W3, hW3⟩ : ∃ W, W = wr.alloc (.cells #[.int .i64 z.h.k, .bool z.h.b, .int .i64 z.h.n, .string z.h.s, .string z.h.t, .string z.h.i, .slice xi z.l.length xc, .slice xn z.ns.length xd] 27) := ⟨_, rfl⟩
    have L3 := Lib.hid (show Low wr W3 by rw [hW3]; exact Low.alloc (Low.refl wr) _)
    have BN := Lib.hid (show BoxAtv W3 wr.heap.size [.int .i64 z.h.k, .bool z.h.b, .int .i64 z.h.n, .string z.h.s, .string z.h.t, .string z.h.i, .slice xi z.l.length xc, .slice xn z.ns.length xd] from BoxAtv.made hW3 rfl rfl)
    rw [← hW3]
    clear hW3 e0 e1 e2 e3 e4 e5 e6 e7
    obtain ⟨n0, n1, n2, n3, n4, n5, n6, n7⟩ := BN.out.at8
    obtain ⟨z0, z1, z2, z3, z4, z5, z6, z7⟩ := (BR.out.low (G.out.trans L3.out)).at8
    obtain ⟨f0, f1, f2, f3, f4, f5, f6, f7⟩ := (BR.out.low (G.out.trans L3.out)).op8
    go_wp2_with fail
    refine bodyPost_ret (v := .tuple #[zeV, .int .i64 30]) (by simp [results, Tryz.results70, go_sem, World.cell?_setCell_same', z0, z1, z2, z3, z4, z5, z6, z7]; try rfl) rfl ?_
    rw [HPN.out]
    exact vr_err ((Go.ofN ((LU.out.trans G.out).trans L3.out)).k (k := w.heap.size) (kept8 _ _ _ _ _ _ _ _ _ _) (by omega))
  ·have zl : ¬ (i : Int) < 2 := by omega
   have HPY := Lib.hid (HYES.out fun j hj => KK.out j hj (by have := HLN.out; omega))
   have hRE : R = [x.h.n, y.h.n] := by rw [K.out, List.take_of_length_le (by have := HLN.out; omega)]; exact HMAP.out
   subst hRE
   obtain ⟨ao, cap, rfl, -, -, h5⟩ := OwnR.shape O.out
   rcases h5 with h5 | ⟨g, rfl, -, -⟩
   ·simp at h5
   have hc0 := OwnR.cell encI_len O.out 0 0 (by simp) (by decide)
   have hc1 := OwnR.cell encI_len O.out 1 0 (by simp) (by decide)
   have HFF := Lib.hid (HF.out wr g 0 cap (by simpa [encI] using hc0) (by simpa [encI] using hc1))
   unfold VR at HFF
   have BR1 := Lib.hid (BR.out.low G.out)
   clear hc0 hc1 HF HYES HNO HMAP KK K O
   obtain ⟨q, hq⟩ : ∃ q : Int × V, q = fitN (x.h.n * y.h.n) := ⟨_, rfl⟩
   rw [← hq] at HFF HPY
   clear hq
   go_wp2_with (go_at_call 60; refine HFF.out.mono ?_; rintro e w1 ⟨bi, di, bn, dn, rfl, hrx, g1⟩; have HG := Lib.hid g1.lo; have HRX := Lib.hid hrx; clear g1 hrx HFF; obtain ⟨z0, z1, z2, z3, z4, z5, z6, z7⟩ := (BR1.out.low HG.out).at8; obtain ⟨f0, f1, f2, f3, f4, f5, f6, f7⟩ := (BR1.out.low HG.out).op8)
   refine bodyPost_ret (v := .tuple #[av8 q.2.h bi q.2.l.length di bn q.2.ns.length dn, .int .i64 q.1]) (by simp [results, Tryz.results70, go_sem, World.cell?_setCell_same', z0, z1, z2, z3, z4, z5, z6, z7]; try rfl) rfl ?_
   rw [HPY.out]
   exact vr_put (k := w.heap.size) (A := fun _ => False) (U := wr) HRX.out (Go.ofN ((LU.out.trans G.out).trans HG.out)) (Nat.le_trans LU.out.size G.out.size) ⟨by omega, by have := G.out.size; have := ZU.out; omega⟩ (fun b h => h.elim)
end Go.Proofs.YtnchohglplobeaaGreat
