/- reckonAll: what some expressions come to, one by one. Condition: reckon. -/
import Derived.Test.YtnchohglplobeaaGreatZg14
set_option linter.unusedVariables false
set_option linter.unusedSimpArgs false
set_option linter.unnecessarySimpa false
namespace Go.Proofs.YtnchohglplobeaaGreat
open Go.RowKit Go.Sort Go.Maps
theorem OwnR.go {X : Sx} {α : Type} {e : TypeId} {k : Nat} {enc : α → List Value} {B : Nat} {w w' : World} {v : Value} {l : List α} (h : OwnR e k enc B w v l) (g : Go X w w') (hB : ∀ m, X.m = some m → m < B) : OwnR e k enc B w' v l :=
 h.to fun b hb => by
  obtain ⟨h1, h2⟩ := World.ownsRow.lt h b hb
  have hl := g.lo
  revert hl hB
  generalize X.m = o
  intro hB hl
  cases o with
  | none => exact (show Low w w' from hl).2.2.2 b h2
  | some m => exact (show Lw m w w' from hl).block b h2 (by have := hB m rfl; omega)
theorem el_stepG {X : Sx} {B0 : Nat} {w wr w1 W w2 : World} {v v2 : Value} {ps : List El} {q : El} (hB0 : B0 ≤ w.heap.size) (hsz : w.heap.size ≤ wr.heap.size) (E : ∀ p ∈ ps, ElOk (fun b => b < B0 ∨ (w.heap.size ≤ b ∧ some b ≠ v.ownBlock)) wr p) (L1 : Go X wr w1) (LW : Low w1 W)
  (hq : Rep (fun b => b < B0 ∨ wr.heap.size ≤ b) w1 q.v q.it q.nm) (O : OwnVv w.heap.size wr v ps) (k2 : ∀ b, b < W.heap.size → some b ≠ v.ownBlock → w2.heap[b]? = W.heap[b]?) (n2 : v2.ownBlock = v.ownBlock ∨ ∀ g, v2.ownBlock = some g → W.heap.size ≤ g) :
  ∀ p ∈ ps ++ [q], ElOk (fun b => b < B0 ∨ (w.heap.size ≤ b ∧ some b ≠ v2.ownBlock)) w2 p := by
 have hv : ∀ g, v.ownBlock = some g → w.heap.size ≤ g ∧ g < wr.heap.size := fun g hg => World.ownsRow.lt O g hg
 have s1 := L1.size
 have s2 := LW.size
 have key : ∀ b, b < w1.heap.size → some b ≠ v.ownBlock → some b ≠ v2.ownBlock ∧ w2.heap[b]? = w1.heap[b]? := fun b hb hne => by
  refine ⟨?_, (k2 b (by omega) hne).trans (LW.2.2.2 b hb)⟩
  rcases n2 with h | h
  ·rw [h]; exact hne
  ·intro e
   have := h b e.symm
   omega
 intro p hp
 rcases List.mem_append.1 hp with hp | hp
 ·refine Rep.to (fun b ha hb => ?_) _ (L1.r (E p hp))
  have hne : some b ≠ v.ownBlock := by
   rcases ha with h | h
   ·intro e; have := (hv b e.symm).1; omega
   ·exact h.2
  obtain ⟨h1, h2⟩ := key b hb hne
  exact ⟨ha.imp id fun h => ⟨h.1, h1⟩, h2⟩
 ·simp at hp
  subst hp
  refine Rep.to (fun b ha hb => ?_) _ hq
  have hne : some b ≠ v.ownBlock := by
   intro e
   have := hv b e.symm
   rcases ha with h | h <;> omega
  obtain ⟨h1, h2⟩ := key b hb hne
  exact ⟨ha.imp id fun h => ⟨by omega, h1⟩, h2⟩
theorem Go.below {X : Sx} {w a b : World} {B : Nat} (h : Go X w a) (k : RowKit.Below B a b) (hB : w.heap.size ≤ B) : Go X w b := by
 have hm : ∀ m, X.m = some m → m < w.heap.size := fun m e => (Sx.ok h.at0 m e).lt
 have hlo : Lo X.m w b := by
  have h1 := h.lo
  revert h1 hm
  generalize X.m = o
  intro hm h1
  cases o with
  | none => exact Low.trans_below h1 k hB
  | some m => exact Lw.below h1 k hB (by have := hm m rfl; omega)
 exact ⟨h.at0, hlo, Sx.step h.at0 hlo h.at1 fun m e => k.block m (by have := hm m e; omega)⟩
theorem evL_all {f : E → Int × V} : ∀ {l : List E}, (∀ x ∈ l, (f x).1 = 0) → evL f l = (0, l.map fun x => (f x).2)
 | [], _ => rfl
 | x :: l, h => by
  rw [evL, evL_all (fun y hy => h y (by simp [hy])), if_pos (h x (by simp)), if_pos rfl]; rfl
theorem evL_at {f : E → Int × V} {l : List E} {i : Nat} (hi : i < l.length) (h : ∀ x ∈ l.take i, (f x).1 = 0) (h1 : (f l[i]).1 ≠ 0) : evL f l = ((f l[i]).1, []) := by
 induction l generalizing i with
 | nil => simp at hi
 | cons x l ih =>
  cases i with
  | zero =>
   have h2 : (f x).1 ≠ 0 := h1
   rw [evL, if_neg h2]; rfl
  | succ i =>
   have h0 : (f x).1 = 0 := h x (by rw [List.take_succ_cons]; simp)
   have h2 := ih (i := i) (by simpa using hi) (fun y hy => h y (by rw [List.take_succ_cons]; simp [hy])) (by simpa using h1)
   rw [evL, if_pos h0, if_neg (by rw [h2]; simpa using h1), h2]
   simp
def AllPE (X : Sx) (B0 : Nat) (p : Int × List V) (w : World) (e : Ending) (w' : World) : Prop := ∃ ao cap, e = .returned (.tuple #[.slice ao p.2.length cap, .int .i64 p.1]) ∧ RowAt (fun b => b < B0 ∨ w.heap.size ≤ b) w' p.2 (.slice ao p.2.length cap) ∧ Go X w w'
theorem retS {ao : Option Addr} {a b cap : Nat} {k : Int} (h : a = b) : Ending.returned (.tuple #[.slice ao a cap, .int .i64 k]) = .returned (.tuple #[.slice ao b cap, .int .i64 k]) := by rw [h]
set_option maxRecDepth 100000 in
set_option maxHeartbeats 4000000 in
theorem reckonAll_c {K : Rk} {W0 : World} {n : Nat} (ih : CkE K W0 n) (ks : List E) (p0 : Option Addr) (c0 : Nat) (w : World) (hr : RowB W0 12 encE4 (RE n) ks (.slice p0 ks.length c0)) (ho : ∀ x ∈ ks, OkE n x) (hl : ks.length ≤ 70000) (g : Go K.X W0 w) : Calls Tryz.prog 69 #[K.v, .slice p0 ks.length c0] w (AllPE K.X 0 (evL (evS K.q n) ks) w) := by
 have HTR := Lib.hid fun (j : Nat) (hj : j < ks.length) (W : World) (ai : Option Addr) (ci : Nat) (an : Option Addr) (cn : Nat) (ak : Option Addr) (ck : Nat) (am : Option Addr) (cm : Nat) (h : RE n W0 ks[j] (p4 ks[j] ai ci an cn ak ck am cm)) (l : Go K.X W0 W) => ih ks[j] ai ci an cn ak ck am cm W h (ho _ (List.getElem_mem hj)) l
 have HROW := Lib.hid hr
 have HG0 := Lib.hid g
 have hBM := Lib.hid (show ∀ m, K.X.m = some m → m < w.heap.size from fun m e => (Sx.ok g.at1 m e).lt)
 obtain ⟨-, z1, z2⟩ := row_len hr
 obtain ⟨p, hp⟩ : ∃ p, p = evL (evS K.q n) ks := ⟨_, rfl⟩
 rw [← hp]
 have HP := Lib.hid hp
 obtain ⟨f, hf⟩ : ∃ f, f = evS K.q n := ⟨_, rfl⟩
 simp only [VR, ← hf] at HTR HP
 clear hr ho g ih hp hf
 obtain ⟨U, HU, LU, ZU, BK⟩ := boxes1 w [.string K.pu.t, .string K.pu.i, .string K.au.t, .string K.au.i, .string K.ru.t, .string K.ru.i, .int .i64 K.c.h.k, .bool K.c.h.b, .int .i64 K.c.h.n, .string K.c.h.s, .string K.c.h.t, .string K.c.h.i, .slice K.ai K.c.l.length K.ci, .slice K.an K.c.ns.length K.cn, .pointer K.xp, .map (some K.mb)] 80
 go_enter Tryz.func69, Tryz.ntmps69
 go_upto_region 1 with fail
 rw [← HU.out]
 clear HU
 have HGU := Lib.hid (Go.of HG0.out.at1 LU.out)
 go_wp2_with fail
 go_loopg [6, 13] ks.length (fun gk vs vi wr => ∃ (v : Value) (i : Nat) (ps : List El), v = vs ∧ vi = .int .i64 (i : Int) ∧ i ≤ ks.length ∧ ks.length - i ≤ gk ∧ Hid (Go K.X U wr) ∧ Hid ((∀ x ∈ ks.take i, (f x).1 = 0) ∧ ps.map (·.v) = (ks.take i).map fun x => (f x).2) ∧ Hid (OwnVv U.heap.size wr v ps) ∧ Hid (∀ p ∈ ps, ElOk (fun b => b < 0 ∨ (U.heap.size ≤ b ∧ some b ≠ v.ownBlock)) wr p))
 case atStart => exact ⟨_, 0, [], rfl, rfl, Nat.zero_le _, Nat.le_refl _, Lib.hid (Go.refl HGU.out.at1), Lib.hid ⟨by simp, by simp⟩, Lib.hid (OwnR.nil _ _ _ _ _), Lib.hid (by simp)⟩
 case round =>
  obtain ⟨v, i, ps, rfl, rfl, hi, hg, G, KK, O, EE⟩ := hrel
  have hpl : ps.length = i := by have := congrArg List.length KK.out.2; simpa [hi] using this
  have HGR := Lib.hid (HGU.out.trans G.out)
  by_cases hlt : i < ks.length
  ·have zl : (i : Int) < (ks.length : Int) := by omega
   obtain ⟨eb, eo, ai, ci, an, cn, ak, ck, am, cm, hpp, hcs, hre⟩ := re_at HROW.out hlt
   have hcs2 : CellsAt wr eb (eo + i * 12) _ := (HG0.out.trans HGR.out).lo.cells hcs
   obtain ⟨e0, e1, e2, e3, e4, e5, e6, e7, e8, e9, e10, e11⟩ := cells12b hcs2
   have HTC := Lib.hid fun W (l : Go K.X wr W) => HTR.out i hlt W ai ci an cn ak ck am cm hre ((HG0.out.trans HGR.out).trans l)
   obtain ⟨y, hy⟩ : ∃ y, y = ks[i] := ⟨_, rfl⟩
   rw [← hy] at e0 e1 e2 e3 e4 e5 e6 e7 e8 e9 e10 e11
   obtain ⟨⟨k, x⟩, ht⟩ : ∃ p, p = f ks[i] := ⟨_, rfl⟩
   simp only [← ht] at HTC
   have HTT := Lib.hid ht
   simp only [← hy] at HTC
   clear hcs hcs2 hre ht hy HTR
   subst hpp
   go_upto_region 5 with fail
   obtain ⟨W3, hW3⟩ : ∃ W, W = wr.alloc (.cells #[.int .i64 y.op, .int .i64 y.v.h.k, .bool y.v.h.b, .int .i64 y.v.h.n, .string y.v.h.s, .string y.v.h.t, .string y.v.h.i, .slice ai y.v.l.length ci, .slice an y.v.ns.length cn, .string y.nm, .slice ak y.ks.length ck, .slice am y.ns.length cm] 30) := ⟨_, rfl⟩
   have L3 := Lib.hid (show Low wr W3 by rw [hW3]; exact Low.alloc (Low.refl wr) _)
   have BE := Lib.hid (show BoxAtv W3 wr.heap.size [.int .i64 y.op, .int .i64 y.v.h.k, .bool y.v.h.b, .int .i64 y.v.h.n, .string y.v.h.s, .string y.v.h.t, .string y.v.h.i, .slice ai y.v.l.length ci, .slice an y.v.ns.length cn, .string y.nm, .slice ak y.ks.length ck, .slice am y.ns.length cm] from BoxAtv.made hW3 rfl rfl)
   have HG3 := Lib.hid (Go.of G.out.at1 L3.out)
   have BK3 := Lib.hid ((G.out.low L3.out).box BK.out (by simp))
   rw [← hW3]
   clear hW3 e0 e1 e2 e3 e4 e5 e6 e7 e8 e9 e10 e11
   obtain ⟨k0, k1, k2, k3, k4, k5, k6, k7, k8, k9, k10, k11, k12, k13, k14, k15⟩ := BK3.out.at16
   obtain ⟨e0, e1, e2, e3, e4, e5, e6, e7, e8, e9, e10, e11⟩ := BE.out.at12
   go_wp2_with fail
   refine (HTC.out _ HG3.out).mono ?_
   rintro e w1 ⟨bi, di, bn, dn, rfl, hrx, g1⟩
   have HG1 := Lib.hid (HG3.out.trans g1)
   have HRX := Lib.hid hrx
   have hsz : U.heap.size ≤ wr.heap.size := G.out.size
   have hsz1 : wr.heap.size ≤ w1.heap.size := HG1.out.size
   have hsz3 : wr.heap.size ≤ W3.heap.size := L3.out.size
   clear g1 hrx HTC k0 k1 k2 k3 k4 k5 k6 k7 k8 k9 k10 k11 k12 k13 k14 k15 e0 e1 e2 e3 e4 e5 e6 e7 e8 e9 e10 e11
   go_upto_region 6 with fail
   obtain ⟨W4, hW4⟩ : ∃ W, W = w1.alloc (.cells #[.int .i64 x.h.k, .bool x.h.b, .int .i64 x.h.n, .string x.h.s, .string x.h.t, .string x.h.i, .slice bi x.l.length di, .slice bn x.ns.length dn] 27) := ⟨_, rfl⟩
   have L4 := Lib.hid (show Low w1 W4 by rw [hW4]; exact Low.alloc (Low.refl _) _)
   have BX := Lib.hid (show BoxAtv W4 w1.heap.size [.int .i64 x.h.k, .bool x.h.b, .int .i64 x.h.n, .string x.h.s, .string x.h.t, .string x.h.i, .slice bi x.l.length di, .slice bn x.ns.length dn] from BoxAtv.made hW4 rfl rfl)
   rw [← hW4]
   clear hW4
   obtain ⟨x0, x1, x2, x3, x4, x5, x6, x7⟩ := BX.out.at8
   by_cases h0 : k = 0
   ·subst h0
    have hown := (OwnR.go O.out HG1.out (fun m e => Nat.lt_of_lt_of_le (hBM.out m e) LU.out.size)).low L4.out
    have HO := Lib.hid hown
    clear hown
    go_wp2_with (first
     | (at_builtin; refine appR rfl _ _ _ rfl Tryz.underlying24 v_infov rfl (by decide) (by decide) encV_lenv encV_onev U.heap.size v ps rfl (HO.out.alloc _) ⟨x, bi, di, bn, dn⟩ ⟨W4.heap.size, 0, none⟩ 1 rfl (fun j u hj => newcell_at _ _ _ _ _ rfl hj) (by omega) (by show U.heap.size ≤ (W4.alloc _).heap.size; have := L4.out.size; simp; omega) ?_; intro v2 w2 h2 b2 k2 n2))
    have W1 := Lib.hid (L4.out.trans (Low.alloc (Low.refl W4) (.cells #[.int .i64 x.h.k, .bool x.h.b, .int .i64 x.h.n, .string x.h.s, .string x.h.t, .string x.h.i, .slice bi x.l.length di, .slice bn x.ns.length dn] 27)))
    have hE := el_stepG (Nat.zero_le _) hsz EE.out HG1.out W1.out (q := ⟨x, bi, di, bn, dn⟩) (HRX.out.mono fun b hb => hb.imp id fun h => Nat.le_trans hsz3 h) O.out k2 n2
    have hL : Go K.X U w2 := by
     exact ((G.out.trans HG1.out).low W1.out).below b2 (Nat.le_refl _)
    have HE := Lib.hid hE
    have HL2 := Lib.hid hL
    have H2 := Lib.hid h2
    have hk : (∀ x ∈ ks.take (i + 1), (f x).1 = 0) ∧ (ps ++ [(⟨x, bi, di, bn, dn⟩ : El)]).map (·.v) = (ks.take (i + 1)).map fun x => (f x).2 := by
     rw [List.take_succ_eq_append_getElem hlt]
     refine ⟨fun z hz => ?_, ?_⟩
     ·rcases List.mem_append.1 hz with hz | hz
      ·exact KK.out.1 z hz
      ·simp at hz; rw [hz, ← HTT.out]
     ·rw [List.map_append, List.map_append, KK.out.2, List.map_singleton, List.map_singleton, ← HTT.out]
    have HK := Lib.hid hk
    clear hE hL h2 b2 k2 n2 hk x0 x1 x2 x3 x4 x5 x6 x7
    go_wp2_with fail
    go_roundg (ks.length - (i + 1))
    case measure => omega
    case rel => exact ⟨v2, i + 1, _, rfl, by go_num, by omega, by omega, HL2, HK, H2, HE⟩
   ·have he : p = (k, []) := by rw [HP.out]; have := evL_at hlt KK.out.1 (by rw [← HTT.out]; exact h0); rw [this, ← HTT.out]
    have hk2 : (k == 0) = false := by simpa using h0
    have hk4 : (k != 0) = true := by simpa using h0
    have HE := Lib.hid he
    clear he h0
    go_wp2_with fail
    go_ret2
    rw [HE.out]
    exact ⟨none, 0, rfl, ⟨none, 0, rfl, by simp, .inl rfl⟩, HGU.out.trans ((G.out.trans HG1.out).low L4.out)⟩
  ·have zl : ¬ (i : Int) < (ks.length : Int) := by omega
   have ht : ks.take i = ks := List.take_of_length_le (by omega)
   have hall : ∀ x ∈ ks, (f x).1 = 0 := fun x hx => KK.out.1 x (by rw [ht]; exact hx)
   have hpv := KK.out.2
   rw [ht] at hpv
   have HPP := Lib.hid (show p = (0, ps.map (·.v)) by rw [HP.out, evL_all hall, hpv])
   obtain ⟨ao, cap, hv, hc1, hc2, -⟩ := O.out.shape
   have HRR := Lib.hid (ownV_row (A' := fun b => b < 0 ∨ w.heap.size ≤ b) O.out EE.out (fun b hb => hb.imp id fun h => Nat.le_trans LU.out.size h.1) (fun g hg => .inr (Nat.le_trans LU.out.size (World.ownsRow.lt O.out g hg).1)))
   subst hv
   clear ht hall hpv
   go_wp2_with fail
   go_ret2
   rw [HPP.out]
   refine ⟨ao, cap, retS (by simp; omega), ?_, HGR.out⟩
   have := HRR.out
   simpa using this
end Go.Proofs.YtnchohglplobeaaGreat
