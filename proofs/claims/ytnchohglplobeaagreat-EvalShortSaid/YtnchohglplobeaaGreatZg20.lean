/- slices.ContainsFunc at values, of two closures of package eval; contains. No condition. Operators of package eval on sets: containsAll, containsAny. No condition. of: what its arms share. No condition. reckon (C1). Condition: its kids. reckon (C2). Condition: its kids. reckon (C3). Condition: its kids. -/
import Derived.Test.YtnchohglplobeaaGreatZg17
import Derived.Test.YtnchohglplobeaaGreatZEvL3q12
import Derived.Test.YtnchohglplobeaaGreatZEvL2q12
set_option linter.unusedVariables false
set_option linter.unusedSimpArgs false
set_option linter.unnecessarySimpa false
namespace Go.Proofs.YtnchohglplobeaaGreat
open Go.RowKit Go.Sort Go.Maps
set_option maxHeartbeats 1600000 in
theorem idxA14_c (p : V → Bool) (bx : Nat) (l : List V) (w : World) (hc : ∀ x ∈ l, ∀ w', Gr w w' → ∀ it nm, R w' x it nm → Calls Tryz.prog 145 #[avv x.h it nm, .pointer (some ⟨bx, 0, none⟩)] w' fun e w'' => e = .returned (.bool (p x)) ∧ Gr w' w'')
  (it : Value) (hl : Ro w l it) : Calls Tryz.prog 174 #[it, .func (.func 145) #[] #[.pointer (some ⟨bx, 0, none⟩)]] w (IdxPv p l w) := by
 obtain ⟨al, cl, rfl, ⟨zl, zl'⟩, -⟩ := id hl
 have HL := Lib.hid hl
 have HI := Lib.hid hc
 clear hl hc
 go_enter Tryz.func174, Tryz.ntmps174
 go_wp2_with fail
 go_loopg [8] l.length (fun gk vi wr => ∃ i : Nat, vi = .int .i64 (i : Int) ∧ i ≤ l.length ∧ l.length - i ≤ gk ∧ Hid (Gr w wr) ∧ Hid (l.any p = (l.drop i).any p))
 case atStart => exact ⟨0, rfl, Nat.zero_le _, Nat.le_refl _, Lib.hid (Gr.refl _), rfl⟩
 case round =>
  obtain ⟨i, rfl, hi, hg, G, K⟩ := hrel
  by_cases hlt : i < l.length
  ·have z1 : (i : Int) < (l.length : Int) := by omega
   obtain ⟨b, o, ai, ci, an, cn, rfl, hcs, hrx⟩ := ro_at (HL.out.low G.out.low) hlt
   obtain ⟨e0, e1, e2, e3, e4, e5, e6, e7⟩ := cells8 hcs
   have hcon := HI.out l[i] (List.getElem_mem hlt) wr G.out _ _ hrx
   have hst : l.any p = (p l[i] || (l.drop (i + 1)).any p) := by rw [K.out, drop_consv hlt, List.any_cons]
   generalize p l[i] = c at hcon hst
   have HC := Lib.hid hcon
   have HS := Lib.hid hst
   clear hcon hst hcs hrx
   go_wp2_with fail
   refine HC.out.mono ?_
   rintro e w1 ⟨rfl, g⟩
   cases c with
   | true =>
    have HQ := Lib.hid (show decide ((0 : Int) ≤ (i : Int)) = l.any p by rw [HS.out]; simp)
    go_wp2_with fail
    go_ret
    exact ⟨_, rfl, HQ.out, G.out.trans g⟩
   | false =>
    have HS' : Hid (l.any p = (l.drop (i + 1)).any p) := by show _ = _; rw [HS.out]; rfl
    go_wp2_with fail
    go_roundg (l.length - (i + 1))
    case measure => omega
    case rel => exact ⟨i + 1, by go_num, by omega, by omega, Lib.hid (G.out.trans g), HS'⟩
  ·have z1 : ¬ (i : Int) < (l.length : Int) := by omega
   have HQ := Lib.hid (show decide ((0 : Int) ≤ -1) = l.any p by rw [K.out, List.drop_eq_nil_of_le (show l.length ≤ i by omega)]; rfl)
   go_wp2_with fail
   go_ret
   exact ⟨_, rfl, HQ.out, G.out⟩
set_option maxHeartbeats 1600000 in
theorem conA14_c (p : V → Bool) (bx : Nat) (l : List V) (w : World) (hc : ∀ x ∈ l, ∀ w', Gr w w' → ∀ it nm, R w' x it nm → Calls Tryz.prog 145 #[avv x.h it nm, .pointer (some ⟨bx, 0, none⟩)] w' fun e w'' => e = .returned (.bool (p x)) ∧ Gr w' w'')
  (it : Value) (hl : Ro w l it) : Calls Tryz.prog 136 #[it, .func (.func 145) #[] #[.pointer (some ⟨bx, 0, none⟩)]] w fun e w' => e = .returned (.bool (l.any p)) ∧ Gr w w' := by
 have HC := Lib.hid (idxA14_c p bx l w hc it hl)
 obtain ⟨al, cl, rfl, -, -⟩ := id hl
 clear hc hl
 go_enter Tryz.func136, Tryz.ntmps136
 go_wp2_with fail
 refine HC.out.mono ?_
 rintro e w1 ⟨k, rfl, hk, g⟩
 have HK := Lib.hid hk
 clear hk
 go_wp2_with fail
 go_ret
 exact ⟨retBv HK.out, g⟩
set_option maxHeartbeats 800000 in
theorem holdA_c (a x : V) (bx : Nat) (w : World) (it nm it' nm' : Value) (hx : R w x it nm) (ha : R w a it' nm') (hc : CellsAtv w bx 0 (hdc a.h it' nm')) :
  Calls Tryz.prog 145 #[avv x.h it nm, .pointer (some ⟨bx, 0, none⟩)] w fun e w' => e = .returned (.bool (!holdsB a x)) ∧ Gr w w' := by
 obtain ⟨ai, ci, an, cn, rfl, rfl⟩ := r_slices hx
 obtain ⟨ai', ci', an', cn', rfl, rfl⟩ := r_slices ha
 have HC := Lib.hid fun W (h : Low w W) => holds_c a x W _ _ _ _ (ha.low h) (hx.low h)
 generalize holdsB a x = r at HC ⊢
 have HE := Lib.hid (Gr.alloc (Gr.refl w) _ : Gr w (w.alloc (.cells #[.int .i64 x.h.k, .bool x.h.b, .int .i64 x.h.n, .string x.h.s, .string x.h.t, .string x.h.i, .slice ai x.l.length ci, .slice an x.ns.length cn] 27)))
 obtain ⟨e0, e1, e2, e3, e4, e5, e6, e7⟩ := cells8a hc
 simp only [Nat.zero_add] at e1 e2 e3 e4 e5 e6 e7
 clear ha hx hc
 unfold avv at *
 go_enter Tryz.func145, Tryz.ntmps145
 go_wp2_with fail
 refine (HC.out _ HE.out.low).mono ?_
 rintro e w1 ⟨rfl, g⟩
 go_wp2_with fail
 go_ret
 exact ⟨rfl, HE.out.trans g⟩
set_option maxHeartbeats 1600000 in
theorem idxY14_c (p : V → Bool) (bx : Nat) (l : List V) (w : World) (hc : ∀ x ∈ l, ∀ w', Gr w w' → ∀ it nm, R w' x it nm → Calls Tryz.prog 146 #[avv x.h it nm, .pointer (some ⟨bx, 0, none⟩)] w' fun e w'' => e = .returned (.bool (p x)) ∧ Gr w' w'')
  (it : Value) (hl : Ro w l it) : Calls Tryz.prog 174 #[it, .func (.func 146) #[] #[.pointer (some ⟨bx, 0, none⟩)]] w (IdxPv p l w) := by
 obtain ⟨al, cl, rfl, ⟨zl, zl'⟩, -⟩ := id hl
 have HL := Lib.hid hl
 have HI := Lib.hid hc
 clear hl hc
 go_enter Tryz.func174, Tryz.ntmps174
 go_wp2_with fail
 go_loopg [8] l.length (fun gk vi wr => ∃ i : Nat, vi = .int .i64 (i : Int) ∧ i ≤ l.length ∧ l.length - i ≤ gk ∧ Hid (Gr w wr) ∧ Hid (l.any p = (l.drop i).any p))
 case atStart => exact ⟨0, rfl, Nat.zero_le _, Nat.le_refl _, Lib.hid (Gr.refl _), rfl⟩
 case round =>
  obtain ⟨i, rfl, hi, hg, G, K⟩ := hrel
  by_cases hlt : i < l.length
  ·have z1 : (i : Int) < (l.length : Int) := by omega
   obtain ⟨b, o, ai, ci, an, cn, rfl, hcs, hrx⟩ := ro_at (HL.out.low G.out.low) hlt
   obtain ⟨e0, e1, e2, e3, e4, e5, e6, e7⟩ := cells8 hcs
   have hcon := HI.out l[i] (List.getElem_mem hlt) wr G.out _ _ hrx
   have hst : l.any p = (p l[i] || (l.drop (i + 1)).any p) := by rw [K.out, drop_consv hlt, List.any_cons]
   generalize p l[i] = c at hcon hst
   have HC := Lib.hid hcon
   have HS := Lib.hid hst
   clear hcon hst hcs hrx
   go_wp2_with fail
   refine HC.out.mono ?_
   rintro e w1 ⟨rfl, g⟩
   cases c with
   | true =>
    have HQ := Lib.hid (show decide ((0 : Int) ≤ (i : Int)) = l.any p by rw [HS.out]; simp)
    go_wp2_with fail
    go_ret
    exact ⟨_, rfl, HQ.out, G.out.trans g⟩
   | false =>
    have HS' : Hid (l.any p = (l.drop (i + 1)).any p) := by show _ = _; rw [HS.out]; rfl
    go_wp2_with fail
    go_roundg (l.length - (i + 1))
    case measure => omega
    case rel => exact ⟨i + 1, by go_num, by omega, by omega, Lib.hid (G.out.trans g), HS'⟩
  ·have z1 : ¬ (i : Int) < (l.length : Int) := by omega
   have HQ := Lib.hid (show decide ((0 : Int) ≤ -1) = l.any p by rw [K.out, List.drop_eq_nil_of_le (show l.length ≤ i by omega)]; rfl)
   go_wp2_with fail
   go_ret
   exact ⟨_, rfl, HQ.out, G.out⟩
set_option maxHeartbeats 1600000 in
theorem conY14_c (p : V → Bool) (bx : Nat) (l : List V) (w : World) (hc : ∀ x ∈ l, ∀ w', Gr w w' → ∀ it nm, R w' x it nm → Calls Tryz.prog 146 #[avv x.h it nm, .pointer (some ⟨bx, 0, none⟩)] w' fun e w'' => e = .returned (.bool (p x)) ∧ Gr w' w'')
  (it : Value) (hl : Ro w l it) : Calls Tryz.prog 136 #[it, .func (.func 146) #[] #[.pointer (some ⟨bx, 0, none⟩)]] w fun e w' => e = .returned (.bool (l.any p)) ∧ Gr w w' := by
 have HC := Lib.hid (idxY14_c p bx l w hc it hl)
 obtain ⟨al, cl, rfl, -, -⟩ := id hl
 clear hc hl
 go_enter Tryz.func136, Tryz.ntmps136
 go_wp2_with fail
 refine HC.out.mono ?_
 rintro e w1 ⟨k, rfl, hk, g⟩
 have HK := Lib.hid hk
 clear hk
 go_wp2_with fail
 go_ret
 exact ⟨retBv HK.out, g⟩
set_option maxHeartbeats 800000 in
theorem holdY_c (a x : V) (bx : Nat) (w : World) (it nm it' nm' : Value) (hx : R w x it nm) (ha : R w a it' nm') (hc : CellsAtv w bx 0 (hdc a.h it' nm')) :
  Calls Tryz.prog 146 #[avv x.h it nm, .pointer (some ⟨bx, 0, none⟩)] w fun e w' => e = .returned (.bool (holdsB a x)) ∧ Gr w w' := by
 obtain ⟨ai, ci, an, cn, rfl, rfl⟩ := r_slices hx
 obtain ⟨ai', ci', an', cn', rfl, rfl⟩ := r_slices ha
 have HC := Lib.hid fun W (h : Low w W) => holds_c a x W _ _ _ _ (ha.low h) (hx.low h)
 generalize holdsB a x = r at HC ⊢
 have HE := Lib.hid (Gr.alloc (Gr.refl w) _ : Gr w (w.alloc (.cells #[.int .i64 x.h.k, .bool x.h.b, .int .i64 x.h.n, .string x.h.s, .string x.h.t, .string x.h.i, .slice ai x.l.length ci, .slice an x.ns.length cn] 27)))
 obtain ⟨e0, e1, e2, e3, e4, e5, e6, e7⟩ := cells8a hc
 simp only [Nat.zero_add] at e1 e2 e3 e4 e5 e6 e7
 clear ha hx hc
 unfold avv at *
 go_enter Tryz.func146, Tryz.ntmps146
 go_wp2_with fail
 refine (HC.out _ HE.out.low).mono ?_
 rintro e w1 ⟨rfl, g⟩
 go_wp2_with fail
 go_ret
 exact ⟨rfl, HE.out.trans g⟩
set_option maxRecDepth 100000 in
set_option maxHeartbeats 4000000 in
theorem contains_c (v u : V) (w : World) (ai : Option Addr) (ci : Nat) (an : Option Addr) (cn : Nat) (bi : Option Addr) (di : Nat) (bn : Option Addr) (dn : Nat) (hv : R w v (.slice ai v.l.length ci) (.slice an v.ns.length cn)) (hu : R w u (.slice bi u.l.length di) (.slice bn u.ns.length dn)) : Calls Tryz.prog 105 #[av8 v.h ai v.l.length ci an v.ns.length cn, av8 u.h bi u.l.length di bn u.ns.length dn] w (VR none (fun _ => False) (if v.h.k = 5 then (0, truV (holdsB v u)) else (30, V0)) w) := by
 by_cases hk : v.h.k = 5
 ·rw [if_pos hk]
  have HC := Lib.hid fun W (h : Low w W) => holds_c v u W _ _ _ _ (hv.low h) (hu.low h)
  generalize holdsB v u = q at HC ⊢
  have HT := Lib.hid (fun W => truth_c q W)
  have HK := Lib.hid hk
  unfold avv at HC
  clear hk hv hu
  obtain ⟨U, HU, LU, ZU, BV, BU, BR⟩ := boxes3 w [.int .i64 v.h.k, .bool v.h.b, .int .i64 v.h.n, .string v.h.s, .string v.h.t, .string v.h.i, .slice ai v.l.length ci, .slice an v.ns.length cn] 27 [.int .i64 u.h.k, .bool u.h.b, .int .i64 u.h.n, .string u.h.s, .string u.h.t, .string u.h.i, .slice bi u.l.length di, .slice bn u.ns.length dn] 27 [.int .i64 0, .bool false, .int .i64 0, .string ⟨#[]⟩, .string ⟨#[]⟩, .string ⟨#[]⟩, .slice none 0 0, .slice none 0 0] 27
  go_enter Tryz.func105, Tryz.ntmps105
  go_upto_region 1 with fail
  rw [← HU.out]
  clear HU
  obtain ⟨v0, v1, v2, v3, v4, v5, v6, v7⟩ := BV.out.at8
  obtain ⟨u0, u1, u2, u3, u4, u5, u6, u7⟩ := BU.out.at8
  rw [HK.out] at v0
  rw [HK.out] at HC
  go_wp2_with fail
  refine (HC.out _ LU.out).mono ?_
  rintro e w1 ⟨rfl, g⟩
  have HG := Lib.hid g.low
  clear g HC v0 v1 v2 v3 v4 v5 v6 v7 u0 u1 u2 u3 u4 u5 u6 u7
  go_wp2_with fail
  refine (HT.out _).mono ?_
  rintro e w2 ⟨rfl, g⟩
  have HG2 := Lib.hid (HG.out.trans g.low)
  clear g HT
  obtain ⟨z0, z1, z2, z3, z4, z5, z6, z7⟩ := (BR.out.low HG2.out).at8
  obtain ⟨f0, f1, f2, f3, f4, f5, f6, f7⟩ := (BR.out.low HG2.out).op8
  go_wp2_with fail
  refine bodyPost_ret (v := .tuple #[trV q, .int .i64 0]) (by simp [results, Tryz.results105, go_sem, World.cell?_setCell_same', z0, z1, z2, z3, z4, z5, z6, z7]; try rfl) rfl ?_
  exact vr_tru ((Go.ofN (LU.out.trans HG2.out)).k (kept8 _ _ _ _ _ _ _ _ _ _) (by omega))
 ·rw [if_neg hk]
  have hk2 : (v.h.k == 5) = false := by simpa using hk
  have hk4 : (v.h.k != 5) = true := by simpa using hk
  clear hk hv hu
  obtain ⟨U, HU, LU, ZU, BV, BU, BR⟩ := boxes3 w [.int .i64 v.h.k, .bool v.h.b, .int .i64 v.h.n, .string v.h.s, .string v.h.t, .string v.h.i, .slice ai v.l.length ci, .slice an v.ns.length cn] 27 [.int .i64 u.h.k, .bool u.h.b, .int .i64 u.h.n, .string u.h.s, .string u.h.t, .string u.h.i, .slice bi u.l.length di, .slice bn u.ns.length dn] 27 [.int .i64 0, .bool false, .int .i64 0, .string ⟨#[]⟩, .string ⟨#[]⟩, .string ⟨#[]⟩, .slice none 0 0, .slice none 0 0] 27
  go_enter Tryz.func105, Tryz.ntmps105
  go_upto_region 1 with fail
  rw [← HU.out]
  clear HU
  obtain ⟨v0, v1, v2, v3, v4, v5, v6, v7⟩ := BV.out.at8
  obtain ⟨z0, z1, z2, z3, z4, z5, z6, z7⟩ := BR.out.at8
  obtain ⟨f0, f1, f2, f3, f4, f5, f6, f7⟩ := BR.out.op8
  go_wp2_with fail
  refine bodyPost_ret (v := .tuple #[zeV, .int .i64 30]) (by simp [results, Tryz.results105, go_sem, World.cell?_setCell_same', z0, z1, z2, z3, z4, z5, z6, z7]; try rfl) rfl ?_
  exact vr_err ((Go.ofN LU.out).k (kept8 _ _ _ _ _ _ _ _ _ _) (by omega))
end Go.Proofs.YtnchohglplobeaaGreat
namespace Go.Proofs.YtnchohglplobeaaGreat
open Go.RowKit Go.Sort Go.Maps
set_option maxRecDepth 100000 in
set_option maxHeartbeats 4000000 in
theorem containsAll_c (v u : V) (w : World) (ai : Option Addr) (ci : Nat) (an : Option Addr) (cn : Nat) (bi : Option Addr) (di : Nat) (bn : Option Addr) (dn : Nat) (hv : R w v (.slice ai v.l.length ci) (.slice an v.ns.length cn)) (hu : R w u (.slice bi u.l.length di) (.slice bn u.ns.length dn)) : Calls Tryz.prog 106 #[av8 v.h ai v.l.length ci an v.ns.length cn, av8 u.h bi u.l.length di bn u.ns.length dn] w (VR none (fun _ => False) (if v.h.k = 5 ∧ u.h.k = 5 then (0, truV (!(u.l.any fun x => !holdsB v x))) else (30, V0)) w) := by
 by_cases hk : v.h.k = 5
 ·by_cases hk2 : u.h.k = 5
  ·rw [if_pos ⟨hk, hk2⟩]
   have HC := Lib.hid fun W (h : Low w W) (bx : Nat) (hb : CellsAtv W bx 0 (hdc v.h (.slice ai v.l.length ci) (.slice an v.ns.length cn))) => conA14_c (fun x => !holdsB v x) bx u.l W (fun x _ w' g it nm hr => holdA_c v x bx w' it nm _ _ hr (hv.low (h.trans g.low)) (g.low.cells hb)) (.slice bi u.l.length di) (((rep_v.1 hu).2.2 : Ro w u.l _).low h)
   generalize (u.l.any fun x => !holdsB v x) = q at HC ⊢
   have HT := Lib.hid (fun W => truth_c (!q) W)
   have HK := Lib.hid hk
   have HK2 := Lib.hid hk2
   clear hk hk2 hv hu
   obtain ⟨U, HU, LU, ZU, BV, BU, BR⟩ := boxes3 w [.int .i64 v.h.k, .bool v.h.b, .int .i64 v.h.n, .string v.h.s, .string v.h.t, .string v.h.i, .slice ai v.l.length ci, .slice an v.ns.length cn] 27 [.int .i64 u.h.k, .bool u.h.b, .int .i64 u.h.n, .string u.h.s, .string u.h.t, .string u.h.i, .slice bi u.l.length di, .slice bn u.ns.length dn] 27 [.int .i64 0, .bool false, .int .i64 0, .string ⟨#[]⟩, .string ⟨#[]⟩, .string ⟨#[]⟩, .slice none 0 0, .slice none 0 0] 27
   go_enter Tryz.func106, Tryz.ntmps106
   go_upto_region 1 with fail
   rw [← HU.out]
   clear HU
   obtain ⟨v0, v1, v2, v3, v4, v5, v6, v7⟩ := BV.out.at8
   obtain ⟨u0, u1, u2, u3, u4, u5, u6, u7⟩ := BU.out.at8
   have HCC := Lib.hid (HC.out U LU.out w.heap.size BV.out.cells)
   rw [HK.out] at v0
   rw [HK2.out] at u0
   clear HC
   go_wp2_with fail
   refine HCC.out.mono ?_
   rintro e w1 ⟨rfl, g⟩
   have HG := Lib.hid g.low
   clear g HCC v0 v1 v2 v3 v4 v5 v6 v7 u0 u1 u2 u3 u4 u5 u6 u7
   go_wp2_with fail
   refine (HT.out _).mono ?_
   rintro e w2 ⟨rfl, g⟩
   have HG2 := Lib.hid (HG.out.trans g.low)
   clear g HT
   obtain ⟨z0, z1, z2, z3, z4, z5, z6, z7⟩ := (BR.out.low HG2.out).at8
   obtain ⟨f0, f1, f2, f3, f4, f5, f6, f7⟩ := (BR.out.low HG2.out).op8
   go_wp2_with fail
   refine bodyPost_ret (v := .tuple #[trV (!q), .int .i64 0]) (by simp [results, Tryz.results106, go_sem, World.cell?_setCell_same', z0, z1, z2, z3, z4, z5, z6, z7]; try rfl) rfl ?_
   exact vr_tru ((Go.ofN (LU.out.trans HG2.out)).k (kept8 _ _ _ _ _ _ _ _ _ _) (by omega))
  ·rw [if_neg (fun h => hk2 h.2)]
   have hk3 : (u.h.k == 5) = false := by simpa using hk2
   have hk4 : (u.h.k != 5) = true := by simpa using hk2
   have HK := Lib.hid hk
   clear hk hv hu
   obtain ⟨U, HU, LU, ZU, BV, BU, BR⟩ := boxes3 w [.int .i64 v.h.k, .bool v.h.b, .int .i64 v.h.n, .string v.h.s, .string v.h.t, .string v.h.i, .slice ai v.l.length ci, .slice an v.ns.length cn] 27 [.int .i64 u.h.k, .bool u.h.b, .int .i64 u.h.n, .string u.h.s, .string u.h.t, .string u.h.i, .slice bi u.l.length di, .slice bn u.ns.length dn] 27 [.int .i64 0, .bool false, .int .i64 0, .string ⟨#[]⟩, .string ⟨#[]⟩, .string ⟨#[]⟩, .slice none 0 0, .slice none 0 0] 27
   go_enter Tryz.func106, Tryz.ntmps106
   go_upto_region 1 with fail
   rw [← HU.out]
   clear HU
   obtain ⟨v0, v1, v2, v3, v4, v5, v6, v7⟩ := BV.out.at8
   obtain ⟨u0, u1, u2, u3, u4, u5, u6, u7⟩ := BU.out.at8
   rw [HK.out] at v0
   obtain ⟨z0, z1, z2, z3, z4, z5, z6, z7⟩ := BR.out.at8
   obtain ⟨f0, f1, f2, f3, f4, f5, f6, f7⟩ := BR.out.op8
   go_wp2_with fail
   refine bodyPost_ret (v := .tuple #[zeV, .int .i64 30]) (by simp [results, Tryz.results106, go_sem, World.cell?_setCell_same', z0, z1, z2, z3, z4, z5, z6, z7]; try rfl) rfl ?_
   exact vr_err ((Go.ofN LU.out).k (kept8 _ _ _ _ _ _ _ _ _ _) (by omega))
 ·rw [if_neg (fun h => hk h.1)]
  have hk2 : (v.h.k == 5) = false := by simpa using hk
  have hk4 : (v.h.k != 5) = true := by simpa using hk
  clear hk hv hu
  obtain ⟨U, HU, LU, ZU, BV, BU, BR⟩ := boxes3 w [.int .i64 v.h.k, .bool v.h.b, .int .i64 v.h.n, .string v.h.s, .string v.h.t, .string v.h.i, .slice ai v.l.length ci, .slice an v.ns.length cn] 27 [.int .i64 u.h.k, .bool u.h.b, .int .i64 u.h.n, .string u.h.s, .string u.h.t, .string u.h.i, .slice bi u.l.length di, .slice bn u.ns.length dn] 27 [.int .i64 0, .bool false, .int .i64 0, .string ⟨#[]⟩, .string ⟨#[]⟩, .string ⟨#[]⟩, .slice none 0 0, .slice none 0 0] 27
  go_enter Tryz.func106, Tryz.ntmps106
  go_upto_region 1 with fail
  rw [← HU.out]
  clear HU
  obtain ⟨v0, v1, v2, v3, v4, v5, v6, v7⟩ := BV.out.at8
  obtain ⟨z0, z1, z2, z3, z4, z5, z6, z7⟩ := BR.out.at8
  obtain ⟨f0, f1, f2, f3, f4, f5, f6, f7⟩ := BR.out.op8
  go_wp2_with fail
  refine bodyPost_ret (v := .tuple #[zeV, .int .i64 30]) (by simp [results, Tryz.results106, go_sem, World.cell?_setCell_same', z0, z1, z2, z3, z4, z5, z6, z7]; try rfl) rfl ?_
  exact vr_err ((Go.ofN LU.out).k (kept8 _ _ _ _ _ _ _ _ _ _) (by omega))
set_option maxRecDepth 100000 in
set_option maxHeartbeats 4000000 in
theorem containsAny_c (v u : V) (w : World) (ai : Option Addr) (ci : Nat) (an : Option Addr) (cn : Nat) (bi : Option Addr) (di : Nat) (bn : Option Addr) (dn : Nat) (hv : R w v (.slice ai v.l.length ci) (.slice an v.ns.length cn)) (hu : R w u (.slice bi u.l.length di) (.slice bn u.ns.length dn)) : Calls Tryz.prog 107 #[av8 v.h ai v.l.length ci an v.ns.length cn, av8 u.h bi u.l.length di bn u.ns.length dn] w (VR none (fun _ => False) (if v.h.k = 5 ∧ u.h.k = 5 then (0, truV (u.l.any fun x => holdsB v x)) else (30, V0)) w) := by
 by_cases hk : v.h.k = 5
 ·by_cases hk2 : u.h.k = 5
  ·rw [if_pos ⟨hk, hk2⟩]
   have HC := Lib.hid fun W (h : Low w W) (bx : Nat) (hb : CellsAtv W bx 0 (hdc v.h (.slice ai v.l.length ci) (.slice an v.ns.length cn))) => conY14_c (fun x => holdsB v x) bx u.l W (fun x _ w' g it nm hr => holdY_c v x bx w' it nm _ _ hr (hv.low (h.trans g.low)) (g.low.cells hb)) (.slice bi u.l.length di) (((rep_v.1 hu).2.2 : Ro w u.l _).low h)
   generalize (u.l.any fun x => holdsB v x) = q at HC ⊢
   have HT := Lib.hid (fun W => truth_c q W)
   have HK := Lib.hid hk
   have HK2 := Lib.hid hk2
   clear hk hk2 hv hu
   obtain ⟨U, HU, LU, ZU, BV, BU, BR⟩ := boxes3 w [.int .i64 v.h.k, .bool v.h.b, .int .i64 v.h.n, .string v.h.s, .string v.h.t, .string v.h.i, .slice ai v.l.length ci, .slice an v.ns.length cn] 27 [.int .i64 u.h.k, .bool u.h.b, .int .i64 u.h.n, .string u.h.s, .string u.h.t, .string u.h.i, .slice bi u.l.length di, .slice bn u.ns.length dn] 27 [.int .i64 0, .bool false, .int .i64 0, .string ⟨#[]⟩, .string ⟨#[]⟩, .string ⟨#[]⟩, .slice none 0 0, .slice none 0 0] 27
   go_enter Tryz.func107, Tryz.ntmps107
   go_upto_region 1 with fail
   rw [← HU.out]
   clear HU
   obtain ⟨v0, v1, v2, v3, v4, v5, v6, v7⟩ := BV.out.at8
   obtain ⟨u0, u1, u2, u3, u4, u5, u6, u7⟩ := BU.out.at8
   have HCC := Lib.hid (HC.out U LU.out w.heap.size BV.out.cells)
   rw [HK.out] at v0
   rw [HK2.out] at u0
   clear HC
   go_wp2_with fail
   refine HCC.out.mono ?_
   rintro e w1 ⟨rfl, g⟩
   have HG := Lib.hid g.low
   clear g HCC v0 v1 v2 v3 v4 v5 v6 v7 u0 u1 u2 u3 u4 u5 u6 u7
   go_wp2_with fail
   refine (HT.out _).mono ?_
   rintro e w2 ⟨rfl, g⟩
   have HG2 := Lib.hid (HG.out.trans g.low)
   clear g HT
   obtain ⟨z0, z1, z2, z3, z4, z5, z6, z7⟩ := (BR.out.low HG2.out).at8
   obtain ⟨f0, f1, f2, f3, f4, f5, f6, f7⟩ := (BR.out.low HG2.out).op8
   go_wp2_with fail
   refine bodyPost_ret (v := .tuple #[trV q, .int .i64 0]) (by simp [results, Tryz.results107, go_sem, World.cell?_setCell_same', z0, z1, z2, z3, z4, z5, z6, z7]; try rfl) rfl ?_
   exact vr_tru ((Go.ofN (LU.out.trans HG2.out)).k (kept8 _ _ _ _ _ _ _ _ _ _) (by omega))
  ·rw [if_neg (fun h => hk2 h.2)]
   have hk3 : (u.h.k == 5) = false := by simpa using hk2
   have hk4 : (u.h.k != 5) = true := by simpa using hk2
   have HK := Lib.hid hk
   clear hk hv hu
   obtain ⟨U, HU, LU, ZU, BV, BU, BR⟩ := boxes3 w [.int .i64 v.h.k, .bool v.h.b, .int .i64 v.h.n, .string v.h.s, .string v.h.t, .string v.h.i, .slice ai v.l.length ci, .slice an v.ns.length cn] 27 [.int .i64 u.h.k, .bool u.h.b, .int .i64 u.h.n, .string u.h.s, .string u.h.t, .string u.h.i, .slice bi u.l.length di, .slice bn u.ns.length dn] 27 [.int .i64 0, .bool false, .int .i64 0, .string ⟨#[]⟩, .string ⟨#[]⟩, .string ⟨#[]⟩, .slice none 0 0, .slice none 0 0] 27
   go_enter Tryz.func107, Tryz.ntmps107
   go_upto_region 1 with fail
   rw [← HU.out]
   clear HU
   obtain ⟨v0, v1, v2, v3, v4, v5, v6, v7⟩ := BV.out.at8
   obtain ⟨u0, u1, u2, u3, u4, u5, u6, u7⟩ := BU.out.at8
   rw [HK.out] at v0
   obtain ⟨z0, z1, z2, z3, z4, z5, z6, z7⟩ := BR.out.at8
   obtain ⟨f0, f1, f2, f3, f4, f5, f6, f7⟩ := BR.out.op8
   go_wp2_with fail
   refine bodyPost_ret (v := .tuple #[zeV, .int .i64 30]) (by simp [results, Tryz.results107, go_sem, World.cell?_setCell_same', z0, z1, z2, z3, z4, z5, z6, z7]; try rfl) rfl ?_
   exact vr_err ((Go.ofN LU.out).k (kept8 _ _ _ _ _ _ _ _ _ _) (by omega))
 ·rw [if_neg (fun h => hk h.1)]
  have hk2 : (v.h.k == 5) = false := by simpa using hk
  have hk4 : (v.h.k != 5) = true := by simpa using hk
  clear hk hv hu
  obtain ⟨U, HU, LU, ZU, BV, BU, BR⟩ := boxes3 w [.int .i64 v.h.k, .bool v.h.b, .int .i64 v.h.n, .string v.h.s, .string v.h.t, .string v.h.i, .slice ai v.l.length ci, .slice an v.ns.length cn] 27 [.int .i64 u.h.k, .bool u.h.b, .int .i64 u.h.n, .string u.h.s, .string u.h.t, .string u.h.i, .slice bi u.l.length di, .slice bn u.ns.length dn] 27 [.int .i64 0, .bool false, .int .i64 0, .string ⟨#[]⟩, .string ⟨#[]⟩, .string ⟨#[]⟩, .slice none 0 0, .slice none 0 0] 27
  go_enter Tryz.func107, Tryz.ntmps107
  go_upto_region 1 with fail
  rw [← HU.out]
  clear HU
  obtain ⟨v0, v1, v2, v3, v4, v5, v6, v7⟩ := BV.out.at8
  obtain ⟨z0, z1, z2, z3, z4, z5, z6, z7⟩ := BR.out.at8
  obtain ⟨f0, f1, f2, f3, f4, f5, f6, f7⟩ := BR.out.op8
  go_wp2_with fail
  refine bodyPost_ret (v := .tuple #[zeV, .int .i64 30]) (by simp [results, Tryz.results107, go_sem, World.cell?_setCell_same', z0, z1, z2, z3, z4, z5, z6, z7]; try rfl) rfl ?_
  exact vr_err ((Go.ofN LU.out).k (kept8 _ _ _ _ _ _ _ _ _ _) (by omega))
end Go.Proofs.YtnchohglplobeaaGreat
namespace Go.Proofs.YtnchohglplobeaaGreat
open Go.RowKit Go.Sort Go.Maps
theorem Low.cellsv9 {w w' : World} (h : Low w w') {b o : Nat} {cs : List Value} (hc : CellsAtv w b o cs) : CellsAtv w' b o cs := fun j v hv => h.keep (hc j v hv)
theorem VR.upd {X : Sx} {A : Nat → Prop} {p : Int × V} {w w' : World} {e : Ending} (h : VR none (fun _ => False) p w e w') (hX : X.at w) : VR X A p w e w' := VR.down (VR.up h hX)
theorem vr_canU {X : Sx} {A : Nat → Prop} {v : V} {w : World} {it nm : Value} (hr : R w v it nm) (hs : Smv v) (hX : X.at w) : Calls Tryz.prog 65 #[avv v.h it nm] w (VR X A (canD v) w) := by
 have h := vr_can hr hs
 obtain ⟨p, hp⟩ : ∃ p, p = canD v := ⟨_, rfl⟩
 rw [← hp] at h ⊢
 exact Calls.mono h fun _ _ q => VR.upd q hX
end Go.Proofs.YtnchohglplobeaaGreat
namespace Go.Proofs.YtnchohglplobeaaGreat
open Go.RowKit Go.Sort Go.Maps
theorem golow_at {X : Sx} {W0 w W : World} (g : Go X W0 w) (h : Low w W ∨ Go X w W) : X.at W := by
 rcases h with h | h
 ·exact Sx.low g.at1 h
 ·exact h.at1
theorem R.golow {X : Sx} {w W : World} {v : V} {it nm : Value} (hr : R w v it nm) (h : Low w W ∨ Go X w W) : R W v it nm := by
 rcases h with h | h
 ·exact Rep.low hr h
 ·exact h.r hr
set_option maxRecDepth 100000 in
set_option maxHeartbeats 4000000 in
theorem ck1 {K : Rk} {W0 : World} (e : E) (ai : Option Addr) (ci : Nat) (an : Option Addr) (cn : Nat) (ak : Option Addr) (ck : Nat) (am : Option Addr) (cm : Nat) (w : World) (g : Go K.X W0 w) (hf : formB e = true) (hop : e.op = 1) (hr : R w e.v (.slice ai e.v.l.length ci) (.slice an e.v.ns.length cn)) (hs : Smv e.v) : Calls Tryz.prog 33 #[K.v, ex12 e ai ci an cn ak ck am cm] w (VR K.X (fun b => b < 0) (canD e.v) w) := by
 have HG0 := Lib.hid g
 have HA := Lib.hid (hA0 g)
 have HCNT := Lib.hid (show ∀ W, Calls Tryz.prog 64 #[ex12 e ai ci an cn ak ck am cm] W (fun r w' => r = .returned (.bool true) ∧ Low W w') from fun W => by have h := count_c e W ai ci an cn ak ck am cm; rwa [hf] at h)
 have HOP := Lib.hid hop
 have HC := Lib.hid fun W (h : Low w W ∨ Go K.X w W) => vr_canU (X := K.X) (A := fun _ => False) (hr.golow h) hs (golow_at g h)
 obtain ⟨p, hp⟩ : ∃ p : Int × V, p = canD e.v := ⟨_, rfl⟩
 rw [← hp] at HC ⊢
 unfold avv VR at HC
 clear hf g hop hr hs hp
 obtain ⟨U, HU, LU, ZU, BK, BE, BR⟩ := boxes3 w [.string K.pu.t, .string K.pu.i, .string K.au.t, .string K.au.i, .string K.ru.t, .string K.ru.i, .int .i64 K.c.h.k, .bool K.c.h.b, .int .i64 K.c.h.n, .string K.c.h.s, .string K.c.h.t, .string K.c.h.i, .slice K.ai K.c.l.length K.ci, .slice K.an K.c.ns.length K.cn, .pointer K.xp, .map (some K.mb)] 80 [.int .i64 e.op, .int .i64 e.v.h.k, .bool e.v.h.b, .int .i64 e.v.h.n, .string e.v.h.s, .string e.v.h.t, .string e.v.h.i, .slice ai e.v.l.length ci, .slice an e.v.ns.length cn, .string e.nm, .slice ak e.ks.length ck, .slice am e.ns.length cm] 30 [.int .i64 0, .bool false, .int .i64 0, .string ⟨#[]⟩, .string ⟨#[]⟩, .string ⟨#[]⟩, .slice none 0 0, .slice none 0 0] 27
 go_enter Tryz.func33, Tryz.ntmps33
 go_upto_region 1 with fail
 rw [← HU.out]
 clear HU
 have HGU := Lib.hid (Go.of HG0.out.at1 LU.out)
 obtain ⟨e0, e1, e2, e3, e4, e5, e6, e7, e8, e9, e10, e11⟩ := BE.out.at12
 go_wp2_with (first | (go_at_call 64; refine (HCNT.out _).mono ?_; rintro e w1 ⟨rfl, l1⟩; have G1 := Lib.hid (Go.of HGU.out.at1 l1); clear l1 HCNT e0 e1 e2 e3 e4 e5 e6 e7 e8 e9 e10 e11; obtain ⟨e0, e1, e2, e3, e4, e5, e6, e7, e8, e9, e10, e11⟩ := (G1.out.box BE.out (by simp)).at12; (try rw [HOP.out] at e0)) | (go_at_call 65; refine (HC.out _ (.inr (HGU.out.trans G1.out))).mono ?_; rintro e w2 ⟨bi, di, bn, dn, rfl, hrx, g2⟩; have G2 := Lib.hid (G1.out.trans g2); have HRX := Lib.hid hrx; have HZ := Lib.hid G1.out.size; clear g2 hrx HC e0 e1 e2 e3 e4 e5 e6 e7 e8 e9 e10 e11; obtain ⟨z0, z1, z2, z3, z4, z5, z6, z7⟩ := (G2.out.box BR.out (by simp)).at8; obtain ⟨f0, f1, f2, f3, f4, f5, f6, f7⟩ := (G2.out.box BR.out (by simp)).op8))
 refine bodyPost_ret (v := .tuple #[av8 p.2.h bi p.2.l.length di bn p.2.ns.length dn, .int .i64 p.1]) (by simp [results, Tryz.results33, go_sem, World.cell?_setCell_same', z0, z1, z2, z3, z4, z5, z6, z7]; try rfl) rfl ?_
 exact vr_put (k := w.heap.size + 2) (A := (fun b => b < 0)) (U := U) (HRX.out.mono fun b hb => hb.elim False.elim fun h => .inr (Nat.le_trans HZ.out h)) (HGU.out.trans G2.out) LU.out.size ⟨by omega, by rw [ZU.out]; omega⟩ HA.out
end Go.Proofs.YtnchohglplobeaaGreat
namespace Go.Proofs.YtnchohglplobeaaGreat
open Go.RowKit Go.Sort Go.Maps
set_option maxRecDepth 100000 in
set_option maxHeartbeats 4000000 in
theorem ck2 {K : Rk} {W0 : World} (e : E) (ai : Option Addr) (ci : Nat) (an : Option Addr) (cn : Nat) (ak : Option Addr) (ck : Nat) (am : Option Addr) (cm : Nat) (w : World) (g : Go K.X W0 w) (cx : Cx K W0) (hf : formB e = true) (hop : e.op = 2) : Calls Tryz.prog 33 #[K.v, ex12 e ai ci an cn ak ck am cm] w (VR K.X (fun b => b < 0) (varS K.q e.nm) w) := by
 have HG0 := Lib.hid g
 have HA := Lib.hid (hA0 g)
 have HCNT := Lib.hid (show ∀ W, Calls Tryz.prog 64 #[ex12 e ai ci an cn ak ck am cm] W (fun r w' => r = .returned (.bool true) ∧ Low W w') from fun W => by have h := count_c e W ai ci an cn ak ck am cm; rwa [hf] at h)
 have HOP := Lib.hid hop
 have HC := Lib.hid fun W (h : Go K.X W0 W) => variable_c K e.nm W (cx.ctx.lo h.lo) cx.ok.c.1 h.at1
 obtain ⟨p, hp⟩ : ∃ p : Int × V, p = varS K.q e.nm := ⟨_, rfl⟩
 rw [← hp] at HC ⊢
 unfold VR at HC
 clear hf g hop hp cx
 obtain ⟨U, HU, LU, ZU, BK, BE, BR⟩ := boxes3 w [.string K.pu.t, .string K.pu.i, .string K.au.t, .string K.au.i, .string K.ru.t, .string K.ru.i, .int .i64 K.c.h.k, .bool K.c.h.b, .int .i64 K.c.h.n, .string K.c.h.s, .string K.c.h.t, .string K.c.h.i, .slice K.ai K.c.l.length K.ci, .slice K.an K.c.ns.length K.cn, .pointer K.xp, .map (some K.mb)] 80 [.int .i64 e.op, .int .i64 e.v.h.k, .bool e.v.h.b, .int .i64 e.v.h.n, .string e.v.h.s, .string e.v.h.t, .string e.v.h.i, .slice ai e.v.l.length ci, .slice an e.v.ns.length cn, .string e.nm, .slice ak e.ks.length ck, .slice am e.ns.length cm] 30 [.int .i64 0, .bool false, .int .i64 0, .string ⟨#[]⟩, .string ⟨#[]⟩, .string ⟨#[]⟩, .slice none 0 0, .slice none 0 0] 27
 go_enter Tryz.func33, Tryz.ntmps33
 go_upto_region 1 with fail
 rw [← HU.out]
 clear HU
 have HGU := Lib.hid (Go.of HG0.out.at1 LU.out)
 obtain ⟨e0, e1, e2, e3, e4, e5, e6, e7, e8, e9, e10, e11⟩ := BE.out.at12
 go_wp2_with (first | (go_at_call 64; refine (HCNT.out _).mono ?_; rintro e w1 ⟨rfl, l1⟩; have G1 := Lib.hid (Go.of HGU.out.at1 l1); clear l1 HCNT e0 e1 e2 e3 e4 e5 e6 e7 e8 e9 e10 e11; obtain ⟨k0, k1, k2, k3, k4, k5, k6, k7, k8, k9, k10, k11, k12, k13, k14, k15⟩ := (G1.out.box BK.out (by simp)).at16; obtain ⟨e0, e1, e2, e3, e4, e5, e6, e7, e8, e9, e10, e11⟩ := (G1.out.box BE.out (by simp)).at12; (try rw [HOP.out] at e0)) | (go_at_call 66; refine (HC.out _ (HG0.out.trans (HGU.out.trans G1.out))).mono ?_; rintro e w2 ⟨bi, di, bn, dn, rfl, hrx, g2⟩; have G2 := Lib.hid (G1.out.trans g2); have HRX := Lib.hid hrx; have HZ := Lib.hid G1.out.size; clear g2 hrx HC e0 e1 e2 e3 e4 e5 e6 e7 e8 e9 e10 e11 k0 k1 k2 k3 k4 k5 k6 k7 k8 k9 k10 k11 k12 k13 k14 k15; obtain ⟨z0, z1, z2, z3, z4, z5, z6, z7⟩ := (G2.out.box BR.out (by simp)).at8; obtain ⟨f0, f1, f2, f3, f4, f5, f6, f7⟩ := (G2.out.box BR.out (by simp)).op8))
 refine bodyPost_ret (v := .tuple #[av8 p.2.h bi p.2.l.length di bn p.2.ns.length dn, .int .i64 p.1]) (by simp [results, Tryz.results33, go_sem, World.cell?_setCell_same', z0, z1, z2, z3, z4, z5, z6, z7]; try rfl) rfl ?_
 exact vr_put (k := w.heap.size + 2) (A := (fun b => b < 0)) (U := U) (HRX.out.mono fun b hb => hb.elim False.elim fun h => .inr (Nat.le_trans HZ.out h)) (HGU.out.trans G2.out) LU.out.size ⟨by omega, by rw [ZU.out]; omega⟩ HA.out
end Go.Proofs.YtnchohglplobeaaGreat
namespace Go.Proofs.YtnchohglplobeaaGreat
open Go.RowKit Go.Sort Go.Maps
set_option maxRecDepth 100000 in
set_option maxHeartbeats 4000000 in
theorem ck3 {K : Rk} {W0 : World} (e : E) (ai : Option Addr) (ci : Nat) (an : Option Addr) (cn : Nat) (ak : Option Addr) (ck : Nat) (am : Option Addr) (cm : Nat) (w : World) (g : Go K.X W0 w) (hf : formB e = true) (hop : e.op = 3) : Calls Tryz.prog 33 #[K.v, ex12 e ai ci an cn ak ck am cm] w (VR K.X (fun b => b < 0) ((32, V0)) w) := by
 have HG0 := Lib.hid g
 have HA := Lib.hid (hA0 g)
 have HCNT := Lib.hid (show ∀ W, Calls Tryz.prog 64 #[ex12 e ai ci an cn ak ck am cm] W (fun r w' => r = .returned (.bool true) ∧ Low W w') from fun W => by have h := count_c e W ai ci an cn ak ck am cm; rwa [hf] at h)
 have HOP := Lib.hid hop
 clear hf g hop
 obtain ⟨U, HU, LU, ZU, BK, BE, BR⟩ := boxes3 w [.string K.pu.t, .string K.pu.i, .string K.au.t, .string K.au.i, .string K.ru.t, .string K.ru.i, .int .i64 K.c.h.k, .bool K.c.h.b, .int .i64 K.c.h.n, .string K.c.h.s, .string K.c.h.t, .string K.c.h.i, .slice K.ai K.c.l.length K.ci, .slice K.an K.c.ns.length K.cn, .pointer K.xp, .map (some K.mb)] 80 [.int .i64 e.op, .int .i64 e.v.h.k, .bool e.v.h.b, .int .i64 e.v.h.n, .string e.v.h.s, .string e.v.h.t, .string e.v.h.i, .slice ai e.v.l.length ci, .slice an e.v.ns.length cn, .string e.nm, .slice ak e.ks.length ck, .slice am e.ns.length cm] 30 [.int .i64 0, .bool false, .int .i64 0, .string ⟨#[]⟩, .string ⟨#[]⟩, .string ⟨#[]⟩, .slice none 0 0, .slice none 0 0] 27
 go_enter Tryz.func33, Tryz.ntmps33
 go_upto_region 1 with fail
 rw [← HU.out]
 clear HU
 have HGU := Lib.hid (Go.of HG0.out.at1 LU.out)
 obtain ⟨e0, e1, e2, e3, e4, e5, e6, e7, e8, e9, e10, e11⟩ := BE.out.at12
 go_wp2_with (go_at_call 64; refine (HCNT.out _).mono ?_; rintro e w1 ⟨rfl, l1⟩; have G1 := Lib.hid (Go.of HGU.out.at1 l1); clear l1 HCNT e0 e1 e2 e3 e4 e5 e6 e7 e8 e9 e10 e11; obtain ⟨e0, e1, e2, e3, e4, e5, e6, e7, e8, e9, e10, e11⟩ := (G1.out.box BE.out (by simp)).at12; (try rw [HOP.out] at e0); obtain ⟨z0, z1, z2, z3, z4, z5, z6, z7⟩ := (G1.out.box BR.out (by simp)).at8; obtain ⟨f0, f1, f2, f3, f4, f5, f6, f7⟩ := (G1.out.box BR.out (by simp)).op8)
 refine bodyPost_ret (v := .tuple #[zeV, .int .i64 32]) (by simp [results, Tryz.results33, go_sem, World.cell?_setCell_same', z0, z1, z2, z3, z4, z5, z6, z7]; try rfl) rfl ?_
 exact vr_err ((HGU.out.trans G1.out).k (k := w.heap.size + 2) (kept8 _ _ _ _ _ _ _ _ _ _) (by omega))
end Go.Proofs.YtnchohglplobeaaGreat
