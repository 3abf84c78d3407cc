/- schema.Type, Action, Above, ActionIn. Condition: not too many names. -/
import Derived.Test.YtijjbfdbhfjfmaaScF
import Derived.Test.YtijjbfdbhfjfmaaScL
import Derived.Test.YtijjbfdbhfjfmaaScB
import Derived.Deep.DeepCutAuto
namespace Go.Proofs.Ytijjbfdbhfjfmaa
open Go.RowKit
set_option linter.unusedVariables false
def eqN (s : ByteArray) (x : Nm) : Bool := decide (x.s = s)
theorem typef_c (x : Et) (s : ByteArray) (bx : Nat) (w : World) (pi pa : Option Addr) (ci ca : Nat) (hb : w.cell? ⟨bx, 0, none⟩ = some (.string s)) : Calls Try.prog 36 #[.agg #[.string x.nm.s, .slice pi x.ins.length ci, .slice pa x.ats.length ca], .pointer (some ⟨bx, 0, none⟩)] w fun e w' => e = .returned (.bool (eqN s x.nm)) ∧ Low w w' := by
  have hb2 := fun X => (low_new (Low.refl w) X).keep hb
  unfold eqN
  by_cases he : x.nm.s = s
  · have HQ := Lib.hid (show true = decide (x.nm.s = s) from (decide_eq_true he).symm)
    rw [← he] at hb2
    clear hb he
    go_enter Try.func36, Try.ntmps36
    go_wp2_with fail
    go_ret
    exact ⟨retB HQ.out, low_new (Low.refl w) _⟩
  · have HQ := Lib.hid (show false = decide (x.nm.s = s) from (decide_eq_false he).symm)
    have he2 : ¬ x.nm.s.toList = s.toList := fun h => he (tl_inj.1 h)
    have he3 : (x.nm.s.toList == s.toList) = false := by simpa using he2
    clear hb he
    go_enter Try.func36, Try.ntmps36
    go_wp2_with fail
    go_ret
    exact ⟨retB HQ.out, low_new (Low.refl w) _⟩
theorem actf_c (x : Ac) (s : ByteArray) (bx : Nat) (w : World) (pi pp pr pa : Option Addr) (ci cp cr ca : Nat) (hb : w.cell? ⟨bx, 0, none⟩ = some (.string s)) : Calls Try.prog 38 #[.agg #[.string x.nm.s, .slice pi x.ins.length ci, .slice pp x.ps.length cp, .slice pr x.rs.length cr, .slice pa x.ats.length ca], .pointer (some ⟨bx, 0, none⟩)] w fun e w' => e = .returned (.bool (eqN s x.nm)) ∧ Low w w' := by
  have hb2 := fun X => (low_new (Low.refl w) X).keep hb
  unfold eqN
  by_cases he : x.nm.s = s
  · have HQ := Lib.hid (show true = decide (x.nm.s = s) from (decide_eq_true he).symm)
    rw [← he] at hb2
    clear hb he
    go_enter Try.func38, Try.ntmps38
    go_wp2_with fail
    go_ret
    exact ⟨retB HQ.out, low_new (Low.refl w) _⟩
  · have HQ := Lib.hid (show false = decide (x.nm.s = s) from (decide_eq_false he).symm)
    have he2 : ¬ x.nm.s.toList = s.toList := fun h => he (tl_inj.1 h)
    have he3 : (x.nm.s.toList == s.toList) = false := by simpa using he2
    clear hb he
    go_enter Try.func38, Try.ntmps38
    go_wp2_with fail
    go_ret
    exact ⟨retB HQ.out, low_new (Low.refl w) _⟩
/-- What Type tells: the first one of the name, and true; else false. -/
def TypeP (l : List Et) (s : ByteArray) (w : World) (e : Ending) (w' : World) : Prop :=
  ∃ (nm : ByteArray) (pi : Option Addr) (li ci : Nat) (pa : Option Addr) (la ca : Nat) (q : Bool), e = .returned (.tuple #[.agg #[.string nm, .slice pi li ci, .slice pa la ca], .bool q]) ∧ Low w w' ∧
    ((q = false ∧ firstI l (fun x => eqN s x.nm) = -1 ∧ nm = ⟨#[]⟩) ∨ (q = true ∧ ∃ i, ∃ hi : i < l.length, firstI l (fun x => eqN s x.nm) = (i : Int) ∧ nm = s ∧ li = l[i].ins.length ∧ la = l[i].ats.length))
def ActP (l : List Ac) (s : ByteArray) (w : World) (e : Ending) (w' : World) : Prop :=
  ∃ (nm : ByteArray) (pi : Option Addr) (li ci : Nat) (pp : Option Addr) (lp cp : Nat) (pr : Option Addr) (lr cr : Nat) (pa : Option Addr) (la ca : Nat) (q : Bool), e = .returned (.tuple #[.agg #[.string nm, .slice pi li ci, .slice pp lp cp, .slice pr lr cr, .slice pa la ca], .bool q]) ∧ Low w w' ∧
    ((q = false ∧ firstI l (fun x => eqN s x.nm) = -1 ∧ nm = ⟨#[]⟩) ∨ (q = true ∧ ∃ i, ∃ hi : i < l.length, firstI l (fun x => eqN s x.nm) = (i : Int) ∧ nm = s ∧ li = l[i].ins.length ∧ lp = l[i].ps.length ∧ lr = l[i].rs.length))
set_option maxHeartbeats 3200000 in
theorem type_c (n : Nat) (l : List Et) (s : ByteArray) (w : World) (vt va : Value) (h : EtsAt n w l vt) : Calls Try.prog 12 #[.agg #[vt, va], .string s] w (TypeP l s w) := by
  obtain ⟨p, c, rfl, z1, z2⟩ := RowB.sl h
  obtain ⟨U0, hU0⟩ : ∃ U, U = w.alloc (.cells #[.slice p l.length c, va] 25) := ⟨_, rfl⟩
  obtain ⟨U1, hU1⟩ : ∃ U, U = U0.alloc (.cells #[.string s] 9) := ⟨_, rfl⟩
  obtain ⟨U, hU⟩ : ∃ U, U = U1.alloc (.cells #[.string ⟨#[]⟩, .slice none 0 0, .slice none 0 0] 33) := ⟨_, rfl⟩
  have s0 : U0.heap.size = w.heap.size + 1 := by rw [hU0]; simp
  have s1 : U1.heap.size = w.heap.size + 2 := by rw [hU1]; simp [s0]
  have L0 : Low U0 U := by rw [hU, hU1]; exact low_new (low_new (Low.refl _) _) _
  have LU := Lib.hid (show Low w U from (by rw [hU0]; exact low_new (Low.refl w) _ : Low w U0).trans L0)
  have ZU := Lib.hid (show BoxAt U (w.heap.size + 2) [.string ⟨#[]⟩, .slice none 0 0, .slice none 0 0] from BoxAt.made hU (by omega) rfl)
  have hb : U.cell? ⟨w.heap.size + 1, 0, none⟩ = some (.string s) := by
    rw [hU]; exact (low_new (Low.refl _) _).keep (by rw [hU1, ← s0, World.cell?_alloc_mark]; rfl)
  have hs0 : U.cell? ⟨w.heap.size, 0, none⟩ = some (.slice p l.length c) := L0.keep (by rw [hU0, World.cell?_alloc_mark]; rfl)
  have HI := Lib.hid (idxEt_c n l (fun x => eqN s x.nm) (w.heap.size + 1) U _ (h.low LU.out) fun j hj V pi ci pa ca hl h1 h2 => typef_c l[j] s (w.heap.size + 1) V pi pa ci ca (hl.keep hb))
  have HA := Lib.hid h
  rw [hU1, hU0] at hU
  have HU := Lib.hid hU
  clear h hU hb hU0 hU1 s0 s1 L0
  go_enter Try.func12, Try.ntmps12
  go_upto_region 1 with fail
  rw [← HU.out]
  go_wp2_with fail
  refine HI.out.mono ?_
  rintro e w1 ⟨rfl, l1⟩
  have L1 := Lib.hid l1
  have LW := Lib.hid (LU.out.trans l1)
  have Z1 := Lib.hid (ZU.out.low l1)
  have hs1 := l1.keep hs0
  clear l1 HI ZU HU hs0
  have g0 := Z1.out.at 0 _ rfl
  have o0 := Z1.out.open' 0
  have g1 := Z1.out.at 1 _ rfl
  have o1 := Z1.out.open' 1
  have g2 := Z1.out.at 2 _ rfl
  have o2 := Z1.out.open' 2
  have K6 := fun (c0 c1 c2 : Value) => (((kept_setCell w1 (w.heap.size + 2) 0 c0).trans (kept_setCell _ (w.heap.size + 2) 1 c1)).trans (kept_setCell _ (w.heap.size + 2) 2 c2))
  have HK := Lib.hid K6
  clear K6
  rcases firstI_cases l (fun x => eqN s x.nm) with ⟨i, hi, ha, hs, -⟩ | ⟨ha, -⟩
  · have HAI := Lib.hid ha
    have HSI := Lib.hid (show l[i].nm.s = s from of_decide_eq_true hs)
    obtain ⟨b, o, pi, ci, pa, ca, rfl, e0, e1, e2, -, -, y1, y2, y3, y4⟩ := EtsAt.at (EtsAt.low HA.out LW.out) hi
    rw [ha]
    have zl : (i : Int) < (l.length : Int) := by omega
    have zn : ¬ (i : Int) < 0 := by omega
    clear ha hs
    go_wp2_with fail
    refine bodyPost_ret (v := .tuple #[.agg #[.string l[i].nm.s, .slice pi l[i].ins.length ci, .slice pa l[i].ats.length ca], .bool true]) (by simp [results, Try.results12, go_sem, World.cell?_setCell_same', g0, g1, g2]; try rfl) rfl ?_
    exact ⟨_, pi, _, ci, pa, _, ca, true, rfl, low_all LW.out (by omega) (HK.out _ _ _), .inr ⟨rfl, i, hi, HAI.out, HSI.out, rfl, rfl⟩⟩
  · have HAI := Lib.hid ha
    rw [ha]
    clear ha
    go_wp2_with fail
    refine bodyPost_ret (v := .tuple #[.agg #[.string ⟨#[]⟩, .slice none 0 0, .slice none 0 0], .bool false]) (by simp [results, Try.results12, go_sem, World.cell?_setCell_same', g0, g1, g2]; try rfl) rfl ?_
    exact ⟨⟨#[]⟩, none, 0, 0, none, 0, 0, false, rfl, low_all LW.out (by omega) (HK.out _ _ _), .inl ⟨rfl, HAI.out, rfl⟩⟩
set_option maxHeartbeats 3200000 in
theorem act_c (n : Nat) (l : List Ac) (s : ByteArray) (w : World) (vt va : Value) (h : AcsAt n w l va) : Calls Try.prog 13 #[.agg #[vt, va], .string s] w (ActP l s w) := by
  obtain ⟨p, c, rfl, z1, z2⟩ := RowB.sl h
  obtain ⟨U0, hU0⟩ : ∃ U, U = w.alloc (.cells #[vt, .slice p l.length c] 25) := ⟨_, rfl⟩
  obtain ⟨U1, hU1⟩ : ∃ U, U = U0.alloc (.cells #[.string s] 9) := ⟨_, rfl⟩
  obtain ⟨U, hU⟩ : ∃ U, U = U1.alloc (.cells #[.string ⟨#[]⟩, .slice none 0 0, .slice none 0 0, .slice none 0 0, .slice none 0 0] 37) := ⟨_, rfl⟩
  have s0 : U0.heap.size = w.heap.size + 1 := by rw [hU0]; simp
  have s1 : U1.heap.size = w.heap.size + 2 := by rw [hU1]; simp [s0]
  have L0 : Low U0 U := by rw [hU, hU1]; exact low_new (low_new (Low.refl _) _) _
  have LU := Lib.hid (show Low w U from (by rw [hU0]; exact low_new (Low.refl w) _ : Low w U0).trans L0)
  have ZU := Lib.hid (show BoxAt U (w.heap.size + 2) [.string ⟨#[]⟩, .slice none 0 0, .slice none 0 0, .slice none 0 0, .slice none 0 0] from BoxAt.made hU (by omega) rfl)
  have hb : U.cell? ⟨w.heap.size + 1, 0, none⟩ = some (.string s) := by
    rw [hU]; exact (low_new (Low.refl _) _).keep (by rw [hU1, ← s0, World.cell?_alloc_mark]; rfl)
  have hs0 : U.cell? ⟨w.heap.size, 1, none⟩ = some (.slice p l.length c) := L0.keep (by rw [hU0, World.cell?_alloc_mark]; rfl)
  have HI := Lib.hid (idxAc_c n l (fun x => eqN s x.nm) (w.heap.size + 1) U _ (h.low LU.out) fun j hj V pi ci pp cp pr cr pa ca hl h1 h2 h3 h4 => actf_c l[j] s (w.heap.size + 1) V pi pp pr pa ci cp cr ca (hl.keep hb))
  have HA := Lib.hid h
  rw [hU1, hU0] at hU
  have HU := Lib.hid hU
  clear h hU hb hU0 hU1 s0 s1 L0
  go_enter Try.func13, Try.ntmps13
  go_upto_region 1 with fail
  rw [← HU.out]
  go_wp2_with fail
  refine HI.out.mono ?_
  rintro e w1 ⟨rfl, l1⟩
  have L1 := Lib.hid l1
  have LW := Lib.hid (LU.out.trans l1)
  have Z1 := Lib.hid (ZU.out.low l1)
  have hs1 := l1.keep hs0
  clear l1 HI ZU HU hs0
  have g0 := Z1.out.at 0 _ rfl
  have o0 := Z1.out.open' 0
  have g1 := Z1.out.at 1 _ rfl
  have o1 := Z1.out.open' 1
  have g2 := Z1.out.at 2 _ rfl
  have o2 := Z1.out.open' 2
  have g3 := Z1.out.at 3 _ rfl
  have o3 := Z1.out.open' 3
  have g4 := Z1.out.at 4 _ rfl
  have o4 := Z1.out.open' 4
  have K6 := fun (c0 c1 c2 c3 c4 : Value) => (((((kept_setCell w1 (w.heap.size + 2) 0 c0).trans (kept_setCell _ (w.heap.size + 2) 1 c1)).trans (kept_setCell _ (w.heap.size + 2) 2 c2)).trans (kept_setCell _ (w.heap.size + 2) 3 c3)).trans (kept_setCell _ (w.heap.size + 2) 4 c4))
  have HK := Lib.hid K6
  clear K6
  rcases firstI_cases l (fun x => eqN s x.nm) with ⟨i, hi, ha, hs, -⟩ | ⟨ha, -⟩
  · have HAI := Lib.hid ha
    have HSI := Lib.hid (show l[i].nm.s = s from of_decide_eq_true hs)
    obtain ⟨b, o, pi, ci, pp, cp, pr, cr, pa, ca, rfl, e0, e1, e2, e3, e4, -, -, -, -, -, -, -, -⟩ := AcsAt.at (AcsAt.low HA.out LW.out) hi
    rw [ha]
    have zl : (i : Int) < (l.length : Int) := by omega
    have zn : ¬ (i : Int) < 0 := by omega
    clear ha hs
    go_wp2_with fail
    refine bodyPost_ret (v := .tuple #[.agg #[.string l[i].nm.s, .slice pi l[i].ins.length ci, .slice pp l[i].ps.length cp, .slice pr l[i].rs.length cr, .slice pa l[i].ats.length ca], .bool true]) (by simp [results, Try.results13, go_sem, World.cell?_setCell_same', g0, g1, g2, g3, g4]; try rfl) rfl ?_
    exact ⟨_, pi, _, ci, pp, _, cp, pr, _, cr, pa, _, ca, true, rfl, low_all LW.out (by omega) (HK.out _ _ _ _ _), .inr ⟨rfl, i, hi, HAI.out, HSI.out, rfl, rfl, rfl⟩⟩
  · have HAI := Lib.hid ha
    rw [ha]
    clear ha
    go_wp2_with fail
    refine bodyPost_ret (v := .tuple #[.agg #[.string ⟨#[]⟩, .slice none 0 0, .slice none 0 0, .slice none 0 0, .slice none 0 0], .bool false]) (by simp [results, Try.results13, go_sem, World.cell?_setCell_same', g0, g1, g2, g3, g4]; try rfl) rfl ?_
    exact ⟨⟨#[]⟩, none, 0, 0, none, 0, 0, none, 0, 0, none, 0, 0, false, rfl, low_all LW.out (by omega) (HK.out _ _ _ _ _), .inl ⟨rfl, HAI.out, rfl⟩⟩
theorem above_c (n : Nat) (l : List Et) (x y : Nm) (w : World) (vt va : Value) (hl : l.length ≤ 100000) (hg : FewG (l.map Et.r)) (h : EtsAt n w l vt) : Calls Try.prog 17 #[.agg #[vt, va], .string x.s, .string y.s] w fun e w' => e = .returned (.bool (ways (l.map Et.r) x y)) ∧ Low w w' := by
  obtain ⟨p, c, rfl, z1, z2⟩ := RowB.sl h
  obtain ⟨W, hW⟩ : ∃ W, W = w.alloc (.cells #[.slice p l.length c, va] 25) := ⟨_, rfl⟩
  have LW := Lib.hid (show Low w W by rw [hW]; exact low_new (Low.refl w) _)
  obtain ⟨c0, c1⟩ := box2 (w := w) (wr := W) (c0 := .slice p l.length c) (c1 := va) (t := 25) (by rw [hW]; exact Low.refl _)
  have HI := Lib.hid (insT_c n l W _ va hl (h.low LW.out))
  have HG := Lib.hid hg
  have HW := Lib.hid hW
  obtain ⟨q, hq⟩ : ∃ q, q = ways (l.map Et.r) x y := ⟨_, rfl⟩
  have HQ := Lib.hid hq
  rw [← hq]
  clear h hg hW hq
  go_enter Try.func17, Try.ntmps17
  go_upto_region 1 with fail
  rw [← HW.out]
  go_wp2_with fail
  refine HI.out.mono ?_
  rintro e w1 ⟨b, rfl, hb, M1, l1⟩
  have HC := Lib.hid (leads_c w1 b _ _ x y HG.out M1)
  rw [← HQ.out] at HC
  have L1 := Lib.hid (LW.out.trans l1)
  clear M1 l1
  go_wp2_with fail
  refine HC.out.mono ?_
  rintro e w2 ⟨rfl, l2⟩
  go_wp2_with fail
  go_ret
  exact ⟨rfl, L1.out.trans l2⟩
noncomputable def inB (g : Gra) (x y : Nm) : Bool := decide (x = y) || ways g x y
theorem actin_c (n : Nat) (l : List Ac) (x y : Nm) (w : World) (vt va : Value) (hl : l.length ≤ 100000) (hg : FewG (l.map Ac.r)) (h : AcsAt n w l va) : Calls Try.prog 19 #[.agg #[vt, va], .string x.s, .string y.s] w fun e w' => e = .returned (.bool (inB (l.map Ac.r) x y)) ∧ Low w w' := by
  obtain ⟨p, c, rfl, z1, z2⟩ := RowB.sl h
  obtain ⟨W, hW⟩ : ∃ W, W = w.alloc (.cells #[vt, .slice p l.length c] 25) := ⟨_, rfl⟩
  have LW := Lib.hid (show Low w W by rw [hW]; exact low_new (Low.refl w) _)
  obtain ⟨c0, c1⟩ := box2 (w := w) (wr := W) (c0 := vt) (c1 := .slice p l.length c) (t := 25) (by rw [hW]; exact Low.refl _)
  have HI := Lib.hid (insA_c n l W vt _ hl (h.low LW.out))
  have HG := Lib.hid hg
  have HW := Lib.hid hW
  by_cases he : x = y
  · have HQ := Lib.hid (show true = inB (l.map Ac.r) x y by unfold inB; rw [decide_eq_true he]; rfl)
    clear h hg hW HI
    go_enter Try.func19, Try.ntmps19
    go_upto_region 1 with fail
    rw [← HW.out]
    have he2 : x.s = y.s := by rw [he]
    clear he
    go_wp2_with fail
    go_ret
    exact ⟨retB HQ.out, LW.out⟩
  · obtain ⟨q, hq⟩ : ∃ q, q = ways (l.map Ac.r) x y := ⟨_, rfl⟩
    have HQ := Lib.hid hq
    have HQ2 := Lib.hid (show q = inB (l.map Ac.r) x y by unfold inB; rw [decide_eq_false he, hq]; rfl)
    have he2 : ¬ x.s.toList = y.s.toList := fun h => he (Nm.ext' (tl_inj.1 h))
    have he3 : (x.s.toList == y.s.toList) = false := by simpa using he2
    clear h hg hW hq he
    go_enter Try.func19, Try.ntmps19
    go_upto_region 1 with fail
    rw [← HW.out]
    go_wp2_with fail
    refine HI.out.mono ?_
    rintro e w1 ⟨b, rfl, hb, M1, l1⟩
    have HC := Lib.hid (leads_c w1 b _ _ x y HG.out M1)
    rw [← HQ.out] at HC
    have L1 := Lib.hid (LW.out.trans l1)
    clear M1 l1
    go_wp2_with fail
    refine HC.out.mono ?_
    rintro e w2 ⟨rfl, l2⟩
    go_wp2_with fail
    go_ret
    exact ⟨retB HQ2.out, L1.out.trans l2⟩
end Go.Proofs.Ytijjbfdbhfjfmaa
