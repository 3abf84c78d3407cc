/- The program's mayBe, Check, Attr, shallow. Condition: short rows. -/
import Derived.Test.YtijjbfdbhfjfmaaTyG
namespace Go.Proofs.Ytijjbfdbhfjfmaa
open Go.RowKit
def MayPC (n : Nat) : Prop := ∀ (A : Nat → Prop) (t : T) (w : World) (e v : Value), Sm n t → RT A w n t e v → Calls Try.prog 66 #[tv t e v] w (fun e w' => e = .returned (.bool (mayB n t)) ∧ Low w w')
set_option maxHeartbeats 1600000 in
theorem mayf_c {n : Nat} (hd : MayPC n) {A : Nat → Prop} (x : T) (w : World) (e v : Value) (hs : Sm n x) (h : RT A w n x e v) :
    Calls Try.prog 76 #[tv x e v] w fun e w' => e = .returned (.bool (!mayB n x)) ∧ Low w w' := by
  obtain ⟨pe, ce, pv, cv, rfl, rfl, z1, z2, z3, z4⟩ := h.sl
  have HC := Lib.hid (hd A x (w.alloc (box4 x pe ce pv cv)) _ _ hs (h.low (low_new (Low.refl w) _)))
  obtain ⟨q, hq⟩ : ∃ q, q = mayB n x := ⟨_, rfl⟩
  rw [← hq] at HC ⊢
  unfold tv at *
  unfold box4 at *
  clear h hs hd hq
  go_enter Try.func76, Try.ntmps76
  go_wp2_with fail
  refine HC.out.mono ?_
  rintro e w1 ⟨rfl, l1⟩
  have L1 := Lib.hid ((low_new (Low.refl w) _).trans l1)
  clear l1 HC
  go_wp2_with fail
  go_ret
  exact ⟨rfl, L1.out⟩
set_option maxHeartbeats 3200000 in
set_option maxRecDepth 100000 in
theorem mayp_n (n : Nat) : MayPC n := by
  induction n with
  | zero => intro A t w e v _ h; exact h.elim
  | succ n ih =>
    intro A t w e v hs h
    obtain ⟨pe, ce, pv, cv, rfl, rfl, z1, z2, z3, z4⟩ := h.sl
    obtain ⟨-, -, haa⟩ := rt_succ.1 h
    obtain ⟨U, hU⟩ : ∃ U, U = w.alloc (.cells #[.int .i64 t.k, .string t.n, .slice pe t.l.length ce, .slice pv t.ats.length cv] 55) := ⟨_, rfl⟩
    have LU := Lib.hid (show Low w U by rw [hU]; exact low_new (Low.refl w) _)
    have FU := Lib.hid (fun W (h : Low U W) => (show W.cell? ⟨w.heap.size, 0, none⟩ = some (.int .i64 t.k) ∧ W.cell? ⟨w.heap.size, 1, none⟩ = some (.string t.n) ∧ W.cell? ⟨w.heap.size, 2, none⟩ = some (.slice pe t.l.length ce) ∧ W.cell? ⟨w.heap.size, 3, none⟩ = some (.slice pv t.ats.length cv) from low_box (show Low (w.alloc (.cells #[.int .i64 t.k, .string t.n, .slice pe t.l.length ce, .slice pv t.ats.length cv] 55)) W by rw [← hU]; exact h)))
    have HU := Lib.hid hU
    have HR := Lib.hid (rise_c t.ats U _ (RAs.low haa LU.out))
    have HW := Lib.hid fun W (l : Low U W) => within_c t W _ _ (h.low (LU.out.trans l)) hs.len
    have HS := Lib.hid hs.2.2
    have IH := Lib.hid ih
    obtain ⟨r, hr⟩ : ∃ r, r = mayB (n + 1) t := ⟨_, rfl⟩
    have HD := Lib.hid (show r = (mayH t && rises (t.ats.map an) && !(t.ins.any fun x => !mayB n x)) by
      rw [hr, mayB]; congr 1; rw [List.not_any_eq_all_not]; congr 1; funext x; simp)
    rw [← hr]
    unfold tv at *
    clear hU h hs ih haa hr
    by_cases k0 : t.k < 0
    · have HQ := Lib.hid (show false = r by rw [HD.out, show mayH t = false from decide_eq_false (by omega)]; rfl)
      have k0' : ¬ 0 ≤ t.k := by omega
      clear HR HW FU
      go_enter Try.func66, Try.ntmps66
      go_wp2_with fail
      go_ret
      exact ⟨retB HQ.out, low_new (Low.refl w) _⟩
    by_cases k8 : 8 < t.k
    · have HQ := Lib.hid (show false = r by rw [HD.out, show mayH t = false from decide_eq_false (by omega)]; rfl)
      have g0 : 0 ≤ t.k := by omega
      have k8' : ¬ t.k ≤ 8 := by omega
      clear HR HW FU
      go_enter Try.func66, Try.ntmps66
      go_wp2_with fail
      go_ret
      exact ⟨retB HQ.out, low_new (Low.refl w) _⟩
    have g0 : 0 ≤ t.k := by omega
    have g8 : t.k ≤ 8 := by omega
    by_cases k7 : t.k = 7 ∧ t.l.length ≠ 1
    · have HQ := Lib.hid (show false = r by rw [HD.out, show mayH t = false from decide_eq_false (by omega)]; rfl)
      have b7 : (t.k == 7) = true := by simpa using k7.1
      have b7n : (t.k != 7) = false := by unfold bne; rw [b7]; rfl
      have b1 : ((t.l.length : Int) == 1) = false := by have := k7.2; simp; omega
      clear k7 HR HW FU
      go_enter Try.func66, Try.ntmps66
      go_wp2_with fail
      go_ret
      exact ⟨retB HQ.out, low_new (Low.refl w) _⟩
    have HOK : mayH t = true := decide_eq_true ⟨g0, g8, fun h => Classical.byContradiction fun h2 => k7 ⟨h, h2⟩⟩
    have HD2 := Lib.hid (show r = (rises (t.ats.map an) && !(t.ins.any fun x => !mayB n x)) by rw [HD.out, HOK]; rfl)
    have hx7 : ((t.k == 7) = false ∧ (t.k != 7) = true) ∨ ((t.k == 7) = true ∧ (t.k != 7) = false ∧ ((t.l.length : Int) == 1) = true) := by
      by_cases h : t.k = 7
      · refine .inr ⟨by simpa using h, by simpa using h, ?_⟩
        have : t.l.length = 1 := Classical.byContradiction fun h2 => k7 ⟨h, h2⟩
        rw [this]; rfl
      · exact .inl ⟨by simpa using h, by simpa using h⟩
    obtain ⟨c, hc⟩ : ∃ c, c = rises (t.ats.map an) := ⟨_, rfl⟩
    rw [← hc] at HR HD2
    clear k7 k0 k8 HD HOK hc
    rcases hx7 with ⟨b7, b7n⟩ | ⟨b7, b7n, b1⟩
    all_goals
      go_enter Try.func66, Try.ntmps66
      go_upto_region 1 with fail
      rw [← HU.out]
      obtain ⟨f0, f1, f2, f3⟩ := FU.out U (Low.refl U)
      go_wp2_with fail
      refine HR.out.mono ?_
      rintro e w1 ⟨rfl, l1⟩
      have L1 := Lib.hid l1
      have hw := HW.out w1 l1
      have HW1 := Lib.hid hw
      clear f0 f1 f2 f3
      obtain ⟨f0, f1, f2, f3⟩ := FU.out w1 l1
      clear l1 hw HW HR FU HU
      cases c with
      | false =>
        have HQ := Lib.hid (show false = r by rw [HD2.out]; rfl)
        go_wp2_with fail
        go_ret
        exact ⟨retB HQ.out, LU.out.trans L1.out⟩
      | true =>
        have HQ := Lib.hid (show (!(t.ins.any fun x => !mayB n x)) = r by rw [HD2.out]; rfl)
        go_wp2_with fail
        refine HW1.out.mono ?_
        rintro e w2 ⟨p, c, rfl, hr, l2⟩
        have HC := Lib.hid (hasM_c t.ins n (fun x => !mayB n x) w2 _ hr fun j hj W e u l hx => mayf_c IH.out _ W _ _ (HS.out _ (List.getElem_mem hj)) hx)
        obtain ⟨q, hq⟩ : ∃ q, q = (t.ins.any fun x => !mayB n x) := ⟨_, rfl⟩
        rw [← hq] at HC HQ
        have L2 := Lib.hid l2
        clear l2 hr hq HW1
        go_wp2_with fail
        refine HC.out.mono ?_
        rintro e w3 ⟨rfl, l3⟩
        have L3 := Lib.hid l3
        clear l3 HC
        go_wp2_with fail
        go_ret
        exact ⟨retB HQ.out, ((LU.out.trans L1.out).trans L2.out).trans L3.out⟩
theorem mayp_c (n : Nat) : MayPC n := mayp_n n
theorem dG_dpt {n : Nat} {t : T} (h : Sm n t) (L : Nat) : dG L t = decide (L < dpt n t) := dG_iff L n t h.dp
set_option maxHeartbeats 1600000 in
theorem check_c {A : Nat → Prop} {n : Nat} (t : T) (w : World) (e v : Value) (hs : Sm n t) (h : RT A w n t e v) : Calls Try.prog 55 #[tv t e v] w fun e w' => e = .returned (.int .i64 (chkE n t)) ∧ Low w w' := by
  obtain ⟨pe, ce, pv, cv, rfl, rfl, z1, z2, z3, z4⟩ := h.sl
  obtain ⟨U, hU⟩ : ∃ U, U = w.alloc (box4 t pe ce pv cv) := ⟨_, rfl⟩
  have LU := Lib.hid (show Low w U by rw [hU]; exact low_new (Low.refl w) _)
  have hd := deep_c n A t 50 U _ _ (by omega) hs (h.low LU.out)
  have HM := Lib.hid fun W (l : Low U W) => mayp_c n A t W _ _ hs (h.low (LU.out.trans l))
  obtain ⟨r, hr⟩ : ∃ r, r = chkE n t := ⟨_, rfl⟩
  have FU := Lib.hid (show U.cell? ⟨w.heap.size, 0, none⟩ = some (.int .i64 t.k) ∧ U.cell? ⟨w.heap.size, 1, none⟩ = some (.string t.n) ∧ U.cell? ⟨w.heap.size, 2, none⟩ = some (.slice pe t.l.length ce) ∧ U.cell? ⟨w.heap.size, 3, none⟩ = some (.slice pv t.ats.length cv) from low_box (show Low (w.alloc (box4 t pe ce pv cv)) U by rw [← hU]; exact Low.refl U))
  have HR := Lib.hid (show r = if dG 50 t = true then 11 else if mayB n t = true then 0 else 1 by
    rw [hr, chkE, dG_dpt hs]; simp)
  rw [← hr]
  obtain ⟨d, hd'⟩ : ∃ d, d = dG 50 t := ⟨_, rfl⟩
  rw [← hd'] at hd HR
  have HU := Lib.hid hU
  unfold tv at *
  have HD := Lib.hid hd
  clear h hr hd' hU hd hs
  go_enter Try.func55, Try.ntmps55
  go_upto_region 1 with fail
  rw [show w.alloc (.cells #[.int .i64 t.k, .string t.n, .slice pe t.l.length ce, .slice pv t.ats.length cv] 55) = U from HU.out.symm]
  obtain ⟨f0, f1, f2, f3⟩ := FU.out
  clear FU
  go_wp2_with fail
  refine HD.out.mono ?_
  rintro e w1 ⟨rfl, l1⟩
  have L1 := Lib.hid l1
  cases d with
  | true =>
    have HQ := Lib.hid (show 11 = r by rw [HR.out]; rfl)
    clear l1
    go_wp2_with fail
    go_ret
    exact ⟨retI HQ.out, LU.out.trans L1.out⟩
  | false =>
    obtain ⟨b, hb⟩ : ∃ b, b = mayB n t := ⟨_, rfl⟩
    have HQ := Lib.hid (show (if b then 0 else 1) = r by rw [HR.out, hb]; rfl)
    have hm := HM.out w1 l1
    rw [← hb] at hm
    have HM2 := Lib.hid hm
    have f0 := l1.keep f0
    have f1 := l1.keep f1
    have f2 := l1.keep f2
    have f3 := l1.keep f3
    clear l1 hb hm
    go_wp2_with fail
    refine HM2.out.mono ?_
    rintro e w2 ⟨rfl, l2⟩
    have L2 := Lib.hid l2
    clear l2
    cases b with
    | true =>
      go_wp2_with fail
      go_ret
      exact ⟨retI HQ.out, (LU.out.trans L1.out).trans L2.out⟩
    | false =>
      go_wp2_with fail
      go_ret
      exact ⟨retI HQ.out, (LU.out.trans L1.out).trans L2.out⟩
end Go.Proofs.Ytijjbfdbhfjfmaa
