/- schema.typeMayBe, actionMayBe. Conditions: names shorter than the library's bound, small types. -/
import Derived.Test.YtijjbfdbhfjfmaaScH
import Derived.Test.YtijjbfdbhfjfmaaScT
import Derived.Test.YtijjbfdbhfjfmaaPathW
namespace Go.Proofs.Ytijjbfdbhfjfmaa
open Go.RowKit
set_option linter.unusedVariables false
def actS : ByteArray := ⟨#[65, 99, 116, 105, 111, 110]⟩
theorem act_l : actS.toList = [65, 99, 116, 105, 111, 110] := by rw [ByteArray.toList_eq]; rfl
def typeB (tg : Gra) (n : Nat) (t : Et) : Bool := pathB t.nm.s.data.toList && (!decide (t.nm.s = actS) && (t.ins.all (knows tg) && rowB (nmB tg) n t.ats))
def actB (tg ag : Gra) (n : Nat) (a : Ac) : Bool := a.ins.all (knows ag) && (a.ps.all (knows tg) && (a.rs.all (knows tg) && rowB (nmB tg) n a.ats))
theorem box3 {w wr : World} {c0 c1 c2 : Value} {t : TypeId} (h : Low (w.alloc (.cells #[c0, c1, c2] t)) wr) : wr.cell? ⟨w.heap.size, 0, none⟩ = some c0 ∧ wr.cell? ⟨w.heap.size, 1, none⟩ = some c1 ∧ wr.cell? ⟨w.heap.size, 2, none⟩ = some c2 :=
  ⟨h.keep (by rw [World.cell?_alloc_mark]; rfl), h.keep (by rw [World.cell?_alloc_mark]; rfl), h.keep (by rw [World.cell?_alloc_mark]; rfl)⟩
theorem box5 {w wr : World} {c0 c1 c2 c3 c4 : Value} {t : TypeId} (h : Low (w.alloc (.cells #[c0, c1, c2, c3, c4] t)) wr) : wr.cell? ⟨w.heap.size, 0, none⟩ = some c0 ∧ wr.cell? ⟨w.heap.size, 1, none⟩ = some c1 ∧ wr.cell? ⟨w.heap.size, 2, none⟩ = some c2 ∧ wr.cell? ⟨w.heap.size, 3, none⟩ = some c3 ∧ wr.cell? ⟨w.heap.size, 4, none⟩ = some c4 :=
  ⟨h.keep (by rw [World.cell?_alloc_mark]; rfl), h.keep (by rw [World.cell?_alloc_mark]; rfl), h.keep (by rw [World.cell?_alloc_mark]; rfl), h.keep (by rw [World.cell?_alloc_mark]; rfl), h.keep (by rw [World.cell?_alloc_mark]; rfl)⟩
set_option maxHeartbeats 3200000 in
theorem typem_c (tg : Gra) (n : Nat) (t : Et) (w : World) (b m : Nat) (pi pa : Option Addr) (ci ca : Nat) (hx : Mx w) (hn : t.nm.s.size < 4294967281) (hs : Sm (n + 1) (recT t.ats)) (hi : NsAt w t.ins (.slice pi t.ins.length ci)) (ha : RAs (fun _ => True) w n t.ats (.slice pa t.ats.length ca)) (h : InsAt w b m tg) :
    Calls Try.prog 27 #[.agg #[.string t.nm.s, .slice pi t.ins.length ci, .slice pa t.ats.length ca], .map (some b)] w fun e w' => e = .returned (.bool (typeB tg n t)) ∧ Low w w' := by
  obtain ⟨W, hW⟩ : ∃ W, W = w.alloc (.cells #[.string t.nm.s, .slice pi t.ins.length ci, .slice pa t.ats.length ca] 33) := ⟨_, rfl⟩
  have LW := Lib.hid (show Low w W by rw [hW]; exact low_new (Low.refl w) _)
  have HB := Lib.hid fun (V : World) (hl : Low W V) => box3 (w := w) (wr := V) (c0 := .string t.nm.s) (c1 := .slice pi t.ins.length ci) (c2 := .slice pa t.ats.length ca) (t := 33) (by rw [← hW]; exact hl)
  have HP := Lib.hid (show Calls Try.prog 43 #[.string t.nm.s] W fun e w' => e = .returned (.bool (pathB t.nm.s.data.toList)) ∧ Low W w' from (path_c t.nm.s hn W (hx.low LW.out)).mono fun e w' ⟨h1, h2⟩ => ⟨h1, Low.of_drew h2⟩)
  have HI := Lib.hid fun (V : World) (hl : Low W V) => hasAll_c tg t.ins V b m _ (h.low (LW.out.trans hl)) (hi.low (LW.out.trans hl))
  have HA := Lib.hid fun (V : World) (hl : Low W V) => row12_c n tg t.ats V b m _ hs (RAs.low ha (LW.out.trans hl)) (h.low (LW.out.trans hl))
  have HW := Lib.hid hW
  obtain ⟨q1, hq1⟩ : ∃ q, q = pathB t.nm.s.data.toList := ⟨_, rfl⟩
  obtain ⟨q3, hq3⟩ : ∃ q, q = t.ins.all (knows tg) := ⟨_, rfl⟩
  obtain ⟨q4, hq4⟩ : ∃ q, q = rowB (nmB tg) n t.ats := ⟨_, rfl⟩
  rw [← hq1] at HP
  rw [← hq3] at HI
  rw [← hq4] at HA
  obtain ⟨R, hR⟩ : ∃ R, R = typeB tg n t := ⟨_, rfl⟩
  have HR := Lib.hid (show R = (q1 && (!decide (t.nm.s = actS) && (q3 && q4))) by rw [hR, hq1, hq3, hq4]; rfl)
  rw [← hR]
  clear hx hn hs hi ha h hW hq1 hq3 hq4 hR
  obtain ⟨c0, c1, c2⟩ := HB.out W (Low.refl W)
  go_enter Try.func27, Try.ntmps27
  go_upto_region 1 with fail
  rw [← HW.out]
  cases q1 with
  | false =>
    have HR0 := Lib.hid (show R = false by rw [HR.out]; rfl)
    clear HR
    go_wp2_with fail
    refine HP.out.mono ?_
    rintro e w1 ⟨rfl, l1⟩
    go_wp2_with fail
    go_ret
    exact ⟨retB HR0.out.symm, LW.out.trans l1⟩
  | true =>
    go_wp2_with fail
    refine HP.out.mono ?_
    rintro e w1 ⟨rfl, l1⟩
    obtain ⟨d0, d1, d2⟩ := HB.out w1 l1
    have HI1 := Lib.hid (HI.out w1 l1)
    have L1 := Lib.hid l1
    clear l1 c0 c1 c2 HP HI
    by_cases he : t.nm.s = actS
    · have HR0 := Lib.hid (show R = false by rw [HR.out, decide_eq_true he]; rfl)
      rw [he] at d0
      unfold actS at d0
      clear he HR
      go_wp2_with fail
      go_ret
      exact ⟨retB HR0.out.symm, LW.out.trans L1.out⟩
    · have HR1 := Lib.hid (show R = (q3 && q4) by rw [HR.out, decide_eq_false he]; rfl)
      have he2 : ¬ t.nm.s.toList = [65, 99, 116, 105, 111, 110] := fun h => he (tl_inj.1 (h.trans act_l.symm))
      have he3 : (t.nm.s.toList == [65, 99, 116, 105, 111, 110]) = false := by simpa using he2
      clear he HR
      cases q3 with
      | false =>
        have HR0 := Lib.hid (show R = false by rw [HR1.out]; rfl)
        go_wp2_with fail
        refine HI1.out.mono ?_
        rintro e w2 ⟨rfl, l2⟩
        go_wp2_with fail
        go_ret
        exact ⟨retB HR0.out.symm, LW.out.trans (L1.out.trans l2)⟩
      | true =>
        have HR0 := Lib.hid (show R = q4 by rw [HR1.out]; rfl)
        go_wp2_with fail
        refine HI1.out.mono ?_
        rintro e w2 ⟨rfl, l2⟩
        obtain ⟨f0, f1, f2⟩ := HB.out w2 (L1.out.trans l2)
        have HA2 := Lib.hid (HA.out w2 (L1.out.trans l2))
        have L2 := Lib.hid (L1.out.trans l2)
        clear l2 d0 d1 d2
        go_wp2_with fail
        refine HA2.out.mono ?_
        rintro e w3 ⟨rfl, l3⟩
        go_wp2_with fail
        go_ret
        exact ⟨retB HR0.out.symm, LW.out.trans (L2.out.trans l3)⟩
set_option maxHeartbeats 3200000 in
theorem actm_c (tg ag : Gra) (n : Nat) (t : Ac) (w : World) (b m b2 m2 : Nat) (pi pp pr pa : Option Addr) (ci cp cr ca : Nat) (hs : Sm (n + 1) (recT t.ats)) (hi : NsAt w t.ins (.slice pi t.ins.length ci)) (hp : NsAt w t.ps (.slice pp t.ps.length cp)) (hr : NsAt w t.rs (.slice pr t.rs.length cr)) (ha : RAs (fun _ => True) w n t.ats (.slice pa t.ats.length ca)) (h : InsAt w b m tg) (h2 : InsAt w b2 m2 ag) :
    Calls Try.prog 30 #[.agg #[.string t.nm.s, .slice pi t.ins.length ci, .slice pp t.ps.length cp, .slice pr t.rs.length cr, .slice pa t.ats.length ca], .map (some b), .map (some b2)] w fun e w' => e = .returned (.bool (actB tg ag n t)) ∧ Low w w' := by
  obtain ⟨W, hW⟩ : ∃ W, W = w.alloc (.cells #[.string t.nm.s, .slice pi t.ins.length ci, .slice pp t.ps.length cp, .slice pr t.rs.length cr, .slice pa t.ats.length ca] 37) := ⟨_, rfl⟩
  have LW := Lib.hid (show Low w W by rw [hW]; exact low_new (Low.refl w) _)
  have HB := Lib.hid fun (V : World) (hl : Low W V) => box5 (w := w) (wr := V) (c0 := .string t.nm.s) (c1 := .slice pi t.ins.length ci) (c2 := .slice pp t.ps.length cp) (c3 := .slice pr t.rs.length cr) (c4 := .slice pa t.ats.length ca) (t := 37) (by rw [← hW]; exact hl)
  have HI := Lib.hid fun (V : World) (hl : Low W V) => hasAll_c ag t.ins V b2 m2 _ (h2.low (LW.out.trans hl)) (hi.low (LW.out.trans hl))
  have HP := Lib.hid fun (V : World) (hl : Low W V) => hasAll_c tg t.ps V b m _ (h.low (LW.out.trans hl)) (hp.low (LW.out.trans hl))
  have HS := Lib.hid fun (V : World) (hl : Low W V) => hasAll_c tg t.rs V b m _ (h.low (LW.out.trans hl)) (hr.low (LW.out.trans hl))
  have HA := Lib.hid fun (V : World) (hl : Low W V) => row12_c n tg t.ats V b m _ hs (RAs.low ha (LW.out.trans hl)) (h.low (LW.out.trans hl))
  have HW := Lib.hid hW
  obtain ⟨q1, hq1⟩ : ∃ q, q = t.ins.all (knows ag) := ⟨_, rfl⟩
  obtain ⟨q2, hq2⟩ : ∃ q, q = t.ps.all (knows tg) := ⟨_, rfl⟩
  obtain ⟨q3, hq3⟩ : ∃ q, q = t.rs.all (knows tg) := ⟨_, rfl⟩
  obtain ⟨q4, hq4⟩ : ∃ q, q = rowB (nmB tg) n t.ats := ⟨_, rfl⟩
  rw [← hq1] at HI
  rw [← hq2] at HP
  rw [← hq3] at HS
  rw [← hq4] at HA
  obtain ⟨R, hR⟩ : ∃ R, R = actB tg ag n t := ⟨_, rfl⟩
  have HR := Lib.hid (show R = (q1 && (q2 && (q3 && q4))) by rw [hR, hq1, hq2, hq3, hq4]; rfl)
  rw [← hR]
  clear hs hi hp hr ha h h2 hW hq1 hq2 hq3 hq4 hR
  obtain ⟨c0, c1, c2, c3, c4⟩ := HB.out W (Low.refl W)
  have HI1 := Lib.hid (HI.out W (Low.refl W))
  go_enter Try.func30, Try.ntmps30
  go_upto_region 1 with fail
  rw [← HW.out]
  cases q1 with
  | false =>
    have HR0 := Lib.hid (show R = false by rw [HR.out]; rfl)
    clear HR
    go_wp2_with fail
    refine HI1.out.mono ?_
    rintro e w1 ⟨rfl, l1⟩
    go_wp2_with fail
    go_ret
    exact ⟨retB HR0.out.symm, LW.out.trans l1⟩
  | true =>
    go_wp2_with fail
    refine HI1.out.mono ?_
    rintro e w1 ⟨rfl, l1⟩
    obtain ⟨d0, d1, d2, d3, d4⟩ := HB.out w1 l1
    have HP1 := Lib.hid (HP.out w1 l1)
    have L1 := Lib.hid l1
    clear l1 c0 c1 c2 c3 c4 HI HI1
    cases q2 with
    | false =>
      have HR0 := Lib.hid (show R = false by rw [HR.out]; rfl)
      clear HR
      go_wp2_with fail
      refine HP1.out.mono ?_
      rintro e w2 ⟨rfl, l2⟩
      go_wp2_with fail
      go_ret
      exact ⟨retB HR0.out.symm, LW.out.trans (L1.out.trans l2)⟩
    | true =>
      go_wp2_with fail
      refine HP1.out.mono ?_
      rintro e w2 ⟨rfl, l2⟩
      obtain ⟨f0, f1, f2, f3, f4⟩ := HB.out w2 (L1.out.trans l2)
      have HS2 := Lib.hid (HS.out w2 (L1.out.trans l2))
      have L2 := Lib.hid (L1.out.trans l2)
      clear l2 d0 d1 d2 d3 d4 HP HP1
      cases q3 with
      | false =>
        have HR0 := Lib.hid (show R = false by rw [HR.out]; rfl)
        clear HR
        go_wp2_with fail
        refine HS2.out.mono ?_
        rintro e w3 ⟨rfl, l3⟩
        go_wp2_with fail
        go_ret
        exact ⟨retB HR0.out.symm, LW.out.trans (L2.out.trans l3)⟩
      | true =>
        have HR0 := Lib.hid (show R = q4 by rw [HR.out]; rfl)
        clear HR
        go_wp2_with fail
        refine HS2.out.mono ?_
        rintro e w3 ⟨rfl, l3⟩
        obtain ⟨i0, i1, i2, i3, i4⟩ := HB.out w3 (L2.out.trans l3)
        have HA3 := Lib.hid (HA.out w3 (L2.out.trans l3))
        have L3 := Lib.hid (L2.out.trans l3)
        clear l3 f0 f1 f2 f3 f4
        go_wp2_with fail
        refine HA3.out.mono ?_
        rintro e w4 ⟨rfl, l4⟩
        go_wp2_with fail
        go_ret
        exact ⟨retB HR0.out.symm, LW.out.trans (L3.out.trans l4)⟩
theorem chk1_c (tg : Gra) (n : Nat) (t : Et) (w : World) (b m x0 : Nat) (pi pa : Option Addr) (ci ca : Nat) (hx : Mx w) (hn : t.nm.s.size < 4294967281) (hs : Sm (n + 1) (recT t.ats)) (hi : NsAt w t.ins (.slice pi t.ins.length ci)) (ha : RAs (fun _ => True) w n t.ats (.slice pa t.ats.length ca)) (h : InsAt w b m tg) (hc : w.cell? ⟨x0, 0, none⟩ = some (.map (some b))) :
    Calls Try.prog 26 #[.agg #[.string t.nm.s, .slice pi t.ins.length ci, .slice pa t.ats.length ca], .pointer (some ⟨x0, 0, none⟩)] w fun e w' => e = .returned (.bool (!typeB tg n t)) ∧ Low w w' := by
  obtain ⟨W, hW⟩ : ∃ W, W = w.alloc (.cells #[.string t.nm.s, .slice pi t.ins.length ci, .slice pa t.ats.length ca] 33) := ⟨_, rfl⟩
  have LW := Lib.hid (show Low w W by rw [hW]; exact low_new (Low.refl w) _)
  have hb := LW.out.keep hc
  obtain ⟨c0, c1, c2⟩ := box3 (w := w) (wr := W) (c0 := .string t.nm.s) (c1 := .slice pi t.ins.length ci) (c2 := .slice pa t.ats.length ca) (t := 33) (by rw [hW]; exact Low.refl _)
  have HC := Lib.hid (typem_c tg n t W b m pi pa ci ca (hx.low LW.out) hn hs (hi.low LW.out) (RAs.low ha LW.out) (h.low LW.out))
  have HW := Lib.hid hW
  obtain ⟨q, hq⟩ : ∃ q, q = typeB tg n t := ⟨_, rfl⟩
  rw [← hq] at HC ⊢
  clear h ha hi hs hn hx hc hW hq
  go_enter Try.func26, Try.ntmps26
  go_upto_region 1 with fail
  rw [← HW.out]
  go_wp2_with fail
  refine HC.out.mono ?_
  rintro e w' ⟨rfl, l1⟩
  go_wp2_with fail
  go_ret
  exact ⟨rfl, LW.out.trans l1⟩
theorem chk2_c (tg ag : Gra) (n : Nat) (t : Ac) (w : World) (b m b2 m2 x0 x1 : Nat) (pi pp pr pa : Option Addr) (ci cp cr ca : Nat) (hs : Sm (n + 1) (recT t.ats)) (hi : NsAt w t.ins (.slice pi t.ins.length ci)) (hp : NsAt w t.ps (.slice pp t.ps.length cp)) (hr : NsAt w t.rs (.slice pr t.rs.length cr)) (ha : RAs (fun _ => True) w n t.ats (.slice pa t.ats.length ca)) (h : InsAt w b m tg) (h2 : InsAt w b2 m2 ag) (hc : w.cell? ⟨x0, 0, none⟩ = some (.map (some b))) (hc2 : w.cell? ⟨x1, 0, none⟩ = some (.map (some b2))) :
    Calls Try.prog 29 #[.agg #[.string t.nm.s, .slice pi t.ins.length ci, .slice pp t.ps.length cp, .slice pr t.rs.length cr, .slice pa t.ats.length ca], .pointer (some ⟨x0, 0, none⟩), .pointer (some ⟨x1, 0, none⟩)] w fun e w' => e = .returned (.bool (!actB tg ag n t)) ∧ Low w w' := by
  obtain ⟨W, hW⟩ : ∃ W, W = w.alloc (.cells #[.string t.nm.s, .slice pi t.ins.length ci, .slice pp t.ps.length cp, .slice pr t.rs.length cr, .slice pa t.ats.length ca] 37) := ⟨_, rfl⟩
  have LW := Lib.hid (show Low w W by rw [hW]; exact low_new (Low.refl w) _)
  have hb := LW.out.keep hc
  have hb2 := LW.out.keep hc2
  obtain ⟨c0, c1, c2, c3, c4⟩ := box5 (w := w) (wr := W) (c0 := .string t.nm.s) (c1 := .slice pi t.ins.length ci) (c2 := .slice pp t.ps.length cp) (c3 := .slice pr t.rs.length cr) (c4 := .slice pa t.ats.length ca) (t := 37) (by rw [hW]; exact Low.refl _)
  have HC := Lib.hid (actm_c tg ag n t W b m b2 m2 pi pp pr pa ci cp cr ca hs (hi.low LW.out) (hp.low LW.out) (hr.low LW.out) (RAs.low ha LW.out) (h.low LW.out) (h2.low LW.out))
  have HW := Lib.hid hW
  obtain ⟨q, hq⟩ : ∃ q, q = actB tg ag n t := ⟨_, rfl⟩
  rw [← hq] at HC ⊢
  clear h h2 ha hi hp hr hs hc hc2 hW hq
  go_enter Try.func29, Try.ntmps29
  go_upto_region 1 with fail
  rw [← HW.out]
  go_wp2_with fail
  refine HC.out.mono ?_
  rintro e w' ⟨rfl, l1⟩
  go_wp2_with fail
  go_ret
  exact ⟨rfl, LW.out.trans l1⟩
end Go.Proofs.Ytijjbfdbhfjfmaa
