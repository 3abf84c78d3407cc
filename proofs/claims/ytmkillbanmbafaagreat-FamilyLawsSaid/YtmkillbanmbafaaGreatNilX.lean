/- The document's examples of layer 6 hold: awake answers true. No condition. A region that draws its order, walked once in a class of worlds that a fact tells: operations that only read, calls that keep the fact. No condition. What a store that is nil answers; plain facts of lists as they must be. No condition. -/
import Derived.Test.YtmkillbanmbafaaGreatAwaG
import Derived.Test.YtmkillbanmbafaaGreatLoadW
import Derived.Test.YtmkillbanmbafaaGreatInG
import Derived.Test.YtmkillbanmbafaaGreatCpyG
import Derived.Test.YtmkillbanmbafaaGreatVals
import Derived.Deep.QuietTactic
import Derived.Test.YtmkillbanmbafaaGreatTurX
import Derived.Test.YtmkillbanmbafaaGreatOpnZ
namespace Go.Proofs.YtmkillbanmbafaaGreat
open Go.RowKit Go.Sort Go.Maps
theorem BoxAt.lwc {m n : Nat} {w w' : World} {c : Value} {cs : List Value} (h : BoxAt w n (c :: cs)) (L : Lw m w w') : BoxAt w' n (c :: cs) := h.lw L (cell_noMap L.map (h.at 0 c rfl))
def uC : Us := ⟨⟨#[85]⟩, ⟨#[99]⟩, by decide, by decide⟩
def uNo : Us := ⟨⟨#[]⟩, ⟨#[]⟩, by decide, by decide⟩
def enL6 : List En := [⟨uB, [uC], r0⟩, ⟨uC, [], r0⟩, ⟨uA, [uB], r0⟩]
def enS6 : List En := [⟨uA, [uB], r0⟩, ⟨uB, [uC], r0⟩, ⟨uC, [], r0⟩]
theorem step_L6 {x y : Us} (h : stepE enL6 x y) : (x = uA ∧ y = uB) ∨ (x = uB ∧ y = uC) := by
  obtain ⟨h1, h2, -⟩ := h
  simp [namesE, enL6] at h1
  rcases h1 with rfl | rfl | rfl
  · rw [show PE enL6 uB = [uC] from by kernel_rfl] at h2; simp at h2; exact .inr ⟨rfl, h2⟩
  · rw [show PE enL6 uC = [] from by kernel_rfl] at h2; simp at h2
  · rw [show PE enL6 uA = [uB] from by kernel_rfl] at h2; simp at h2; exact .inl ⟨rfl, h2⟩
theorem ne_abc : uA ≠ uB ∧ uA ≠ uC ∧ uB ≠ uC := by decide
theorem way_L6 {x y : Us} (h : Way (stepE enL6) x y) : (x = uA ∧ (y = uB ∨ y = uC)) ∨ (x = uB ∧ y = uC) := by
  obtain ⟨n1, n2, n3⟩ := ne_abc
  induction h with
  | one s =>
    rcases step_L6 s with ⟨h1, h2⟩ | ⟨h1, h2⟩
    · exact .inl ⟨h1, .inl h2⟩
    · exact .inr ⟨h1, h2⟩
  | more _ s ih =>
    rcases step_L6 s with ⟨h1, h2⟩ | ⟨h1, h2⟩
    · rcases ih with ⟨_, e | e⟩ | ⟨_, e⟩
      · exact absurd (h1.symm.trans e) n1
      · exact absurd (h1.symm.trans e) n2
      · exact absurd (h1.symm.trans e) n2
    · rcases ih with ⟨k, e | e⟩ | ⟨_, e⟩
      · exact .inl ⟨k, .inr h2⟩
      · exact absurd (h1.symm.trans e) n3
      · exact absurd (h1.symm.trans e) n3
theorem round_L6 : ¬ RoundE enL6 := by
  rintro ⟨x, h⟩
  obtain ⟨n1, n2, n3⟩ := ne_abc
  rcases way_L6 h with ⟨h1, h2 | h2⟩ | ⟨h1, h2⟩
  · exact n1 (h1.symm.trans h2)
  · exact n2 (h1.symm.trans h2)
  · exact n3 (h1.symm.trans h2)
theorem can_L6 : canE canD enL6 = (0, enS6) := by
  have h0 : (canE canD enL6).1 = 0 := by
    rw [canE_ok]
    refine ⟨by decide, by obtain ⟨n1, n2, n3⟩ := ne_abc; simp [namesE, enL6, n3, n1.symm, n2.symm], fun e he => ?_, round_L6⟩
    simp [enL6] at he
    rcases he with rfl | rfl | rfl
    · exact errE_r0 (by simp [namesE, enL6])
    · exact errE_r0 (by simp)
    · exact errE_r0 (by simp [namesE, enL6])
  rw [canE_val h0]
  have : uniq cmpE (enL6.map (oneE canD)) = enS6 := by kernel_rfl
  rw [this]
theorem way_S6 {x y : Us} : Way (stepE enS6) x y ↔ Way (stepE enL6) x y := by
  have h := way_can (f := canD) (l := enL6) (x := x) (y := y) (by rw [can_L6])
  rwa [can_L6] at h
theorem way_ab : Way (stepE enL6) uA uB := .one ⟨by simp [namesE, enL6], by rw [show PE enL6 uA = [uB] from by kernel_rfl]; simp, by simp [namesE, enL6]⟩
theorem way_ac : Way (stepE enL6) uA uC := way_ab.more ⟨by simp [namesE, enL6], by rw [show PE enL6 uB = [uC] from by kernel_rfl]; simp, by simp [namesE, enL6]⟩
theorem abv_a : abvN enS6 uA = [uB, uC] := by
  obtain ⟨n1, n2, n3⟩ := ne_abc
  have ha : ¬ Way (stepE enS6) uA uA := fun h => round_L6 ⟨_, way_S6.1 h⟩
  have hb : Way (stepE enS6) uA uB := way_S6.2 way_ab
  have hc : Way (stepE enS6) uA uC := way_S6.2 way_ac
  unfold abvN
  rw [show namesE enS6 = [uA, uB, uC] from rfl]
  rw [List.filter_cons_of_neg (by simpa using ha), List.filter_cons_of_pos (by simpa using hb), List.filter_cons_of_pos (by simpa using hc)]
  rfl
theorem in_ac : inB enS6 uA uC = true := inB_iff.2 (.inr (way_S6.2 way_ac))
theorem in_cc : inB enS6 uC uC = true := inB_iff.2 (.inl rfl)
theorem in_ca : inB enS6 uC uA = false := by
  obtain ⟨n1, n2, n3⟩ := ne_abc
  rw [Bool.eq_false_iff]
  intro h
  rcases inB_iff.1 h with h | h
  · exact n2 h.symm
  · rcases way_L6 (way_S6.1 h) with ⟨h1, -⟩ | ⟨h1, -⟩
    · exact n2 h1.symm
    · exact n3 h1.symm
theorem good_S6 : GoodC enS6 := by
  have h := canE_closed (f := canD) (l := enL6) (by rw [can_L6])
  rw [can_L6] at h
  refine ⟨h.1, h.2.1, h.2.2, by decide, ?_, ?_⟩
  · intro e he; simp [enS6] at he; rcases he with rfl | rfl | rfl <;> decide
  · intro e he; simp [enS6] at he; rcases he with rfl | rfl | rfl <;> exact sm_r0
theorem fst_e {qs : List Ee} {u : Us} {e : En} (h : fstE (ensOf qs) u = some e) : ((fstQ qs u).getD eeNo).e = e := by
  rw [fstQ_en] at h
  cases h2 : fstQ qs u with
  | none => rw [h2] at h; simp at h
  | some q => rw [h2] at h; simpa using h
set_option maxHeartbeats 8000000 in
set_option maxRecDepth 100000 in
theorem awake6_c (w : World) : Calls Tryz.prog 8 #[] w fun e w' => e = .returned (.bool true) ∧ Low w w' := by
  obtain ⟨W4, hW4⟩ : ∃ W, W = ((((w.alloc (.cells #[.string ⟨#[85]⟩, .string ⟨#[97]⟩] 24)).alloc (.cells #[.string ⟨#[85]⟩, .string ⟨#[98]⟩] 24)).alloc (.cells #[.string ⟨#[85]⟩, .string ⟨#[99]⟩] 24)).alloc (.cells #[.int .i64 6, .bool false, .int .i64 0, .string ⟨#[]⟩, .string ⟨#[]⟩, .string ⟨#[]⟩, .slice none 0 0, .slice none 0 0] 37)) := ⟨_, rfl⟩
  have HW4 := Lib.hid hW4
  have L4 := Lib.hid (show Low w W4 by rw [hW4]; exact Low.alloc (Low.alloc (Low.alloc (Low.alloc (Low.refl w) _) _) _) _)
  have BA := Lib.hid (show BoxAt W4 w.heap.size [.string ⟨#[85]⟩, .string ⟨#[97]⟩] from BoxAt.low (BoxAt.made (w := w) (W := (w.alloc (.cells #[.string ⟨#[85]⟩, .string ⟨#[97]⟩] 24))) rfl rfl rfl) (by rw [hW4]; exact Low.alloc (Low.alloc (Low.alloc (Low.refl _) _) _) _))
  have BB := Lib.hid (show BoxAt W4 (w.heap.size + 1) [.string ⟨#[85]⟩, .string ⟨#[98]⟩] from BoxAt.low (BoxAt.made (w := (w.alloc (.cells #[.string ⟨#[85]⟩, .string ⟨#[97]⟩] 24))) (W := ((w.alloc (.cells #[.string ⟨#[85]⟩, .string ⟨#[97]⟩] 24)).alloc (.cells #[.string ⟨#[85]⟩, .string ⟨#[98]⟩] 24))) rfl (by simp) rfl) (by rw [hW4]; exact Low.alloc (Low.alloc (Low.refl _) _) _))
  have BC := Lib.hid (show BoxAt W4 (w.heap.size + 1 + 1) [.string ⟨#[85]⟩, .string ⟨#[99]⟩] from BoxAt.low (BoxAt.made (w := ((w.alloc (.cells #[.string ⟨#[85]⟩, .string ⟨#[97]⟩] 24)).alloc (.cells #[.string ⟨#[85]⟩, .string ⟨#[98]⟩] 24))) (W := (((w.alloc (.cells #[.string ⟨#[85]⟩, .string ⟨#[97]⟩] 24)).alloc (.cells #[.string ⟨#[85]⟩, .string ⟨#[98]⟩] 24)).alloc (.cells #[.string ⟨#[85]⟩, .string ⟨#[99]⟩] 24))) rfl (by simp) rfl) (by rw [hW4]; exact Low.alloc (Low.refl _) _))
  have BR := Lib.hid (show BoxAt W4 (w.heap.size + 1 + 1 + 1) [.int .i64 6, .bool false, .int .i64 0, .string ⟨#[]⟩, .string ⟨#[]⟩, .string ⟨#[]⟩, .slice none 0 0, .slice none 0 0] from BoxAt.made hW4 (by simp) rfl)
  clear hW4
  obtain ⟨W7, hW7⟩ : ∃ W, W = (((W4.alloc (.cells #[.string ⟨#[85]⟩, .string ⟨#[99]⟩] 24)).alloc (.cells #[.string ⟨#[85]⟩, .string ⟨#[98]⟩] 24)).alloc (.cells #[.string ⟨#[85]⟩, .string ⟨#[98]⟩, .slice (some ⟨W4.heap.size, 0, none⟩) 1 1, .int .i64 6, .bool false, .int .i64 0, .string ⟨#[]⟩, .string ⟨#[]⟩, .string ⟨#[]⟩, .slice none 0 0, .slice none 0 0, .string ⟨#[85]⟩, .string ⟨#[99]⟩, .slice none 0 0, .int .i64 6, .bool false, .int .i64 0, .string ⟨#[]⟩, .string ⟨#[]⟩, .string ⟨#[]⟩, .slice none 0 0, .slice none 0 0, .string ⟨#[85]⟩, .string ⟨#[97]⟩, .slice (some ⟨W4.heap.size + 1, 0, none⟩) 1 1, .int .i64 6, .bool false, .int .i64 0, .string ⟨#[]⟩, .string ⟨#[]⟩, .string ⟨#[]⟩, .slice none 0 0, .slice none 0 0] 39)) := ⟨_, rfl⟩
  have HW7 := Lib.hid hW7
  have L7 := Lib.hid (show Low W4 W7 by rw [hW7]; exact Low.alloc (Low.alloc (Low.alloc (Low.refl W4) _) _) _)
  have hC : UsIn (fun _ => True) W7 (.slice (some ⟨W4.heap.size, 0, none⟩) 1 1) [uC] := box_us [uC] (show BoxAt W7 W4.heap.size [.string ⟨#[85]⟩, .string ⟨#[99]⟩] from BoxAt.low (BoxAt.made (w := W4) (W := (W4.alloc (.cells #[.string ⟨#[85]⟩, .string ⟨#[99]⟩] 24))) rfl rfl rfl) (by rw [hW7]; exact Low.alloc (Low.alloc (Low.refl _) _) _)) (Nat.le_refl _) (by decide)
  have hB : UsIn (fun _ => True) W7 (.slice (some ⟨W4.heap.size + 1, 0, none⟩) 1 1) [uB] := box_us [uB] (show BoxAt W7 (W4.heap.size + 1) [.string ⟨#[85]⟩, .string ⟨#[98]⟩] from BoxAt.low (BoxAt.made (w := (W4.alloc (.cells #[.string ⟨#[85]⟩, .string ⟨#[99]⟩] 24))) (W := ((W4.alloc (.cells #[.string ⟨#[85]⟩, .string ⟨#[99]⟩] 24)).alloc (.cells #[.string ⟨#[85]⟩, .string ⟨#[98]⟩] 24))) rfl (by simp) rfl) (by rw [hW7]; exact Low.alloc (Low.refl _) _)) (Nat.le_refl _) (by decide)
  have het : EtAt W7 (.slice (some ⟨W4.heap.size + 1 + 1, 0, none⟩) 3 3) [⟨⟨uB, [uC], r0⟩, some ⟨W4.heap.size, 0, none⟩, 1, none, 0, none, 0⟩, ⟨⟨uC, [], r0⟩, none, 0, none, 0, none, 0⟩, ⟨⟨uA, [uB], r0⟩, some ⟨W4.heap.size + 1, 0, none⟩, 1, none, 0, none, 0⟩] := by
    refine ⟨box_es [⟨⟨uB, [uC], r0⟩, some ⟨W4.heap.size, 0, none⟩, 1, none, 0, none, 0⟩, ⟨⟨uC, [], r0⟩, none, 0, none, 0, none, 0⟩, ⟨⟨uA, [uB], r0⟩, some ⟨W4.heap.size + 1, 0, none⟩, 1, none, 0, none, 0⟩] (show BoxAt W7 (W4.heap.size + 1 + 1) [.string ⟨#[85]⟩, .string ⟨#[98]⟩, .slice (some ⟨W4.heap.size, 0, none⟩) 1 1, .int .i64 6, .bool false, .int .i64 0, .string ⟨#[]⟩, .string ⟨#[]⟩, .string ⟨#[]⟩, .slice none 0 0, .slice none 0 0, .string ⟨#[85]⟩, .string ⟨#[99]⟩, .slice none 0 0, .int .i64 6, .bool false, .int .i64 0, .string ⟨#[]⟩, .string ⟨#[]⟩, .string ⟨#[]⟩, .slice none 0 0, .slice none 0 0, .string ⟨#[85]⟩, .string ⟨#[97]⟩, .slice (some ⟨W4.heap.size + 1, 0, none⟩) 1 1, .int .i64 6, .bool false, .int .i64 0, .string ⟨#[]⟩, .string ⟨#[]⟩, .string ⟨#[]⟩, .slice none 0 0, .slice none 0 0] from BoxAt.made hW7 (by simp) rfl) (Nat.le_refl _) (by decide), fun q hq => ?_⟩
    simp at hq
    rcases hq with rfl | rfl | rfl
    · exact ⟨hC, rep_r0 _⟩
    · exact ⟨us_none _, rep_r0 _⟩
    · exact ⟨hB, rep_r0 _⟩
  have hcon := load_c _ _ _ het (by refine ⟨by simp [ensOf], fun e he => ?_⟩; simp [ensOf] at he; rcases he with rfl | rfl | rfl <;> decide) (by intro q hq; simp at hq; rcases hq with rfl | rfl | rfl <;> exact sm_r0)
  rw [show ensOf [⟨⟨uB, [uC], r0⟩, some ⟨W4.heap.size, 0, none⟩, 1, none, 0, none, 0⟩, ⟨⟨uC, [], r0⟩, none, 0, none, 0, none, 0⟩, ⟨⟨uA, [uB], r0⟩, some ⟨W4.heap.size + 1, 0, none⟩, 1, none, 0, none, 0⟩] = enL6 from rfl, can_L6, hW7] at hcon
  have HC := Lib.hid hcon
  clear hcon het hB hC hW7
  go_enter Tryz.func8, Tryz.ntmps8
  go_upto_region 5 with fail
  rw [← HW4.out]
  clear HW4
  obtain ⟨a0, a1⟩ := BA.out.at2
  obtain ⟨b0, b1⟩ := BB.out.at2
  obtain ⟨c0, c1⟩ := BC.out.at2
  obtain ⟨r0', r1, r2, r3, r4, r5, r6, r7⟩ := BR.out.at8
  have up := fun {p : Addr} {v : Value} (h : W4.cell? p = some v) X => (Low.alloc (Low.refl W4) X).keep h
  have up2 := fun {p : Addr} {v : Value} (h : W4.cell? p = some v) X Y => (Low.alloc (Low.alloc (Low.refl W4) X) Y).keep h
  have a0X := up a0
  have a1X := up a1
  have b0X := up b0
  have b1X := up b1
  have c0X := up c0
  have c1X := up c1
  have r0X := up r0'
  have r1X := up r1
  have r2X := up r2
  have r3X := up r3
  have r4X := up r4
  have r5X := up r5
  have r6X := up r6
  have r7X := up r7
  have r0Y := up2 r0'
  have r1Y := up2 r1
  have r2Y := up2 r2
  have r3Y := up2 r3
  have r4Y := up2 r4
  have r5Y := up2 r5
  have r6Y := up2 r6
  have r7Y := up2 r7
  clear up up2
  go_wp2_with fail
  refine HC.out.mono ?_
  rintro e w8 (⟨h, -⟩ | ⟨-, z, rs, rfl, l8, hrs, hs, hma⟩)
  · exact absurd rfl h
  clear a0 a1 b0 b1 c0 c1 r0' r1 r2 r3 r4 r5 r6 r7 a0X a1X b0X b1X c0X c1X r0X r1X r2X r3X r4X r5X r6X r7X r0Y r1Y r2Y r3Y r4Y r5Y r6Y r7Y HC
  rw [← HW7.out] at l8 hma
  have HMA := Lib.hid (show w.heap.size ≤ z.ma from Nat.le_trans (L4.out.trans L7.out).size hma)
  have L8 := Lib.hid ((L4.out.trans L7.out).trans l8)
  have BA8 := Lib.hid (BA.out.low (L7.out.trans l8))
  have BC8 := Lib.hid (BC.out.low (L7.out.trans l8))
  have HRS := Lib.hid (show ensOf rs = enS6 from hrs)
  have HS8 := Lib.hid hs
  have HG := Lib.hid (show GoodC (ensOf rs) by rw [HRS.out]; exact good_S6)
  clear l8 hrs hs hma L4 L7 HW7 BA BB BC BR
  have HC1 := Lib.hid (get6_c w8 z rs uA HS8.out HG.out)
  obtain ⟨a0, a1⟩ := BA8.out.at2
  go_wp2_with fail
  refine HC1.out.mono ?_
  rintro e w9 ⟨x, hxe, he, -, l9⟩
  rw [show decide (uA ∈ namesE (ensOf rs)) = true by rw [HRS.out]; decide] at he
  subst he
  have HX1 := Lib.hid (show x.e.ps.length = 1 by rw [hxe, fst_e (e := ⟨uA, [uB], r0⟩) (by rw [HRS.out]; kernel_rfl)]; rfl)
  obtain ⟨V9, hV9⟩ : ∃ W, W = w9.alloc (.cells #[.string x.e.u.t, .string x.e.u.i, .slice x.ap x.e.ps.length x.cp, .int .i64 x.e.a.h.k, .bool x.e.a.h.b, .int .i64 x.e.a.h.n, .string x.e.a.h.s, .string x.e.a.h.t, .string x.e.a.h.i, .slice x.ai x.e.a.l.length x.ci, .slice x.an x.e.a.ns.length x.cn] 39) := ⟨_, rfl⟩
  have HV9 := Lib.hid hV9
  have L9 := Lib.hid (show Low w8 V9 by rw [hV9]; exact l9.trans (Low.alloc (Low.refl w9) _))
  have BX := Lib.hid (show BoxAt V9 w9.heap.size [.string x.e.u.t, .string x.e.u.i, .slice x.ap x.e.ps.length x.cp, .int .i64 x.e.a.h.k, .bool x.e.a.h.b, .int .i64 x.e.a.h.n, .string x.e.a.h.s, .string x.e.a.h.t, .string x.e.a.h.i, .slice x.ai x.e.a.l.length x.ci, .slice x.an x.e.a.ns.length x.cn] from BoxAt.made hV9 rfl rfl)
  have HS9 := Lib.hid (HS8.out.low L9.out)
  have HC2 := Lib.hid (get6_c V9 z rs uNo HS9.out HG.out)
  clear hxe l9 hV9 a0 a1 HC1
  go_upto_region 9 with fail
  rw [← HV9.out]
  clear HV9
  go_wp2_with fail
  refine HC2.out.mono ?_
  rintro e w10 ⟨y, -, he, -, l10⟩
  rw [show decide (uNo ∈ namesE (ensOf rs)) = false by rw [HRS.out]; decide] at he
  subst he
  obtain ⟨V10, hV10⟩ : ∃ W, W = w10.alloc (.cells #[.string y.e.u.t, .string y.e.u.i, .slice y.ap y.e.ps.length y.cp, .int .i64 y.e.a.h.k, .bool y.e.a.h.b, .int .i64 y.e.a.h.n, .string y.e.a.h.s, .string y.e.a.h.t, .string y.e.a.h.i, .slice y.ai y.e.a.l.length y.ci, .slice y.an y.e.a.ns.length y.cn] 39) := ⟨_, rfl⟩
  have HV10 := Lib.hid hV10
  have L10 := Lib.hid (show Low V9 V10 by rw [hV10]; exact l10.trans (Low.alloc (Low.refl w10) _))
  have L11 := Lib.hid (L8.out.trans (L9.out.trans L10.out))
  have BX10 := Lib.hid (BX.out.low L10.out)
  have BA10 := Lib.hid (BA8.out.low (L9.out.trans L10.out))
  have BC10 := Lib.hid (BC8.out.low (L9.out.trans L10.out))
  have HS10 := Lib.hid (HS9.out.low L10.out)
  have HC3 := Lib.hid (above6_c V10 z rs uA HS10.out HG.out)
  clear l10 hV10 HC2 BX BA8 BC8 HS9 L9 L10 L8
  go_upto_region 10 with fail
  rw [← HV10.out]
  clear HV10
  obtain ⟨a0, a1⟩ := BA10.out.at2
  go_wp2_with fail
  refine HC3.out.mono ?_
  rintro e w11 ⟨v, rfl, hu, hs11, l11⟩
  rw [HRS.out, abv_a] at hu
  obtain ⟨av, cv, hv, -, -⟩ := hu
  replace hv : v = .slice av 2 cv := hv
  subst hv
  have LL11 := Lib.hid l11
  have HC4 := Lib.hid (in_c w11 z rs uA uC hs11 HG.out)
  rw [show inB (ensOf rs) uA uC = true by rw [HRS.out]; exact in_ac] at HC4
  clear hs11 l11 a0 a1 HC3
  obtain ⟨a0, a1⟩ := (BA10.out.lwc LL11.out).at2
  obtain ⟨c0, c1⟩ := (BC10.out.lwc LL11.out).at2
  go_wp2_with fail
  refine HC4.out.mono ?_
  rintro e w12 ⟨rfl, hs12, l12⟩
  have LL12 := Lib.hid (LL11.out.trans l12)
  have HC5 := Lib.hid (in_c w12 z rs uC uA hs12 HG.out)
  rw [show inB (ensOf rs) uC uA = false by rw [HRS.out]; exact in_ca] at HC5
  clear hs12 l12 a0 a1 c0 c1 HC4
  obtain ⟨a0, a1⟩ := (BA10.out.lwc LL12.out).at2
  obtain ⟨c0, c1⟩ := (BC10.out.lwc LL12.out).at2
  go_wp2_with fail
  refine HC5.out.mono ?_
  rintro e w13 ⟨rfl, hs13, l13⟩
  have LL13 := Lib.hid (LL12.out.trans l13)
  have HC6 := Lib.hid (in_c w13 z rs uC uC hs13 HG.out)
  rw [show inB (ensOf rs) uC uC = true by rw [HRS.out]; exact in_cc] at HC6
  clear hs13 l13 a0 a1 c0 c1 HC5
  obtain ⟨c0, c1⟩ := (BC10.out.lwc LL13.out).at2
  go_wp2_with fail
  refine HC6.out.mono ?_
  rintro e w14 ⟨rfl, hs14, l14⟩
  have LL14 := Lib.hid (LL13.out.trans l14)
  have HC7 := Lib.hid (all6_c w14 z rs hs14 HG.out)
  have x2 := (BX10.out.lwc LL14.out).at 2 _ rfl
  rw [HX1.out] at x2
  clear hs14 l14 c0 c1 HC6
  go_wp2_with fail
  refine HC7.out.mono ?_
  rintro e w15 ⟨v, al, rfl, has, hO, -, -, l15⟩
  obtain ⟨ao, ca, hv, -, -, -⟩ := OwnR.shape hO
  rw [show al.length = 3 by have h1 := congrArg List.length has; rw [HRS.out] at h1; simpa [ensOf, enS6] using h1] at hv
  subst hv
  have LL15 := Lib.hid (Low.trans (LL14.out.low L11.out HMA.out) l15)
  clear hO l15 x2 HC7 has
  go_wp2_with fail
  go_ret
  exact ⟨rfl, LL15.out⟩
end Go.Proofs.YtmkillbanmbafaaGreat
namespace Go.Proofs.YtmkillbanmbafaaGreat
open Go
/-- A world of which the fact holds. -/
structure InC (I : World → Prop) where
  w : World
  ok : I w
theorem wp_region_cls {P : Program} {id : Nat} {Q : Exit → Act → World → Prop} {a : Act} {w : World} {l : List Oper} (I : World → Prop) (hm : P.follows .mixedOrders = true) (hB : Region.lexB .any l.toArray = true) (h0 : I w.drew)
    (h : wpQuiet P l.toArray (fun w' => ∃ p : InC I, w' = p.w) (fun a' => ∀ w', (∃ p : InC I, w' = p.w) → Q .normal a' w') l a) : (Code.region id l.toArray true).wp P Q a w :=
  wp_region_quiet (C := fun w' => ∃ p : InC I, w' = p.w) hm hB ⟨⟨w.drew, h0⟩, rfl⟩ (by simpa using h)
theorem Calls.cls {P : Program} {f : FuncId} {args : Array Value} {I : World → Prop} {v : Value} (p : InC I)
    (h : Calls P f args p.w fun e w' => e = .returned v ∧ I w') : Calls P f args p.w fun e w'' => e = .returned v ∧ ∃ q : InC I, w'' = q.w :=
  h.mono fun _ _ ⟨he, hw⟩ => ⟨he, ⟨⟨_, hw⟩, rfl⟩⟩
end Go.Proofs.YtmkillbanmbafaaGreat
namespace Go.Proofs.YtmkillbanmbafaaGreat
open Go.RowKit Go.Sort Go.Maps
theorem can_names {f : V → Int × V} {l : List En} (h : (canE f l).1 = 0) (x : Us) : x ∈ namesE (canE f l).2 ↔ x ∈ namesE l := by
  obtain ⟨-, hn, -, -⟩ := canE_ok.1 h
  rw [canE_val h]
  have hn' : (namesE (l.map (oneE f))).Nodup := by rw [names_one]; exact hn
  have hmem : ∀ z, z ∈ uniq cmpE (l.map (oneE f)) ↔ z ∈ l.map (oneE f) := fun z => mem_en hn'
  rw [← names_one (c := f) l]
  unfold namesE
  simp only [List.mem_map]
  constructor
  · rintro ⟨z, hz, rfl⟩
    obtain ⟨e, he, rfl⟩ := List.mem_map.1 ((hmem z).1 hz)
    exact ⟨_, ⟨e, he, rfl⟩, rfl⟩
  · rintro ⟨z, ⟨e, he, rfl⟩, rfl⟩
    exact ⟨_, (hmem _).2 (List.mem_map.2 ⟨e, he, rfl⟩), rfl⟩
theorem can_len {f : V → Int × V} {l : List En} (h : (canE f l).1 = 0) : (canE f l).2.length = l.length := by
  have h1 := (canE_ok.1 h).2.1
  have h2 := rises_names (canE_closed h).2.2
  rw [← names_len, ← names_len l]
  exact Nat.le_antisymm (len_sub _ _ h2 fun x hx => (can_names h x).1 hx) (len_sub _ _ h1 fun x hx => (can_names h x).2 hx)
theorem good_can {l : List En} (h : (canE canD l).1 = 0) (h20 : l.length ≤ 20) (hs : ∀ e ∈ l, SmE e) : GoodC (canE canD l).2 := by
  obtain ⟨h1, h2, h3⟩ := canE_closed h
  obtain ⟨f1, f2⟩ := canE_few h h20 fun e he => ⟨(hs e he).1, (hs e he).2.2⟩
  exact ⟨h1, h2, h3, by omega, fun e he => by have := (f2 e he).2; omega, fun e he => (f2 e he).1⟩
/-- Of a list that is taken: an entity is in each of its parents, and none of these in it. -/
theorem can_up {l : List En} (h : (canE canD l).1 = 0) {e : En} (he : e ∈ l) {p : Us} (hp : p ∈ e.ps) : inB (canE canD l).2 e.u p = true ∧ inB (canE canD l).2 p e.u = false := by
  obtain ⟨-, hn, h3, hr⟩ := canE_ok.1 h
  have h0 := h3 e he
  unfold errE at h0
  by_cases k1 : e.a.h.k ≠ 6
  · rw [if_pos k1] at h0; exact absurd h0 (by decide)
  · rw [if_neg k1] at h0
    by_cases k2 : (canD e.a).1 ≠ 0
    · rw [if_pos k2] at h0; exact absurd h0 k2
    · rw [if_neg k2] at h0
      by_cases k3 : e.ps.all (fun p => decide (p ∈ namesE l)) = true
      · have k4 := List.all_eq_true.1 k3 p hp
        simp at k4
        have hs : Way (stepE l) e.u p := .one ⟨List.mem_map.2 ⟨e, he, rfl⟩, by rw [PE_of hn he]; exact hp, k4⟩
        refine ⟨inB_iff.2 (.inr ((way_can h).2 hs)), ?_⟩
        rw [Bool.eq_false_iff]
        intro hb
        rcases inB_iff.1 hb with hb | hb
        · rw [hb] at hs; exact hr ⟨_, hs⟩
        · exact hr ⟨_, hs.trans ((way_can h).1 hb)⟩
      · rw [if_neg k3] at h0; exact absurd h0 (by decide)
/-! ### nil -/
set_option maxRecDepth 100000 in
theorem all_nil (w : World) : Calls Tryz.prog 15 #[.pointer none] w fun e w' => e = .returned (.slice none 0 0) ∧ Low w w' := by
  go_enter Tryz.func15, Tryz.ntmps15
  go_wp2_with fail
  go_ret
  exact ⟨rfl, Low.refl _⟩
set_option maxRecDepth 100000 in
theorem above_nil (w : World) (u : Us) : Calls Tryz.prog 16 #[.pointer none, .agg #[.string u.t, .string u.i]] w fun e w' => e = .returned (.slice none 0 0) ∧ Low w w' := by
  go_enter Tryz.func16, Tryz.ntmps16
  go_wp2_with fail
  go_ret
  exact ⟨rfl, Low.alloc (Low.refl _) _⟩
set_option maxRecDepth 100000 in
theorem in_nil (w : World) (a b : Us) : Calls Tryz.prog 18 #[.pointer none, .agg #[.string a.t, .string a.i], .agg #[.string b.t, .string b.i]] w fun e w' => e = .returned (.bool (decide (a = b))) ∧ Low w w' := by
  have qE := fun W => us_eql a b W
  go_enter Tryz.func18, Tryz.ntmps18
  go_wp2_with fail
  go_ret
  exact ⟨rfl, Low.alloc (Low.alloc (Low.refl _) _) _⟩
set_option maxRecDepth 100000 in
set_option maxHeartbeats 1600000 in
theorem get_nil (w : World) (u : Us) : Calls Tryz.prog 12 #[.pointer none, .agg #[.string u.t, .string u.i]] w fun e w' => e = .returned (.tuple #[.agg #[.string ⟨#[]⟩, .string ⟨#[]⟩, .slice none 0 0, .int .i64 0, .bool false, .int .i64 0, .string ⟨#[]⟩, .string ⟨#[]⟩, .string ⟨#[]⟩, .slice none 0 0, .slice none 0 0], .bool false]) ∧ Low w w' := by
  obtain ⟨U0, hU0⟩ : ∃ W, W = (w.alloc (.cells #[.string u.t, .string u.i] 24)).alloc (.cells #[.string ⟨#[]⟩, .string ⟨#[]⟩, .slice none 0 0, .int .i64 0, .bool false, .int .i64 0, .string ⟨#[]⟩, .string ⟨#[]⟩, .string ⟨#[]⟩, .slice none 0 0, .slice none 0 0] 39) := ⟨_, rfl⟩
  have HU0 := Lib.hid hU0
  have L0 := Lib.hid (show Low w U0 by rw [hU0]; exact Low.alloc (Low.alloc (Low.refl w) _) _)
  have BZ := Lib.hid (show BoxAt U0 (w.heap.size + 1) [.string ⟨#[]⟩, .string ⟨#[]⟩, .slice none 0 0, .int .i64 0, .bool false, .int .i64 0, .string ⟨#[]⟩, .string ⟨#[]⟩, .string ⟨#[]⟩, .slice none 0 0, .slice none 0 0] from BoxAt.made hU0 (by simp) rfl)
  clear hU0
  go_enter Tryz.func12, Tryz.ntmps12
  go_upto_region 1 with fail
  rw [← HU0.out]
  clear HU0
  obtain ⟨c0, c1, c2, c3, c4, c5, c6, c7, c8, c9, c10⟩ := BZ.out.at11
  obtain ⟨f0, f1, f2, f3, f4, f5, f6, f7, f8, f9, f10⟩ := BZ.out.op11
  go_wp2_with fail
  refine bodyPost_ret (v := .tuple #[.agg #[.string ⟨#[]⟩, .string ⟨#[]⟩, .slice none 0 0, .int .i64 0, .bool false, .int .i64 0, .string ⟨#[]⟩, .string ⟨#[]⟩, .string ⟨#[]⟩, .slice none 0 0, .slice none 0 0], .bool false]) (by simp [results, Tryz.results12, go_sem, World.cell?_setCell_same', c0, c1, c2, c3, c4, c5, c6, c7, c8, c9, c10]; try rfl) rfl ?_
  exact ⟨rfl, low_all L0.out (Nat.le_succ _) (kept11 _ _ _ _ _ _ _ _ _ _ _ _ _)⟩
/-! ### a store's In in a region that draws its order -/
/-- The worlds that calls of a store's methods leave. -/
def ClsS (z : St) (rs : List Ee) (W W' : World) : Prop := Sto W' z rs ∧ Lw z.ma W W'
theorem ClsS.start {z : St} {rs : List Ee} {W : World} (h : Sto W z rs) : ClsS z rs W W.drew := ⟨h.low (Gr.refl W).drew.low, Lw.of_low (Gr.refl W).drew.low h.isMap⟩
theorem cls_in {z : St} {rs : List Ee} {W : World} (hg : GoodC (ensOf rs)) (a b : Us) {q : Bool} (hq : inB (ensOf rs) a b = q) (p : InC (ClsS z rs W)) :
    Calls Tryz.prog 18 #[.pointer (some ⟨z.p, 0, none⟩), .agg #[.string a.t, .string a.i], .agg #[.string b.t, .string b.i]] p.w fun e w'' => e = .returned (.bool q) ∧ ∃ p' : InC (ClsS z rs W), w'' = p'.w := by
  refine Calls.cls p ((in_c p.w z rs a b p.ok.1 hg).mono ?_)
  rintro e w' ⟨rfl, h1, h2⟩
  exact ⟨by rw [hq], h1, p.ok.2.trans h2⟩
theorem cls_cell {z : St} {rs : List Ee} {W : World} {a : Addr} {v : Value} (h : W.cell? a = some v) (p : InC (ClsS z rs W)) : p.w.cell? a = some v := p.ok.2.keep h
end Go.Proofs.YtmkillbanmbafaaGreat
