/- The reference's Check. Conditions: small types, not too many names. -/
import Derived.Test.YtnenjgngahipdaaGreatZg37
set_option linter.unusedVariables false
set_option linter.unusedSimpArgs false
set_option linter.unnecessarySimpa false
namespace Go.Proofs.YtnenjgngahipdaaGreat
open Go.RowKit
set_option linter.unusedVariables false
theorem first_nodup {α : Type} (l : List α) (nm : α → Nm) : (∀ i (hi : i < l.length), firstI l (fun t => eqN (nm l[i]).s (nm t)) = (i : Int)) ↔ (l.map nm).Nodup := by
  rw [List.nodup_iff_pairwise_ne, List.pairwise_iff_getElem]
  constructor
  · intro h i j hi hj hij e
    simp only [List.length_map] at hi hj
    simp only [List.getElem_map] at e
    rcases firstI_cases l (fun t => eqN (nm l[j]).s (nm t)) with ⟨k, hk, e1, -, h2⟩ | ⟨e1, -⟩
    · rw [h j hj] at e1
      have : k = j := by omega
      subst this
      have := h2 i hi hij
      rw [eqN_iff.2 e] at this
      simp at this
    · rw [h j hj] at e1; omega
  · intro h i hi
    refine firstI_some (f := fun t => eqN (nm l[i]).s (nm t)) hi (eqN_iff.2 rfl) fun j hj hji => ?_
    rw [Bool.eq_false_iff]
    intro e
    have := h j i (by simpa using hj) (by simpa using hi) hji
    simp only [List.getElem_map] at this
    exact this (eqN_iff.1 e)
theorem rounds_key (acs : List Ac) : rounds (acs.map Ac.r) = true ↔ ∃ i, ∃ hi : i < acs.length, ways (acs.map Ac.r) acs[i].nm acs[i].nm = true := by
  rw [rounds_iff]
  constructor
  · rintro ⟨a, hw⟩
    obtain ⟨b, s, -⟩ := hw.first
    have hk : (look (acs.map Ac.r) a).isSome = true := by
      unfold Stp nxt at s
      cases e : look (acs.map Ac.r) a with
      | none => rw [e] at s; simp at s
      | some l => rfl
    obtain ⟨p, hp, rfl⟩ := look_mem.1 hk
    obtain ⟨x, hx, rfl⟩ := List.mem_map.1 hp
    obtain ⟨i, hi, rfl⟩ := List.getElem_of_mem hx
    exact ⟨i, hi, ways_iff.2 hw⟩
  · rintro ⟨i, hi, h⟩
    exact ⟨_, ways_iff.1 h⟩
/-- What the answer is, by what is found on the way. -/
structure Ck (n : Nat) (ts : List Et) (acs : List Ac) (R : Int) : Prop where
  tw : ∀ i (hi : i < ts.length), firstI ts (fun t => eqN ts[i].nm.s t.nm) ≠ (i : Int) → R = 13
  aw : ∀ i (hi : i < acs.length), firstI acs (fun t => eqN acs[i].nm.s t.nm) ≠ (i : Int) → R = 13
  ty : (∀ i (hi : i < ts.length), firstI ts (fun t => eqN ts[i].nm.s t.nm) = (i : Int)) → (∀ i (hi : i < acs.length), firstI acs (fun t => eqN acs[i].nm.s t.nm) = (i : Int)) → ∀ i (hi : i < ts.length), typeB (ts.map Et.r) n ts[i] = false → R = 40
  ac : (∀ i (hi : i < ts.length), firstI ts (fun t => eqN ts[i].nm.s t.nm) = (i : Int)) → (∀ i (hi : i < acs.length), firstI acs (fun t => eqN acs[i].nm.s t.nm) = (i : Int)) → ∀ i (hi : i < acs.length), actB (ts.map Et.r) (acs.map Ac.r) n acs[i] = false → R = 40
  cy : (∀ i (hi : i < ts.length), firstI ts (fun t => eqN ts[i].nm.s t.nm) = (i : Int)) → (∀ i (hi : i < acs.length), firstI acs (fun t => eqN acs[i].nm.s t.nm) = (i : Int)) → (∀ i (hi : i < ts.length), typeB (ts.map Et.r) n ts[i] = true) → (∀ i (hi : i < acs.length), actB (ts.map Et.r) (acs.map Ac.r) n acs[i] = true) → ∀ i (hi : i < acs.length), ways (acs.map Ac.r) acs[i].nm acs[i].nm = true → R = 21
  ok : (∀ i (hi : i < ts.length), firstI ts (fun t => eqN ts[i].nm.s t.nm) = (i : Int)) → (∀ i (hi : i < acs.length), firstI acs (fun t => eqN acs[i].nm.s t.nm) = (i : Int)) → (∀ i (hi : i < ts.length), typeB (ts.map Et.r) n ts[i] = true) → (∀ i (hi : i < acs.length), actB (ts.map Et.r) (acs.map Ac.r) n acs[i] = true) → (∀ i (hi : i < acs.length), ways (acs.map Ac.r) acs[i].nm acs[i].nm = false) → R = 0
theorem ck_of (n : Nat) (ts : List Et) (acs : List Ac) : Ck n ts acs (chkS n ts acs) := by
  have nt := first_nodup ts Et.nm
  have na := first_nodup acs Ac.nm
  have al : (ts.all (typeB (ts.map Et.r) n)) = true ↔ ∀ i (hi : i < ts.length), typeB (ts.map Et.r) n ts[i] = true := by
    rw [List.all_eq_true]
    exact ⟨fun h i hi => h _ (List.getElem_mem hi), fun h x hx => by obtain ⟨i, hi, rfl⟩ := List.getElem_of_mem hx; exact h i hi⟩
  have bl : (acs.all (actB (ts.map Et.r) (acs.map Ac.r) n)) = true ↔ ∀ i (hi : i < acs.length), actB (ts.map Et.r) (acs.map Ac.r) n acs[i] = true := by
    rw [List.all_eq_true]
    exact ⟨fun h i hi => h _ (List.getElem_mem hi), fun h x hx => by obtain ⟨i, hi, rfl⟩ := List.getElem_of_mem hx; exact h i hi⟩
  refine ⟨fun i hi h => ?_, fun i hi h => ?_, fun h1 h2 i hi h => ?_, fun h1 h2 i hi h => ?_, fun h1 h2 h3 h4 i hi h => ?_, fun h1 h2 h3 h4 h => ?_⟩
  · unfold chkS; rw [if_pos (.inl fun e => h (nt.2 e i hi))]
  · unfold chkS; rw [if_pos (.inr fun e => h (na.2 e i hi))]
  · unfold chkS
    rw [if_neg (by rw [not_or]; exact ⟨fun e => e (nt.1 h1), fun e => e (na.1 h2)⟩), if_pos]
    have : ts.all (typeB (ts.map Et.r) n) = false := by
      rw [Bool.eq_false_iff]; intro e; have := al.1 e i hi; rw [h] at this; simp at this
    rw [this]; rfl
  · unfold chkS
    rw [if_neg (by rw [not_or]; exact ⟨fun e => e (nt.1 h1), fun e => e (na.1 h2)⟩), if_pos]
    have : acs.all (actB (ts.map Et.r) (acs.map Ac.r) n) = false := by
      rw [Bool.eq_false_iff]; intro e; have := bl.1 e i hi; rw [h] at this; simp at this
    rw [this]; simp
  · unfold chkS
    rw [if_neg (by rw [not_or]; exact ⟨fun e => e (nt.1 h1), fun e => e (na.1 h2)⟩), al.2 h3, bl.2 h4, if_neg (by simp), if_pos ((rounds_key acs).2 ⟨i, hi, h⟩)]
  · unfold chkS
    rw [if_neg (by rw [not_or]; exact ⟨fun e => e (nt.1 h1), fun e => e (na.1 h2)⟩), al.2 h3, bl.2 h4, if_neg (by simp), if_neg]
    intro e
    obtain ⟨i, hi, h5⟩ := (rounds_key acs).1 e
    rw [h i hi] at h5; simp at h5
set_option maxRecDepth 100000 in
set_option maxHeartbeats 6400000 in
theorem rcheck12_c (n : Nat) (hn : n ≤ 100000) (ts : List Et) (acs : List Ac) (w : World) (vt va : Value) (hg2 : FewG (acs.map Ac.r)) (h : EtsAt n w ts vt) (h2 : AcsAt n w acs va) :
    Calls Tryz.prog 18 #[.agg #[vt, va]] w fun e w' => e = .returned (.int .i64 (chkS n ts acs)) ∧ Low w w' := by
  obtain ⟨p, c, rfl, z1, z2⟩ := RowB.sl h
  obtain ⟨p', c', rfl, z3, z4⟩ := RowB.sl h2
  obtain ⟨U, hU⟩ : ∃ U, U = w.alloc (.cells #[.slice p ts.length c, .slice p' acs.length c'] 46) := ⟨_, rfl⟩
  have LU := Lib.hid (show Low w U by rw [hU]; exact low_new (Low.refl w) _)
  have HB := Lib.hid fun (V : World) (hl : Low U V) => box2 (w := w) (wr := V) (c0 := .slice p ts.length c) (c1 := .slice p' acs.length c') (t := 46) (by rw [← hU]; exact hl)
  have HU := Lib.hid hU
  have HT := Lib.hid h
  have HA := Lib.hid h2
  have HG2 := Lib.hid hg2
  have HN := Lib.hid hn
  have HTC := Lib.hid fun (x : ByteArray) (V : World) (hl : Low U V) => rtype_c n ts x V _ (.slice p' acs.length c') (h.low (LU.out.trans hl))
  have HAC := Lib.hid fun (x : ByteArray) (V : World) (hl : Low U V) => ract_c n acs x V (.slice p ts.length c) _ (h2.low (LU.out.trans hl))
  obtain ⟨R, hR⟩ : ∃ R, R = chkS n ts acs := ⟨_, rfl⟩
  have CK := Lib.hid (show Ck n ts acs R by rw [hR]; exact ck_of n ts acs)
  rw [← hR]
  clear hg2 h h2 hU hR hn
  go_enter Tryz.func18, Tryz.ntmps18
  go_upto_region 1 with fail
  rw [← HU.out]
  go_wp2_with fail
  go_loopg [3] ts.length (fun gk vi wr => ∃ i : Nat, vi = .int .i64 (i : Int) ∧ i ≤ ts.length ∧ ts.length - i ≤ gk ∧ Hid (Low U wr) ∧ Hid (∀ j (hj : j < ts.length), j < i → firstI ts (fun t => eqN ts[j].nm.s t.nm) = (j : Int)))
  case atStart => exact ⟨0, rfl, Nat.zero_le _, Nat.le_refl _, Lib.hid (Low.refl U), Lib.hid fun j hj h => absurd h (Nat.not_lt_zero _)⟩
  case round =>
    obtain ⟨i, rfl, hi, hg, G, K⟩ := hrel
    obtain ⟨b0, b1⟩ := HB.out wr G.out
    by_cases hlt : i < ts.length
    · have zl : (i : Int) < (ts.length : Int) := by omega
      obtain ⟨b, o, pi, ci, pa, ca, rfl, e0, -, -, -, -, -, -, -, -⟩ := EtsAt.at (EtsAt.low HT.out (LU.out.trans G.out)) hlt
      obtain ⟨y, hy⟩ : ∃ y, y = ts[i].nm := ⟨_, rfl⟩
      rw [← hy] at e0
      obtain ⟨z, hz⟩ : ∃ z, z = firstI ts (fun t => eqN y.s t.nm) := ⟨_, rfl⟩
      have HC := Lib.hid fun (V : World) (hl : Low wr V) => HTC.out y.s V (G.out.trans hl)
      rw [← hz] at HC
      have HZ := Lib.hid (show z = firstI ts (fun t => eqN ts[i].nm.s t.nm) by rw [hz, hy])
      have d0 := fun q : InL wr => q.cell e0
      have b0 := fun q : InL wr => q.cell b0
      have b1 := fun q : InL wr => q.cell b1
      have HCQ := Lib.hid fun q : InL wr => Calls.low q (HC.out q.w q.ok)
      haveI := InL.some wr
      clear hy hz HC e0
      go_upto_region 4 with fail
      refine wp_region_low mixedT (by kernel_rfl) ?_
      repeat (go_big_quiet_step (with_reducible exact HCQ.out _))
      refine wpQuiet_nil ?_
      rintro W8 ⟨p8, hW8⟩
      have L8 := Lib.hid (show Low U W8 by rw [hW8]; exact G.out.trans p8.ok)
      clear hW8 p8 HCQ d0 b0 b1 this
      by_cases h0 : z = (i : Int)
      · have HZ2 := Lib.hid (show firstI ts (fun t => eqN ts[i].nm.s t.nm) = (i : Int) by rw [← HZ.out]; exact h0)
        have zz : (z == (i : Int)) = true := by simpa using h0
        go_wp2_with fail
        go_roundg (ts.length - (i + 1))
        case measure => omega
        case rel =>
          refine ⟨i + 1, by go_num, by omega, by omega, L8, Lib.hid fun j hj hji => ?_⟩
          rcases Nat.lt_succ_iff_lt_or_eq.1 hji with h | rfl
          · exact K.out j hj h
          · exact HZ2.out
      · have HF := Lib.hid (CK.out.tw i hlt (by rw [← HZ.out]; exact h0))
        have zz : (z == (i : Int)) = false := by simpa using h0
        go_wp2_with fail
        go_ret
        exact ⟨retI HF.out.symm, LU.out.trans L8.out⟩
    · have zl : ¬ (i : Int) < (ts.length : Int) := by omega
      have KT := Lib.hid (show ∀ j (hj : j < ts.length), firstI ts (fun t => eqN ts[j].nm.s t.nm) = (j : Int) from fun j hj => K.out j hj (by omega))
      clear K
      go_wp2_with fail
      clear b0 b1 zl hlt hi hg
      go_loopg [4] acs.length (fun gk vi wr => ∃ i : Nat, vi = .int .i64 (i : Int) ∧ i ≤ acs.length ∧ acs.length - i ≤ gk ∧ Hid (Low U wr) ∧ Hid (∀ j (hj : j < acs.length), j < i → firstI acs (fun t => eqN acs[j].nm.s t.nm) = (j : Int)))
      case atStart => exact ⟨0, rfl, Nat.zero_le _, Nat.le_refl _, G, Lib.hid fun j hj h => absurd h (Nat.not_lt_zero _)⟩
      case round =>
        clear G
        obtain ⟨i, rfl, hi, hg, G, K⟩ := hrel
        obtain ⟨b0, b1⟩ := HB.out wr G.out
        by_cases hlt : i < acs.length
        · have zl : (i : Int) < (acs.length : Int) := by omega
          obtain ⟨b, o, pi, ci, pp, cp, pr, cr, pa, ca, rfl, e0, -, -, -, -, -, -, -, -, -, -, -, -⟩ := AcsAt.at (AcsAt.low HA.out (LU.out.trans G.out)) hlt
          obtain ⟨y, hy⟩ : ∃ y, y = acs[i].nm := ⟨_, rfl⟩
          rw [← hy] at e0
          obtain ⟨z, hz⟩ : ∃ z, z = firstI acs (fun t => eqN y.s t.nm) := ⟨_, rfl⟩
          have HC := Lib.hid fun (V : World) (hl : Low wr V) => HAC.out y.s V (G.out.trans hl)
          rw [← hz] at HC
          have HZ := Lib.hid (show z = firstI acs (fun t => eqN acs[i].nm.s t.nm) by rw [hz, hy])
          have d0 := fun q : InL wr => q.cell e0
          have b0 := fun q : InL wr => q.cell b0
          have b1 := fun q : InL wr => q.cell b1
          have HCQ := Lib.hid fun q : InL wr => Calls.low q (HC.out q.w q.ok)
          haveI := InL.some wr
          clear hy hz HC e0
          go_upto_region 9 with fail
          refine wp_region_low mixedT (by kernel_rfl) ?_
          repeat (go_big_quiet_step (with_reducible exact HCQ.out _))
          refine wpQuiet_nil ?_
          rintro W8 ⟨p8, hW8⟩
          have L8 := Lib.hid (show Low U W8 by rw [hW8]; exact G.out.trans p8.ok)
          clear hW8 p8 HCQ d0 b0 b1 this
          by_cases h0 : z = (i : Int)
          · have HZ2 := Lib.hid (show firstI acs (fun t => eqN acs[i].nm.s t.nm) = (i : Int) by rw [← HZ.out]; exact h0)
            have zz : (z == (i : Int)) = true := by simpa using h0
            go_wp2_with fail
            go_roundg (acs.length - (i + 1))
            case measure => omega
            case rel =>
              refine ⟨i + 1, by go_num, by omega, by omega, L8, Lib.hid fun j hj hji => ?_⟩
              rcases Nat.lt_succ_iff_lt_or_eq.1 hji with h | rfl
              · exact K.out j hj h
              · exact HZ2.out
          · have HF := Lib.hid (CK.out.aw i hlt (by rw [← HZ.out]; exact h0))
            have zz : (z == (i : Int)) = false := by simpa using h0
            go_wp2_with fail
            go_ret
            exact ⟨retI HF.out.symm, LU.out.trans L8.out⟩
        · have zl : ¬ (i : Int) < (acs.length : Int) := by omega
          have KA := Lib.hid (show ∀ j (hj : j < acs.length), firstI acs (fun t => eqN acs[j].nm.s t.nm) = (j : Int) from fun j hj => K.out j hj (by omega))
          clear K
          go_wp2_with fail
          clear b0 b1 zl hlt hi hg
          go_loopg [5] ts.length (fun gk vi wr => ∃ i : Nat, vi = .int .i64 (i : Int) ∧ i ≤ ts.length ∧ ts.length - i ≤ gk ∧ Hid (Low U wr) ∧ Hid (∀ j (hj : j < ts.length), j < i → typeB (ts.map Et.r) n ts[j] = true))
          case atStart => exact ⟨0, rfl, Nat.zero_le _, Nat.le_refl _, G, Lib.hid fun j hj h => absurd h (Nat.not_lt_zero _)⟩
          case round =>
            clear G
            obtain ⟨i, rfl, hi, hg, G, K⟩ := hrel
            obtain ⟨b0, b1⟩ := HB.out wr G.out
            by_cases hlt : i < ts.length
            · have zl : (i : Int) < (ts.length : Int) := by omega
              obtain ⟨b, o, pi, ci, pa, ca, hpp, e0, e1, e2, hns, hra, y1, y2, y3, y4⟩ := EtsAt.at (EtsAt.low HT.out (LU.out.trans G.out)) hlt
              have HNS := Lib.hid hns
              have HRA := Lib.hid hra
              obtain ⟨t, ht⟩ : ∃ t, t = ts[i] := ⟨_, rfl⟩
              rw [← ht] at e0 e1 e2 y1 y3 HNS HRA
              have HTT := Lib.hid ht
              clear hns hra ht
              obtain ⟨W1, hW1⟩ : ∃ W1, W1 = wr.alloc (.cells #[.string t.nm.s, .slice pi t.ins.length ci, .slice pa t.ats.length ca] 66) := ⟨_, rfl⟩
              have LW1 := Lib.hid (show Low wr W1 by rw [hW1]; exact low_new (Low.refl _) _)
              have HX := Lib.hid fun (V : World) (l2 : Low W1 V) => box3 (w := wr) (wr := V) (c0 := .string t.nm.s) (c1 := .slice pi t.ins.length ci) (c2 := .slice pa t.ats.length ca) (t := 66) (by rw [← hW1]; exact l2)
              have HP := Lib.hid (refPath_c t.nm.s t.nm.hs W1)
              have HI := Lib.hid (rtypes_c n ts t.ins W1 (.slice p ts.length c) (.slice p' acs.length c') _ (HT.out.low (LU.out.trans (G.out.trans LW1.out))) (HNS.out.low LW1.out))
              have HW := Lib.hid fun (V : World) (l2 : Low W1 V) => rrow_c n ts n HN.out t.ats V (.slice p ts.length c) (.slice p' acs.length c') _ (HT.out.low (LU.out.trans (G.out.trans (LW1.out.trans l2)))) (RAs.low HRA.out (LW1.out.trans l2))
              have HW1 := Lib.hid hW1
              obtain ⟨q1, hq1⟩ : ∃ q, q = pathB t.nm.s.data.toList := ⟨_, rfl⟩
              obtain ⟨q2, hq2⟩ : ∃ q, q = t.ins.all (knows (ts.map Et.r)) := ⟨_, rfl⟩
              obtain ⟨q3, hq3⟩ : ∃ q, q = rowB (nmB (ts.map Et.r)) n t.ats := ⟨_, rfl⟩
              rw [← hq1] at HP
              rw [← hq2] at HI
              rw [← hq3] at HW
              have HTB := Lib.hid (show typeB (ts.map Et.r) n ts[i] = (q1 && (!decide (t.nm.s = actS) && (q2 && q3))) by rw [← HTT.out, hq1, hq2, hq3]; rfl)
              have HCK := Lib.hid (CK.out.ty KT.out KA.out i hlt)
              clear hW1 hq1 hq2 hq3
              subst hpp
              go_upto_region 15 with fail
              rw [← HW1.out]
              clear e0 e1 e2
              clear b0 b1
              obtain ⟨b0, b1⟩ := HB.out W1 (G.out.trans LW1.out)
              obtain ⟨x0, x1, x2⟩ := HX.out W1 (Low.refl _)
              go_wp2_with fail
              refine HP.out.mono ?_
              rintro e w2 ⟨rfl, rfl⟩
              go_wp2_with fail
              refine HI.out.mono ?_
              rintro e w3 ⟨rfl, l3⟩
              have L3 := Lib.hid l3
              have HWW := Lib.hid (HW.out w3 l3)
              clear l3 b0 b1 x0 x1 x2
              obtain ⟨b0, b1⟩ := HB.out w3 (G.out.trans (LW1.out.trans L3.out))
              obtain ⟨x0, x1, x2⟩ := HX.out w3 L3.out
              go_upto_region 17 with fail
              go_wp2_with fail
              refine HWW.out.mono ?_
              rintro e w4 ⟨rfl, l4⟩
              have L4 := Lib.hid (G.out.trans (LW1.out.trans (L3.out.trans l4)))
              clear b0 b1 x0 x1 x2
              obtain ⟨b0, b1⟩ := HB.out w4 L4.out
              obtain ⟨x0, x1, x2⟩ := HX.out w4 (L3.out.trans l4)
              clear l4 HW HWW HI HP
              cases q1 with
              | false =>
                have HF := Lib.hid (HCK.out (by rw [HTB.out]; rfl))
                go_wp2_with fail
                go_ret
                exact ⟨retI HF.out.symm, LU.out.trans L4.out⟩
              | true =>
                by_cases he : t.nm.s = actS
                · have HF := Lib.hid (HCK.out (by rw [HTB.out, decide_eq_true he]; rfl))
                  rw [he] at x0
                  unfold actS at x0
                  clear he
                  go_wp2_with fail
                  go_ret
                  exact ⟨retI HF.out.symm, LU.out.trans L4.out⟩
                · have HTB2 := Lib.hid (show typeB (ts.map Et.r) n ts[i] = (q2 && q3) by rw [HTB.out, decide_eq_false he]; rfl)
                  have he2 : ¬ t.nm.s.toList = [65, 99, 116, 105, 111, 110] := fun h => he (tl_inj.1 (h.trans act_l.symm))
                  have he3 : (t.nm.s.toList == [65, 99, 116, 105, 111, 110]) = false := by simpa using he2
                  clear he
                  cases q2 with
                  | false =>
                    have HF := Lib.hid (HCK.out (by rw [HTB2.out]; rfl))
                    go_wp2_with fail
                    go_ret
                    exact ⟨retI HF.out.symm, LU.out.trans L4.out⟩
                  | true =>
                    cases q3 with
                    | false =>
                      have HF := Lib.hid (HCK.out (by rw [HTB2.out]; rfl))
                      go_wp2_with fail
                      go_ret
                      exact ⟨retI HF.out.symm, LU.out.trans L4.out⟩
                    | true =>
                      have HT1 := Lib.hid (show typeB (ts.map Et.r) n ts[i] = true by rw [HTB2.out]; rfl)
                      go_wp2_with fail
                      go_roundg (ts.length - (i + 1))
                      case measure => omega
                      case rel =>
                        refine ⟨i + 1, by go_num, by omega, by omega, L4, Lib.hid fun j hj hji => ?_⟩
                        rcases Nat.lt_succ_iff_lt_or_eq.1 hji with h | rfl
                        · exact K.out j hj h
                        · exact HT1.out
            · have zl : ¬ (i : Int) < (ts.length : Int) := by omega
              have KY := Lib.hid (show ∀ j (hj : j < ts.length), typeB (ts.map Et.r) n ts[j] = true from fun j hj => K.out j hj (by omega))
              clear K
              go_wp2_with fail
              clear b0 b1 zl hlt hi hg
              go_loopg [10] acs.length (fun gk vi wr => ∃ i : Nat, vi = .int .i64 (i : Int) ∧ i ≤ acs.length ∧ acs.length - i ≤ gk ∧ Hid (Low U wr) ∧ Hid (∀ j (hj : j < acs.length), j < i → actB (ts.map Et.r) (acs.map Ac.r) n acs[j] = true))
              case atStart => exact ⟨0, rfl, Nat.zero_le _, Nat.le_refl _, G, Lib.hid fun j hj h => absurd h (Nat.not_lt_zero _)⟩
              case round =>
                rename World => wo
                clear G
                obtain ⟨i, rfl, hi, hg, G, K⟩ := hrel
                obtain ⟨b0, b1⟩ := HB.out wo G.out
                by_cases hlt : i < acs.length
                · have zl : (i : Int) < (acs.length : Int) := by omega
                  obtain ⟨b, o, pi, ci, pp, cp, pr, cr, pa, ca, hpp, e0, e1, e2, e3, e4, hns, hps, hrs, hra, ⟨y1, y2⟩, ⟨y3, y4⟩, ⟨y5, y6⟩, ⟨y7, y8⟩⟩ := AcsAt.at (AcsAt.low HA.out (LU.out.trans G.out)) hlt
                  have HNS := Lib.hid hns
                  have HPS := Lib.hid hps
                  have HRS := Lib.hid hrs
                  have HRA := Lib.hid hra
                  obtain ⟨t, ht⟩ : ∃ t, t = acs[i] := ⟨_, rfl⟩
                  rw [← ht] at e0 e1 e2 e3 e4 y1 y3 y5 y7 HNS HPS HRS HRA
                  have HTT := Lib.hid ht
                  clear hns hps hrs hra ht
                  obtain ⟨W1, hW1⟩ : ∃ W1, W1 = wo.alloc (.cells #[.string t.nm.s, .slice pi t.ins.length ci, .slice pp t.ps.length cp, .slice pr t.rs.length cr, .slice pa t.ats.length ca] 68) := ⟨_, rfl⟩
                  have LW1 := Lib.hid (show Low wo W1 by rw [hW1]; exact low_new (Low.refl _) _)
                  have HX := Lib.hid fun (V : World) (l2 : Low W1 V) => box5 (w := wo) (wr := V) (c0 := .string t.nm.s) (c1 := .slice pi t.ins.length ci) (c2 := .slice pp t.ps.length cp) (c3 := .slice pr t.rs.length cr) (c4 := .slice pa t.ats.length ca) (t := 68) (by rw [← hW1]; exact l2)
                  have HLW := Lib.hid (show Low w W1 from LU.out.trans (G.out.trans LW1.out))
                  have HP := Lib.hid fun (V : World) (l2 : Low W1 V) => rtypes_c n ts t.ps V (.slice p ts.length c) (.slice p' acs.length c') _ (HT.out.low (HLW.out.trans l2)) (HPS.out.low (LW1.out.trans l2))
                  have HI := Lib.hid fun (V : World) (l2 : Low W1 V) => rtypes_c n ts t.rs V (.slice p ts.length c) (.slice p' acs.length c') _ (HT.out.low (HLW.out.trans l2)) (HRS.out.low (LW1.out.trans l2))
                  have HW := Lib.hid fun (V : World) (l2 : Low W1 V) => rrow_c n ts n HN.out t.ats V (.slice p ts.length c) (.slice p' acs.length c') _ (HT.out.low (HLW.out.trans l2)) (RAs.low HRA.out (LW1.out.trans l2))
                  have HW1 := Lib.hid hW1
                  obtain ⟨q1, hq1⟩ : ∃ q, q = t.ps.all (knows (ts.map Et.r)) := ⟨_, rfl⟩
                  obtain ⟨q2, hq2⟩ : ∃ q, q = t.rs.all (knows (ts.map Et.r)) := ⟨_, rfl⟩
                  obtain ⟨q3, hq3⟩ : ∃ q, q = rowB (nmB (ts.map Et.r)) n t.ats := ⟨_, rfl⟩
                  rw [← hq1] at HP
                  rw [← hq2] at HI
                  rw [← hq3] at HW
                  have HTB := Lib.hid (show actB (ts.map Et.r) (acs.map Ac.r) n acs[i] = (t.ins.all (knows (acs.map Ac.r)) && (q1 && (q2 && q3))) by rw [← HTT.out, hq1, hq2, hq3]; rfl)
                  have HCK := Lib.hid (CK.out.ac KT.out KA.out i hlt)
                  clear hW1 hq1 hq2 hq3
                  subst hpp
                  go_upto_region 24 with fail
                  rw [← HW1.out]
                  clear e0 e1 e2 e3 e4 b0 b1 HRS HPS HRA
                  go_wp2_with fail
                  go_loopg [12] t.ins.length (fun gj vj wi => ∃ j : Nat, vj = .int .i64 (j : Int) ∧ j ≤ t.ins.length ∧ t.ins.length - j ≤ gj ∧ Hid (Low W1 wi) ∧ Hid (∀ k (hk : k < t.ins.length), k < j → knows (acs.map Ac.r) t.ins[k] = true))
                  case atStart => exact ⟨0, rfl, Nat.zero_le _, Nat.le_refl _, Lib.hid (Low.refl W1), Lib.hid fun j hj h => absurd h (Nat.not_lt_zero _)⟩
                  case round =>
                    obtain ⟨j, rfl, hj, hgj, GI, KI⟩ := hrel
                    obtain ⟨b0, b1⟩ := HB.out wr (G.out.trans (LW1.out.trans GI.out))
                    obtain ⟨x0, x1, x2, x3, x4⟩ := HX.out wr GI.out
                    by_cases hjt : j < t.ins.length
                    · have zj : (j : Int) < (t.ins.length : Int) := by omega
                      obtain ⟨nb, no, rfl, f0⟩ := (HNS.out.low (LW1.out.trans GI.out)).at hjt
                      obtain ⟨y, hy⟩ : ∃ y, y = t.ins[j] := ⟨_, rfl⟩
                      rw [← hy] at f0
                      obtain ⟨z, hz⟩ : ∃ z, z = firstI acs (fun t => eqN y.s t.nm) := ⟨_, rfl⟩
                      have HC := Lib.hid fun (V : World) (hl : Low wr V) => HAC.out y.s V (G.out.trans (LW1.out.trans (GI.out.trans hl)))
                      rw [← hz] at HC
                      have HK := Lib.hid (show knows (acs.map Ac.r) t.ins[j] = decide (0 ≤ z) by rw [← hy, knowsA, hz])
                      have d0 := fun q : InL wr => q.cell f0
                      have b0 := fun q : InL wr => q.cell b0
                      have b1 := fun q : InL wr => q.cell b1
                      have x1 := fun q : InL wr => q.cell x1
                      have HCQ := Lib.hid fun q : InL wr => Calls.low q (HC.out q.w q.ok)
                      haveI := InL.some wr
                      clear hy hz HC f0 x0 x2 x3 x4
                      go_upto_region 27 with fail
                      refine wp_region_low mixedT (by kernel_rfl) ?_
                      repeat (go_big_quiet_step (with_reducible exact HCQ.out _))
                      refine wpQuiet_nil ?_
                      rintro W8 ⟨p8, hW8⟩
                      have L8 := Lib.hid (show Low W1 W8 by rw [hW8]; exact GI.out.trans p8.ok)
                      clear hW8 p8 HCQ d0 b0 b1 x1 this
                      by_cases h0 : z < 0
                      · have HF := Lib.hid (HCK.out (by
                          rw [HTB.out, Bool.and_eq_false_iff]
                          left
                          rw [List.all_eq_false]
                          exact ⟨_, List.getElem_mem hjt, by rw [HK.out, decide_eq_false (by omega)]; simp⟩))
                        go_wp2_with fail
                        go_ret
                        exact ⟨retI HF.out.symm, LU.out.trans (G.out.trans (LW1.out.trans L8.out))⟩
                      · have HQ := Lib.hid (show knows (acs.map Ac.r) t.ins[j] = true by rw [HK.out, decide_eq_true (by omega)])
                        go_wp2_with fail
                        go_roundg (t.ins.length - (j + 1))
                        case measure => omega
                        case rel =>
                          refine ⟨j + 1, by go_num, by omega, by omega, L8, Lib.hid fun k hk hkj => ?_⟩
                          rcases Nat.lt_succ_iff_lt_or_eq.1 hkj with h | rfl
                          · exact KI.out k hk h
                          · exact HQ.out
                    · have zj : ¬ (j : Int) < (t.ins.length : Int) := by omega
                      have HTI := Lib.hid (show t.ins.all (knows (acs.map Ac.r)) = true by
                        rw [List.all_eq_true]
                        intro x hx
                        obtain ⟨k, hk, rfl⟩ := List.getElem_of_mem hx
                        exact KI.out k hk (by omega))
                      have HTB2 := Lib.hid (show actB (ts.map Et.r) (acs.map Ac.r) n acs[i] = (q1 && (q2 && q3)) by rw [HTB.out, HTI.out]; rfl)
                      have HPP := Lib.hid (HP.out wr GI.out)
                      clear KI HTI HTB
                      go_wp2_with fail
                      refine HPP.out.mono ?_
                      rintro e w3 ⟨rfl, l3⟩
                      have L3 := Lib.hid (GI.out.trans l3)
                      have HII := Lib.hid (HI.out w3 L3.out)
                      clear l3 b0 b1 x0 x1 x2 x3 x4 HPP HP HI
                      obtain ⟨b0, b1⟩ := HB.out w3 (G.out.trans (LW1.out.trans L3.out))
                      obtain ⟨x0, x1, x2, x3, x4⟩ := HX.out w3 L3.out
                      go_upto_region 30 with fail
                      go_wp2_with fail
                      refine HII.out.mono ?_
                      rintro e w4 ⟨rfl, l4⟩
                      have L4 := Lib.hid (L3.out.trans l4)
                      have HWW := Lib.hid (HW.out w4 L4.out)
                      clear l4 b0 b1 x0 x1 x2 x3 x4 HII HW
                      obtain ⟨b0, b1⟩ := HB.out w4 (G.out.trans (LW1.out.trans L4.out))
                      obtain ⟨x0, x1, x2, x3, x4⟩ := HX.out w4 L4.out
                      go_upto_region 31 with fail
                      go_wp2_with fail
                      refine HWW.out.mono ?_
                      rintro e w5 ⟨rfl, l5⟩
                      have L5 := Lib.hid (G.out.trans (LW1.out.trans (L4.out.trans l5)))
                      clear l5 b0 b1 x0 x1 x2 x3 x4 HWW
                      obtain ⟨b0, b1⟩ := HB.out w5 L5.out
                      cases q1 with
                      | false =>
                        have HF := Lib.hid (HCK.out (by rw [HTB2.out]; rfl))
                        go_wp2_with fail
                        go_ret
                        exact ⟨retI HF.out.symm, LU.out.trans L5.out⟩
                      | true =>
                        cases q2 with
                        | false =>
                          have HF := Lib.hid (HCK.out (by rw [HTB2.out]; rfl))
                          go_wp2_with fail
                          go_ret
                          exact ⟨retI HF.out.symm, LU.out.trans L5.out⟩
                        | true =>
                          cases q3 with
                          | false =>
                            have HF := Lib.hid (HCK.out (by rw [HTB2.out]; rfl))
                            go_wp2_with fail
                            go_ret
                            exact ⟨retI HF.out.symm, LU.out.trans L5.out⟩
                          | true =>
                            have HT1 := Lib.hid (show actB (ts.map Et.r) (acs.map Ac.r) n acs[i] = true by rw [HTB2.out]; rfl)
                            go_wp2_with fail
                            go_roundg (acs.length - (i + 1))
                            case measure => omega
                            case rel =>
                              refine ⟨i + 1, by go_num, by omega, by omega, L5, Lib.hid fun j hj hji => ?_⟩
                              rcases Nat.lt_succ_iff_lt_or_eq.1 hji with h | rfl
                              · exact K.out j hj h
                              · exact HT1.out
                · have zl : ¬ (i : Int) < (acs.length : Int) := by omega
                  have KB := Lib.hid (show ∀ j (hj : j < acs.length), actB (ts.map Et.r) (acs.map Ac.r) n acs[j] = true from fun j hj => K.out j hj (by omega))
                  clear K
                  go_wp2_with fail
                  clear b0 b1 zl hlt hi hg
                  go_loopg [16] acs.length (fun gk vi wr => ∃ i : Nat, vi = .int .i64 (i : Int) ∧ i ≤ acs.length ∧ acs.length - i ≤ gk ∧ Hid (Low U wr) ∧ Hid (∀ j (hj : j < acs.length), j < i → ways (acs.map Ac.r) acs[j].nm acs[j].nm = false))
                  case atStart => exact ⟨0, rfl, Nat.zero_le _, Nat.le_refl _, G, Lib.hid fun j hj h => absurd h (Nat.not_lt_zero _)⟩
                  case round =>
                    clear G
                    obtain ⟨i, rfl, hi, hg, G, K⟩ := hrel
                    obtain ⟨b0, b1⟩ := HB.out wr G.out
                    by_cases hlt : i < acs.length
                    · have zl : (i : Int) < (acs.length : Int) := by omega
                      obtain ⟨b, o, pi, ci, pp, cp, pr, cr, pa, ca, hpp, e0, -, -, -, -, -, -, -, -, -, -, -, -⟩ := AcsAt.at (AcsAt.low HA.out (LU.out.trans G.out)) hlt
                      obtain ⟨y, hy⟩ : ∃ y, y = acs[i].nm := ⟨_, rfl⟩
                      rw [← hy] at e0
                      obtain ⟨z, hz⟩ : ∃ z, z = ways (acs.map Ac.r) y y := ⟨_, rfl⟩
                      have HC := Lib.hid fun (V : World) (hl : Low wr V) => rleads_c (acs.map Ac.r) true y y V (.slice p ts.length c) (.slice p' acs.length c') HG2.out fun x => rnextA n acs x V _ _ (HA.out.low (LU.out.trans (G.out.trans hl)))
                      rw [← hz] at HC
                      have HZ := Lib.hid (show ways (acs.map Ac.r) acs[i].nm acs[i].nm = z by rw [hz, hy])
                      subst hpp
                      have d0 := fun q : InL wr => q.cell e0
                      have b0 := fun q : InL wr => q.cell b0
                      have b1 := fun q : InL wr => q.cell b1
                      have HCQ := Lib.hid fun q : InL wr => Calls.low q (HC.out q.w q.ok)
                      haveI := InL.some wr
                      clear hy hz HC e0
                      go_upto_region 37 with fail
                      refine wp_region_low mixedT (by kernel_rfl) ?_
                      repeat (go_big_quiet_step (with_reducible exact HCQ.out _))
                      refine wpQuiet_nil ?_
                      rintro W8 ⟨p8, hW8⟩
                      have L8 := Lib.hid (show Low U W8 by rw [hW8]; exact G.out.trans p8.ok)
                      clear hW8 p8 HCQ d0 b0 b1 this
                      cases z with
                      | true =>
                        have HF := Lib.hid (CK.out.cy KT.out KA.out KY.out KB.out i hlt HZ.out)
                        go_wp2_with fail
                        go_ret
                        exact ⟨retI HF.out.symm, LU.out.trans L8.out⟩
                      | false =>
                        go_wp2_with fail
                        go_roundg (acs.length - (i + 1))
                        case measure => omega
                        case rel =>
                          refine ⟨i + 1, by go_num, by omega, by omega, L8, Lib.hid fun j hj hji => ?_⟩
                          rcases Nat.lt_succ_iff_lt_or_eq.1 hji with h | rfl
                          · exact K.out j hj h
                          · exact HZ.out
                    · have zl : ¬ (i : Int) < (acs.length : Int) := by omega
                      have HF := Lib.hid (CK.out.ok KT.out KA.out KY.out KB.out fun j hj => K.out j hj (by omega))
                      go_wp2_with fail
                      go_ret
                      exact ⟨retI HF.out.symm, LU.out.trans G.out⟩
end Go.Proofs.YtnenjgngahipdaaGreat
