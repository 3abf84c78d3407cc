/- The reference's Request: does a request conform? Condition: rows of a value are short; the types may be. -/
import Derived.Test.YtnenjgngahipdaaGreatZg21
import Derived.Test.YtnenjgngahipdaaGreatZCfR
import Derived.Test.YtnenjgngahipdaaGreatZg36
import Derived.Test.YtnenjgngahipdaaGreatZg35
set_option linter.unusedVariables false
set_option linter.unusedSimpArgs false
set_option linter.unnecessarySimpa false
namespace Go.Proofs.YtnenjgngahipdaaGreat
open Go.RowKit
set_option linter.unusedVariables false
set_option maxHeartbeats 12800000 in
set_option maxRecDepth 100000 in
theorem rrequest_c (n : Nat) (acs : List Ac) (pt pi at' ai rt ri : ByteArray) (v : V) (w : World) (vt va it nm : Value) (hvt : ∃ p m c, vt = .slice p m c) (h : AcsAt n w acs va) (hs : Smv v) (hdp : dep v ≤ 1000000) (hm : ∀ a ∈ acs, mayB (n + 1) (recT a.ats) = true) (hv : R w v it nm) :
    Calls Tryz.prog 25 #[.agg #[vt, va], .agg (rqcs pt pi at' ai rt ri v.h it nm).toArray] w fun r w' => r = .returned (.int .i64 (reqS n acs at' ai pt rt v)) ∧ Low w w' := by
  obtain ⟨pb, mb, cb, rfl⟩ := hvt
  obtain ⟨p, c, rfl, z1, z2⟩ := RowB.sl h
  obtain ⟨qi, ci, qn, cn, rfl, rfl⟩ := r_slices hv
  obtain ⟨U0, hU0⟩ : ∃ U, U = w.alloc (.cells #[.slice pb mb cb, .slice p acs.length c] 46) := ⟨_, rfl⟩
  obtain ⟨U, hU⟩ : ∃ U, U = U0.alloc (.cells (rqcs pt pi at' ai rt ri v.h (.slice qi v.l.length ci) (.slice qn v.ns.length cn)).toArray 56) := ⟨_, rfl⟩
  have s0 : U0.heap.size = w.heap.size + 1 := by rw [hU0]; simp
  have L0 : Low U0 U := by rw [hU]; exact low_new (Low.refl _) _
  have LU := Lib.hid (show Low w U from (by rw [hU0]; exact low_new (Low.refl w) _ : Low w U0).trans L0)
  have BS := Lib.hid ((BoxAt.made (cs := [.slice pb mb cb, .slice p acs.length c]) hU0 rfl rfl).low L0)
  have BQ := Lib.hid (BoxAt.made (cs := rqcs pt pi at' ai rt ri v.h (.slice qi v.l.length ci) (.slice qn v.ns.length cn)) hU s0 rfl)
  have CA := Lib.hid (ract_c n acs ai U (.slice pb mb cb) _ (h.low LU.out))
  have HOK := Lib.hid fun h : (canD v).1 = 0 => canD_okv h
  have HN := Lib.hid (show firstI acs (fun a => eqN ai a.nm) = -1 → 41 = reqS n acs at' ai pt rt v from fun h => by unfold reqS; rw [find_noneA h])
  have HY := Lib.hid (show ∀ i (hi : i < acs.length), firstI acs (fun a => eqN ai a.nm) = (i : Int) → reqS n acs at' ai pt rt v = if at' = actNm ∧ hasN acs[i].ps pt = true ∧ hasN acs[i].rs rt = true then (if (canD v).1 = 0 then (if isV (n + 1) (canD v).2 (recT acs[i].ats) = true then 0 else 41) else (canD v).1) else 41 from fun i hi h => by unfold reqS; rw [find_firstA hi h])
  obtain ⟨r, hr⟩ : ∃ r, r = reqS n acs at' ai pt rt v := ⟨_, rfl⟩
  rw [← hr] at HN HY ⊢
  have CC := Lib.hid fun W (l : Low U W) => rCanon_c v W _ _ (Rep.low hv (LU.out.trans l)) hs hdp
  obtain ⟨c1, x, hcx⟩ : ∃ c x, canD v = (c, x) := ⟨_, _, rfl⟩
  rw [hcx] at CC HOK HY
  rw [hU0] at hU
  unfold rqcs at hU
  have HU := Lib.hid hU
  have HM := Lib.hid hm
  have HA := Lib.hid h
  clear hv hs hm h hU hU0 L0 s0 hr hcx hdp
  unfold avv at CC
  unfold rqcs
  obtain ⟨z, hz⟩ : ∃ z, z = firstI acs fun a => eqN ai a.nm := ⟨_, rfl⟩
  rw [← hz] at CA
  have HZ := Lib.hid hz
  clear hz
  go_enter Tryz.func25, Tryz.ntmps25
  go_upto_region 1 with fail
  rw [← HU.out]
  clear HU
  obtain ⟨d0, d2, d3, d4, d6, d7, d8, d9, d10, d11, d12, d13⟩ := rq14 BQ.out
  have g0 := BS.out.at 0 _ rfl
  have g1 := BS.out.at 1 _ rfl
  go_wp2_with fail
  refine CA.out.mono ?_
  rintro e w1 ⟨rfl, l1⟩
  have L1 := Lib.hid l1
  have LW1 := Lib.hid (LU.out.trans l1)
  clear l1 CA d0 d2 d3 d4 d6 d7 d8 d9 d10 d11 d12 d13 g0 g1
  have BQ1 := Lib.hid (BQ.out.low L1.out)
  have BS1 := Lib.hid (BS.out.low L1.out)
  obtain ⟨d0, d2, d3, d4, d6, d7, d8, d9, d10, d11, d12, d13⟩ := rq14 BQ1.out
  rcases firstI_cases acs (fun a => eqN ai a.nm) with ⟨i, hi, hf, -, -⟩ | ⟨hf, -⟩
  case inr =>
    have HF := Lib.hid (HN.out hf)
    obtain rfl : z = -1 := HZ.out.trans hf
    clear hf
    go_wp2_with fail
    go_ret
    exact ⟨retI HF.out, LW1.out⟩
  case inl =>
    have HYI := Lib.hid (HY.out i hi hf)
    obtain rfl : z = (i : Int) := HZ.out.trans hf
    have zi : (i : Int) < (acs.length : Int) := by omega
    have zi0 : ¬ (i : Int) < 0 := by omega
    have hmt := HM.out acs[i] (List.getElem_mem hi)
    obtain ⟨tbk, tof, pi2, ci2, pp, cp, pr, cr, pa, ca, rfl, e0, e1, e2, e3, e4, -, hps, hrs, has, -, y2, y3, y4⟩ := AcsAt.at (HA.out.low LW1.out) hi
    obtain ⟨A, hA⟩ : ∃ A, A = acs[i] := ⟨_, rfl⟩
    rw [← hA] at HYI hmt hps hrs has e2 e3 e4 y2 y3 y4
    have HAT := Lib.hid has
    have HMT := Lib.hid hmt
    have E2 := Lib.hid e2
    have E3 := Lib.hid e3
    have E4 := Lib.hid e4
    have CP := Lib.hid fun q : InL w1 => Calls.low q (has13_c A.ps pt q.w _ (hps.low q.ok))
    have CR := Lib.hid fun W (l : Low w1 W) => fun q : InL W => Calls.low q (has13_c A.rs rt q.w _ (hrs.low (l.trans q.ok)))
    obtain ⟨q1, hq1⟩ : ∃ q, q = hasN A.ps pt := ⟨_, rfl⟩
    obtain ⟨q2, hq2⟩ : ∃ q, q = hasN A.rs rt := ⟨_, rfl⟩
    rw [← hq1] at CP HYI
    rw [← hq2] at CR HYI
    clear hps hrs has hmt hq1 hq2 hA HN HY hf HZ e0 e1 e2 e3 e4
    by_cases hact : at' = actNm
    case neg =>
      have HF := Lib.hid (show 41 = r by rw [HYI.out, if_neg fun h => hact h.1])
      have he4 := not_act hact
      clear hact
      go_wp2_with fail
      go_ret
      exact ⟨retI HF.out, LW1.out⟩
    case pos =>
      have HAC := Lib.hid hact
      have BQ1 := Lib.hid (hact ▸ BQ1.out)
      rw [hact] at d2
      unfold actNm at d2
      clear hact
      haveI := InL.some w1
      have d0p := fun q : InL w1 => q.cell d0
      have g1p := fun q : InL w1 => q.cell (BS1.out.at 1 _ rfl)
      have e2p := fun q : InL w1 => q.cell E2.out
      go_upto_region 4 with fail
      refine wp_region_low mixedT (by kernel_rfl) ?_
      repeat (go_big_quiet_step (with_reducible exact CP.out _))
      refine wpQuiet_nil ?_
      rintro W2 ⟨p2, hW2⟩
      have L2 := Lib.hid (show Low w1 W2 by rw [hW2]; exact p2.ok)
      clear hW2 p2 CP d0 d2 d3 d4 d6 d7 d8 d9 d10 d11 d12 d13 d0p g1p e2p this
      have CR2 := Lib.hid (CR.out W2 L2.out)
      haveI := InL.some W2
      have d4p := fun q : InL W2 => q.cell (rq14 (BQ1.out.low L2.out)).2.2.2.1
      have g1p := fun q : InL W2 => q.cell ((BS1.out.low L2.out).at 1 _ rfl)
      have e3p := fun q : InL W2 => q.cell (L2.out.keep E3.out)
      go_upto_region 5 with fail
      refine wp_region_low mixedT (by kernel_rfl) ?_
      repeat (go_big_quiet_step (with_reducible exact CR2.out _))
      refine wpQuiet_nil ?_
      rintro W3 ⟨p3, hW3⟩
      have L3 := Lib.hid (show Low w1 W3 by rw [hW3]; exact L2.out.trans p3.ok)
      clear hW3 p3 CR CR2 d4p g1p e3p this
      have LW3 := Lib.hid (LW1.out.trans L3.out)
      cases q1 with
      | false =>
        have HF := Lib.hid (show 41 = r by rw [HYI.out, if_neg fun h => by simp at h])
        go_wp2_with fail
        go_ret
        exact ⟨retI HF.out, LW3.out⟩
      | true =>
        cases q2 with
        | false =>
          have HF := Lib.hid (show 41 = r by rw [HYI.out, if_neg fun h => by simp at h])
          go_wp2_with fail
          go_ret
          exact ⟨retI HF.out, LW3.out⟩
        | true =>
          have HF1 := Lib.hid (show r = if c1 = 0 then (if isV (n + 1) x (recT A.ats) = true then 0 else 41) else c1 by rw [HYI.out, if_pos ⟨HAC.out, rfl, rfl⟩])
          have CC1 := Lib.hid (CC.out W3 (L1.out.trans L3.out))
          obtain ⟨d0, d2, d3, d4, d6, d7, d8, d9, d10, d11, d12, d13⟩ := rq14 (BQ1.out.low L3.out)
          clear CC HYI
          go_wp2_with fail
          refine CC1.out.mono ?_
          rintro e w2 ⟨bi, di, bn, dn, rfl, hrx, l2⟩
          have L4 := Lib.hid l2
          have HRX := Lib.hid (rep_any hrx)
          clear l2 hrx CC1 d0 d2 d3 d4 d6 d7 d8 d9 d10 d11 d12 d13
          go_upto_region 9 with fail
          refine gen_w (P := fun W => Code.wp _ _ _ _ W) (fun V2 hV2 => ?_)
          have LQ2 := Lib.hid (show Low w2 V2 by rw [hV2]; exact low_new (Low.refl _) _)
          have LV2 := Lib.hid (L3.out.trans (L4.out.trans LQ2.out))
          have BX := Lib.hid (BoxAt.made (cs := [.int .i64 x.h.k, .bool x.h.b, .int .i64 x.h.n, .string x.h.s, .string x.h.t, .string x.h.i, .slice bi x.l.length di, .slice bn x.ns.length dn]) hV2 rfl rfl)
          clear hV2
          by_cases hc1 : c1 = 0
          case neg =>
            have HF := Lib.hid (show c1 = r by rw [HF1.out, if_neg hc1])
            have hb := beq_fr hc1
            clear hc1
            go_wp2_with fail
            go_ret
            exact ⟨retI HF.out, LW1.out.trans LV2.out⟩
          case pos =>
            have HF2 := Lib.hid (show r = if isV (n + 1) x (recT A.ats) = true then 0 else 41 by rw [HF1.out, if_pos hc1])
            have HOX := Lib.hid (HOK.out hc1)
            subst hc1
            have CO := Lib.hid fun q : InL V2 => Calls.low q (rv_c (n + 1) x (recT A.ats) q.w _ _ _ _ HOX.out HMT.out (Rep.low HRX.out (LQ2.out.trans q.ok)) (rec_rt (RAs.low HAT.out (LV2.out.trans q.ok))))
            obtain ⟨z, hz⟩ : ∃ z, z = isV (n + 1) x (recT A.ats) := ⟨_, rfl⟩
            rw [← hz] at CO HF2
            unfold avv tv recT at CO
            simp only [T.k, T.n] at CO
            clear hz
            haveI := InL.some V2
            have f0 := fun q : InL V2 => q.cell (BX.out.at8).1
            have f1 := fun q : InL V2 => q.cell (BX.out.at8).2.1
            have f2 := fun q : InL V2 => q.cell (BX.out.at8).2.2.1
            have f3 := fun q : InL V2 => q.cell (BX.out.at8).2.2.2.1
            have f4 := fun q : InL V2 => q.cell (BX.out.at8).2.2.2.2.1
            have f5 := fun q : InL V2 => q.cell (BX.out.at8).2.2.2.2.2.1
            have f6 := fun q : InL V2 => q.cell (BX.out.at8).2.2.2.2.2.2.1
            have f7 := fun q : InL V2 => q.cell (BX.out.at8).2.2.2.2.2.2.2
            have g1p := fun q : InL V2 => q.cell ((BS1.out.low LV2.out).at 1 _ rfl)
            have e4p := fun q : InL V2 => q.cell (LV2.out.keep E4.out)
            go_upto_region 11 with fail
            refine wp_region_low mixedT (by kernel_rfl) ?_
            repeat (go_big_quiet_step (with_reducible exact CO.out _))
            refine wpQuiet_nil ?_
            rintro W8 ⟨p8, hW8⟩
            have L8 := Lib.hid (show Low V2 W8 by rw [hW8]; exact p8.ok)
            clear hW8 p8 f0 f1 f2 f3 f4 f5 f6 f7 g1p e4p CO this
            cases z with
            | false =>
              have HF := Lib.hid (show 41 = r by rw [HF2.out]; rfl)
              go_wp2_with fail
              go_ret
              exact ⟨retI HF.out, LW1.out.trans (LV2.out.trans L8.out)⟩
            | true =>
              have HF := Lib.hid (show 0 = r by rw [HF2.out]; rfl)
              go_wp2_with fail
              go_ret
              exact ⟨retI HF.out, LW1.out.trans (LV2.out.trans L8.out)⟩
end Go.Proofs.YtnenjgngahipdaaGreat
