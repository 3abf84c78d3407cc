/- The reference's Store: do entities conform to a schema? Condition: no more than 300 entities and actions, of no more than 300 above each; the schema's attributes may be; its actions as entities may be. -/
import Derived.Test.YtnenjgngahipdaaGreatZg26
import Derived.Test.YtnenjgngahipdaaGreatZCfR
import Derived.Test.YtnenjgngahipdaaGreatZCfActR
import Derived.Test.YtnenjgngahipdaaGreatZg36
import Derived.Test.YtnenjgngahipdaaGreatZRCanE
set_option linter.unusedVariables false
set_option linter.unusedSimpArgs false
set_option linter.unnecessarySimpa false
namespace Go.Proofs.YtnenjgngahipdaaGreat
open Go.RowKit
set_option linter.unusedVariables false
set_option maxHeartbeats 25600000 in
set_option maxRecDepth 100000 in
theorem rstore_c (n : Nat) (ts : List Et) (acs : List Ac) (qs : List Ee) (w : World) (vt va vl : Value) (h : EtsAt n w ts vt) (h2 : AcsAt n w acs va) (hq : EtAt w vl qs) (hf : FewE (ensOf qs)) (hs : ∀ q ∈ qs, Smv q.e.a) (hdp : ∀ q ∈ qs, dep q.e.a ≤ 1000000) (hm : ∀ t ∈ ts, mayB (n + 1) (recT t.ats) = true)
    (hl : acs.length ≤ 300) (hin : ∀ a ∈ acs, a.ins.length ≤ 300) (hca : (canE canD (actsE acs)).1 = 0) : Calls Tryz.prog 21 #[.agg #[vt, va], vl] w fun e w' => e = .returned (.int .i64 (storeS n ts acs (ensOf qs))) ∧ Low w w' := by
  obtain ⟨p, c, rfl, z1, z2⟩ := RowB.sl h
  obtain ⟨p2, c2, rfl, y1, y2⟩ := RowB.sl h2
  obtain ⟨p3, c3, rfl, ⟨x1, x2⟩, -⟩ := EtAt.at hq
  obtain ⟨U, hU⟩ : ∃ U, U = w.alloc (.cells #[.slice p ts.length c, .slice p2 acs.length c2] 46) := ⟨_, rfl⟩
  have LU := Lib.hid (show Low w U by rw [hU]; exact low_new (Low.refl w) _)
  have BS := Lib.hid (BoxAt.made (cs := [.slice p ts.length c, .slice p2 acs.length c2]) hU rfl rfl)
  have HU := Lib.hid hU
  have CC := Lib.hid (rcanE_c qs U _ (hq.low LU.out) hf hs hdp)
  obtain ⟨r, hr⟩ : ∃ r, r = storeS n ts acs (ensOf qs) := ⟨_, rfl⟩
  have HSF := Lib.hid (show (canE canD (ensOf qs)).1 = 0 → StoreF n ts (canE canD (ensOf qs)).2 (canE canD (actsE acs)).2 r from fun h0 => by rw [hr]; exact store_f h0 hca)
  have HRN := Lib.hid (show (canE canD (ensOf qs)).1 ≠ 0 → (canE canD (ensOf qs)).1 = r from fun h0 => by rw [hr]; unfold storeS; rw [if_neg h0])
  have HND := Lib.hid (canE_rises hca).2
  rw [← hr]
  obtain ⟨c1, res1, hres⟩ : ∃ c1 res1, canE canD (ensOf qs) = (c1, res1) := ⟨_, _, rfl⟩
  have HOK := Lib.hid (show c1 = 0 → (∀ e ∈ res1, Okv e.a) ∧ res1.length ≤ 300 from fun h0 => by
    have h1 : (canE canD (ensOf qs)).1 = 0 := by rw [hres]; exact h0
    refine ⟨fun e he => canE_okv h1 (by rw [hres]; exact he), ?_⟩
    have h3 := canE_len h1
    rw [hres] at h3
    have h4 := hf.1
    exact Nat.le_trans h3 h4)
  rw [hres] at CC HSF HRN
  have HA := Lib.hid h
  have HA2 := Lib.hid h2
  have HM := Lib.hid hm
  have HIN := Lib.hid hin
  have HCA := Lib.hid hca
  clear h h2 hq hf hs hm hin hca hU hr hres hdp
  go_enter Tryz.func21, Tryz.ntmps21
  go_upto_region 1 with fail
  rw [← HU.out]
  clear HU
  go_wp2_with fail
  refine CC.out.mono ?_
  rintro e w1 ⟨v1, rfl, l1, rs1, hrs1, het1⟩
  have L1 := Lib.hid l1
  have HRS1 := Lib.hid (show ensOf rs1 = res1 from hrs1)
  have HET1 := Lib.hid het1
  clear l1 hrs1 het1 CC
  by_cases hc1 : c1 = 0
  case neg =>
    have HF := Lib.hid (HRN.out hc1)
    have hb := beq_fr hc1
    clear hc1
    go_wp2_with fail
    go_ret
    exact ⟨retI HF.out, LU.out.trans L1.out⟩
  case pos =>
    obtain ⟨hok, hlen⟩ := HOK.out hc1
    have HF := Lib.hid (HSF.out hc1)
    subst hc1
    have HOK2 := Lib.hid hok
    have hl300 : rs1.length ≤ 300 := by
      have := congrArg List.length HRS1.out
      unfold ensOf at this
      rw [List.length_map] at this
      omega
    clear hok hlen HOK HSF HRN
    have g0 := (BS.out.low L1.out).at 0 _ rfl
    have g1 := (BS.out.low L1.out).at 1 _ rfl
    have CA := Lib.hid (racts_c n acs w1 (.slice p ts.length c) _ (by omega) (fun a ha => by have := HIN.out a ha; omega) (HA2.out.low (LU.out.trans L1.out)))
    go_wp2_with fail
    refine CA.out.mono ?_
    rintro e w2 ⟨v2, as2, rfl, own2, ok2, has, l2⟩
    have HE2 := Lib.hid (show EtAt w2 v2 as2 from ⟨own2.esAt, fun q hq => (ok2 q hq).to fun _ _ _ => ⟨trivial, rfl⟩⟩)
    have L2 := Lib.hid (L1.out.trans l2)
    have L2' := Lib.hid l2
    obtain ⟨p4, c4, rfl, ⟨y3, y4⟩, -⟩ := EtAt.at HE2.out
    have hrv : ∀ q ∈ as2, q.e.a = recV := fun q hq => by
      have h1 := ens_mem hq
      rw [has] at h1
      exact acts_a h1
    have CC2 := Lib.hid (rcanE_c as2 w2 _ HE2.out (by rw [has]; exact few_acts hl HIN.out) (fun q hq => by rw [hrv q hq]; exact recV_sm) fun q hq => by rw [hrv q hq]; unfold recV; rw [dep, depL]; omega)
    rw [has] at CC2
    clear own2 ok2 has l2 CA g0 g1 hrv
    obtain ⟨c3', res2, hres2⟩ : ∃ c1 res1, canE canD (actsE acs) = (c1, res1) := ⟨_, _, rfl⟩
    have hc0 : c3' = 0 := by have := HCA.out; rw [hres2] at this; exact this
    subst hc0
    rw [hres2] at CC2 HF HND
    clear hres2
    go_wp2_with fail
    refine CC2.out.mono ?_
    rintro e w3 ⟨v3, rfl, l3, rs2, hrs2, het2⟩
    have L3 := Lib.hid (L2.out.trans l3)
    have HRS2 := Lib.hid (show ensOf rs2 = res2 from hrs2)
    have ET2 := Lib.hid het2
    have ET1 := Lib.hid (HET1.out.low (L2'.out.trans l3))
    clear l3 hrs2 het2 CC2 HET1
    obtain ⟨q1, d1, rfl, ⟨a1, a2⟩, -⟩ := EtAt.at ET1.out
    obtain ⟨q2, d2, rfl, ⟨a3, a4⟩, -⟩ := EtAt.at ET2.out
    have HL2 := Lib.hid (show rs2.length = res2.length by rw [← HRS2.out]; simp [ensOf])
    have HBAD := Lib.hid (show ∀ i (hi : i < rs1.length), ¬ goodE n ts res2 rs1[i].e → 41 = r from fun i hi h => HF.out.bad _ (by rw [← HRS1.out]; exact ens_mem (List.getElem_mem hi)) h)
    have BS3 := Lib.hid (BS.out.low L3.out)
    have LB := Lib.hid (LU.out.trans L3.out)
    go_wp2_with fail
    go_loopg [9, 10] rs1.length (fun gk vf vi wr => ∃ f i : Nat, vf = .int .i64 (f : Int) ∧ vi = .int .i64 (i : Int) ∧ i ≤ rs1.length ∧ f ≤ i ∧ rs1.length - i ≤ gk ∧ Hid (Low w3 wr) ∧ Hid (f = ((rs1.take i).filter fun q => isAct q.e).length) ∧ Hid (∀ j (hj : j < rs1.length), j < i → goodE n ts res2 rs1[j].e))
    case atStart => exact ⟨0, 0, rfl, rfl, Nat.zero_le _, Nat.le_refl _, Nat.le_refl _, Lib.hid (Low.refl _), Lib.hid rfl, Lib.hid fun j hj h => absurd h (Nat.not_lt_zero _)⟩
    case round =>
      obtain ⟨f, i, rfl, rfl, hi, hfi, hg, G, KF, K⟩ := hrel
      by_cases hlt : i < rs1.length
      · have zl : (i : Int) < (rs1.length : Int) := by omega
        have hwi : IntKind.wrap .i64 ((i : Int) + 1) = (i : Int) + 1 := by rw [IntKind.wrap_i64]; omega
        obtain ⟨b, o, rfl, h1, k1⟩ := et_at (ET1.out.low G.out) hlt
        have hsub := sub_et (ET1.out.low G.out) hlt (d1 - i) (by omega) (by omega)
        have hbad := HBAD.out i hlt
        have htk := take_filter (f := fun q : Ee => isAct q.e) hlt
        have hok := HOK2.out rs1[i].e (by rw [← HRS1.out]; exact ens_mem (List.getElem_mem hlt))
        have hgd : goodE n ts res2 rs1[i].e → ∀ j (hj : j < rs1.length), j < i + 1 → goodE n ts res2 rs1[j].e := fun h j hj hji => by
          rcases Nat.lt_succ_iff_lt_or_eq.1 hji with h2 | rfl
          · exact K.out j hj h2
          · exact h
        obtain ⟨x, hx⟩ : ∃ x, x = rs1[i] := ⟨_, rfl⟩
        rw [← hx] at h1 k1 hsub hbad htk hok hgd
        have HSUB := Lib.hid hsub
        have HB := Lib.hid hbad
        have HTK := Lib.hid htk
        have HOKX := Lib.hid hok
        have HGD := Lib.hid hgd
        have HGD2 := Lib.hid hgd
        have HKX := Lib.hid k1
        have H1 := Lib.hid h1
        obtain ⟨e0, e1, e2, e3, e4, e5, e6, e7, e8, e9, e10⟩ := ent11 h1
        clear hx h1 k1 hsub hbad htk hok hgd
        by_cases he : x.e.u.t = actNm
        · have hia : isAct x.e = true := decide_eq_true he
          have HT := Lib.hid (show ((rs1.take (i + 1)).filter fun q => isAct q.e).length = f + 1 by rw [HTK.out, hia, List.length_append, ← KF.out]; rfl)
          have HE := Lib.hid he
          have CF := Lib.hid (find_c (rs2.map Ee.sh) x.e.u wr _ (ET2.out.low G.out).1)
          unfold usV at CF
          rw [he] at e0 CF
          unfold actNm at e0 CF
          clear he
          rcases Nat.lt_or_ge (idxS (rs2.map Ee.sh) x.e.u) (rs2.map Ee.sh).length with hk | hk
          · have hfk : findI (rs2.map Ee.sh) x.e.u = (idxS (rs2.map Ee.sh) x.e.u : Int) := by unfold findI; rw [if_pos hk]
            have hku : (rs2.map Ee.sh)[idxS (rs2.map Ee.sh) x.e.u].u = x.e.u := of_decide_eq_true (List.findIdx_getElem (w := hk))
            obtain ⟨k, hkk⟩ : ∃ k, k = idxS (rs2.map Ee.sh) x.e.u := ⟨_, rfl⟩
            have hk2 : k < rs2.length := by rw [hkk]; simpa using hk
            have hku2 : x.e.u = rs2[k].e.u := by
              subst hkk
              rw [List.getElem_map] at hku
              exact hku.symm
            rw [hfk, ← hkk] at CF
            clear hfk hku hk hkk
            obtain ⟨b2, o2, rfl, h3, k3⟩ := et_at (ET2.out.low G.out) hk2
            have hsub2 := sub_et (ET2.out.low G.out) hk2 (d2 - k) (by omega) (by omega)
            have hmem : rs2[k].e ∈ res2 := by rw [← HRS2.out]; exact ens_mem (List.getElem_mem hk2)
            obtain ⟨y, hy⟩ : ∃ y, y = rs2[k] := ⟨_, rfl⟩
            rw [← hy] at hsub2 hku2 hmem
            have HSUB2 := Lib.hid hsub2
            have zk : (k : Int) < (rs2.length : Int) := by omega
            have zk0 : ¬ (k : Int) < 0 := by omega
            have hwk : IntKind.wrap .i64 ((k : Int) + 1) = (k : Int) + 1 := by rw [IntKind.wrap_i64]; omega
            have HGE := Lib.hid (show wholeB x.e y.e = true → goodE n ts res2 x.e from fun h => by
              unfold goodE
              rw [if_pos hia, (wholeB_iff hku2).1 h]
              exact hmem)
            have HNE := Lib.hid (show wholeB x.e y.e = false → ¬ goodE n ts res2 x.e from fun h hg => by
              unfold goodE at hg
              rw [if_pos hia] at hg
              have h5 := one_name HND.out hg hmem hku2
              have h6 := (wholeB_iff hku2).2 h5
              rw [h] at h6; cases h6)
            clear h3 k3 hsub2 hmem hy hia
            have HKU := Lib.hid hku2
            clear hku2
            go_wp2_with fail
            refine CF.out.mono ?_
            rintro e w4 ⟨rfl, l4⟩
            have L4 := Lib.hid l4
            have CW := Lib.hid fun q : InL w4 => Calls.low q (rwhole1_c x y q.w _ _ (HSUB.out.low (l4.trans q.ok)) (HSUB2.out.low (l4.trans q.ok)) HKU.out)
            obtain ⟨z, hz⟩ : ∃ z, z = wholeB x.e y.e := ⟨_, rfl⟩
            rw [← hz] at CW
            have HZ := Lib.hid hz
            have s1 := fun W => slice1E W b o rs1.length d1 i hlt a1
            have s2 := fun W => slice1E W b2 o2 rs2.length d2 k hk2 a3
            clear hz l4 CF e0 e1 e2 e3 e4 e5 e6 e7 e8 e9 e10
            haveI := InL.some w4
            go_upto_region 13 with fail
            refine wp_region_low mixedT (by kernel_rfl) ?_
            repeat (go_big_quiet_step (with_reducible exact CW.out _))
            refine wpQuiet_nil ?_
            rintro W9 ⟨p9, hW9⟩
            have L9 := Lib.hid (show Low w3 W9 by rw [hW9]; exact (G.out.trans L4.out).trans p9.ok)
            clear hW9 p9 CW s1 s2 this
            cases z with
            | false =>
              have HFF := Lib.hid (HB.out (HNE.out HZ.out.symm))
              go_wp2_with fail
              go_ret
              exact ⟨retI HFF.out, LB.out.trans L9.out⟩
            | true =>
              have HGG := Lib.hid (HGD.out (HGE.out HZ.out.symm))
              go_wp2_with fail
              go_roundg (rs1.length - (i + 1))
              case measure => omega
              case rel => exact ⟨f + 1, i + 1, by go_num, by go_num, by omega, by omega, by omega, L9, Lib.hid HT.out.symm, HGG⟩
          · have hfk : findI (rs2.map Ee.sh) x.e.u = -1 := by unfold findI; rw [if_neg (by omega)]
            have HFF := Lib.hid (HB.out fun hg => by
              unfold goodE at hg
              rw [if_pos hia, ← HRS2.out] at hg
              unfold ensOf at hg
              obtain ⟨y, hy, hye⟩ := List.mem_map.1 hg
              have h5 : idxS (rs2.map Ee.sh) x.e.u < (rs2.map Ee.sh).length := List.findIdx_lt_length_of_exists ⟨y.sh, List.mem_map.2 ⟨y, hy, rfl⟩, by simp [Ee.sh, hye]⟩
              omega)
            rw [hfk] at CF
            clear hfk hk hia
            go_wp2_with fail
            refine CF.out.mono ?_
            rintro e w4 ⟨rfl, l4⟩
            have L9 := Lib.hid (G.out.trans l4)
            clear l4 CF e0 e1 e2 e3 e4 e5 e6 e7 e8 e9 e10
            go_wp2_with fail
            go_ret
            exact ⟨retI HFF.out, LB.out.trans L9.out⟩
        · have hia : isAct x.e = false := decide_eq_false he
          have HT := Lib.hid (show ((rs1.take (i + 1)).filter fun q => isAct q.e).length = f by rw [HTK.out, hia, List.length_append, ← KF.out]; simp)
          have he4 := not_act he
          have HGS := Lib.hid (show standB n ts x.e = true → goodE n ts res2 x.e from fun h => by unfold goodE; rw [if_neg (by simp [hia])]; exact h)
          have HNS := Lib.hid (show standB n ts x.e = false → 41 = r from fun h => HB.out fun hg => by unfold goodE at hg; rw [if_neg (by simp [hia]), h] at hg; cases hg)
          clear he hia
          have BSW := Lib.hid (BS3.out.low G.out)
          have LBW := Lib.hid (LB.out.trans G.out)
          have CT := Lib.hid fun q : InL wr => Calls.low q (rtype_c n ts x.e.u.t q.w (.slice p ts.length c) (.slice p2 acs.length c2) (HA.out.low (LBW.out.trans q.ok)))
          obtain ⟨z, hz⟩ : ∃ z, z = firstI ts fun t => eqN x.e.u.t t.nm := ⟨_, rfl⟩
          rw [← hz] at CT
          have HZ := Lib.hid hz
          clear hz
          have e0p := fun q : InL wr => q.cell e0
          have g0p := fun q : InL wr => q.cell (BSW.out.at 0 _ rfl)
          have g1p := fun q : InL wr => q.cell (BSW.out.at 1 _ rfl)
          haveI := InL.some wr
          go_upto_region 17 with fail
          refine wp_region_low mixedT (by kernel_rfl) ?_
          repeat (go_big_quiet_step (with_reducible exact CT.out _))
          refine wpQuiet_nil ?_
          rintro W4 ⟨p4, hW4⟩
          have L4 := Lib.hid (show Low w3 W4 by rw [hW4]; exact G.out.trans p4.ok)
          have L4r := Lib.hid (show Low wr W4 by rw [hW4]; exact p4.ok)
          clear hW4 p4 CT e0p g0p g1p e0 e1 e2 e3 e4 e5 e6 e7 e8 e9 e10 this
          rcases firstI_cases ts (fun t => eqN x.e.u.t t.nm) with ⟨t, ht, hf, -, -⟩ | ⟨hf, -⟩
          case inr =>
            have HFF := Lib.hid (HNS.out (by unfold standB; rw [find_none hf]))
            obtain rfl : z = -1 := HZ.out.trans hf
            clear hf
            go_wp2_with fail
            go_ret
            exact ⟨retI HFF.out, LB.out.trans L4.out⟩
          case inl =>
            have HSB := Lib.hid (show standB n ts x.e = ((x.e.ps.all fun p => hasN ts[t].ins p.t) && isV (n + 1) x.e.a (recT ts[t].ats)) by unfold standB; rw [find_first ht hf])
            obtain rfl : z = (t : Int) := HZ.out.trans hf
            have zt : (t : Int) < (ts.length : Int) := by omega
            have zt0 : ¬ (t : Int) < 0 := by omega
            have hmt := HM.out ts[t] (List.getElem_mem ht)
            obtain ⟨tbk, tof, pi, ci, pa, ca, rfl, f0, f1, f2, hns, has, y5, y6, y7, y8⟩ := EtsAt.at (HA.out.low LB.out) ht
            obtain ⟨T, hT⟩ : ∃ T, T = ts[t] := ⟨_, rfl⟩
            rw [← hT] at f0 f1 f2 hns has hmt HSB y5 y7
            have HF1 := Lib.hid f1
            have HF2 := Lib.hid f2
            have HNI := Lib.hid hns
            have HAT := Lib.hid has
            have HMT := Lib.hid hmt
            clear hT hf HZ hns has hmt f0 f1 f2 HGD
            have hx9 : x.e.ps.length ≤ 9223372036854775807 := by obtain ⟨_, _, hv, ⟨h3, h4⟩, -⟩ := HKX.out.1.any; omega
            have HGD := Lib.hid fun (h : standB n ts x.e = true) => (show ∀ j (hj : j < rs1.length), j < i + 1 → goodE n ts res2 rs1[j].e from HGD2.out (HGS.out h))
            go_wp2_with fail
            rename World => wz
            go_loopg [14] x.e.ps.length (fun gj vj wr => ∃ k : Nat, vj = .int .i64 (k : Int) ∧ k ≤ x.e.ps.length ∧ x.e.ps.length - k ≤ gj ∧ Hid (Low w3 wr) ∧ Hid (Low wz wr) ∧ Hid (∀ j (hj : j < x.e.ps.length), j < k → hasN T.ins x.e.ps[j].t = true))
            case atStart => exact ⟨0, rfl, Nat.zero_le _, Nat.le_refl _, L4, Lib.hid (Low.refl _), Lib.hid fun j hj h => absurd h (Nat.not_lt_zero _)⟩
            case round =>
              clear L4
              obtain ⟨k, rfl, hk, hgj, GI, GZ, KI⟩ := hrel
              have GW := Lib.hid (L4r.out.trans GZ.out)
              obtain ⟨-, -, e2, e3, e4, e5, e6, e7, e8, e9, e10⟩ := ent11 (GW.out.cells H1.out)
              have g0 := (BS3.out.low GI.out).at 0 _ rfl
              have f1 := GI.out.keep HF1.out
              have f2 := GI.out.keep HF2.out
              haveI := InL.some wr
              have g0p := fun q : InL wr => q.cell g0
              by_cases hlp : k < x.e.ps.length
              · have zlp : (k : Int) < (x.e.ps.length : Int) := by omega
                have hua := UsAt.low HKX.out.1.any GW.out
                unfold Sh.p Ee.sh at hua
                simp only at hua
                obtain ⟨pb, po, hp1, hc1⟩ := us_at hua hlp
                rw [hp1] at e2
                obtain ⟨d0, -⟩ := cells2 hc1
                have CH := Lib.hid fun q : InL wr => Calls.low q (has13_c T.ins x.e.ps[k].t q.w _ (HNI.out.low (GI.out.trans q.ok)))
                obtain ⟨z, hz⟩ : ∃ z, z = hasN T.ins x.e.ps[k].t := ⟨_, rfl⟩
                rw [← hz] at CH
                have HZ := Lib.hid hz
                have HNO := Lib.hid (show z = false → 41 = r from fun h => HNS.out (by
                  rw [HSB.out, Bool.and_eq_false_iff]
                  refine .inl (List.all_eq_false.2 ⟨x.e.ps[k], List.getElem_mem hlp, ?_⟩)
                  rw [← hz, h]; simp))
                clear hua hp1 hc1 hz
                have e2p := fun q : InL wr => q.cell e2
                have d0p := fun q : InL wr => q.cell d0
                have f1p := fun q : InL wr => q.cell f1
                go_upto_region 23 with fail
                refine wp_region_low mixedT (by kernel_rfl) ?_
                repeat (go_big_quiet_step (with_reducible exact CH.out _))
                refine wpQuiet_nil ?_
                rintro W9 ⟨p9, hW9⟩
                have L9 := Lib.hid (show Low w3 W9 by rw [hW9]; exact GI.out.trans p9.ok)
                have L9z := Lib.hid (show Low wz W9 by rw [hW9]; exact GZ.out.trans p9.ok)
                clear hW9 p9 CH e2 e3 e4 e5 e6 e7 e8 e9 e10 g0 f1 f2 g0p e2p d0p f1p d0 this
                cases z with
                | false =>
                  have HFF := Lib.hid (HNO.out rfl)
                  go_wp2_with fail
                  go_ret
                  exact ⟨retI HFF.out, LB.out.trans L9.out⟩
                | true =>
                  go_wp2_with fail
                  go_roundg (x.e.ps.length - (k + 1))
                  case measure => omega
                  case rel =>
                    refine ⟨k + 1, by go_num, by omega, by omega, L9, L9z, Lib.hid fun j hj hji => ?_⟩
                    rcases Nat.lt_succ_iff_lt_or_eq.1 hji with h | rfl
                    · exact KI.out j hj h
                    · exact HZ.out.symm
              · have zlp : ¬ (k : Int) < (x.e.ps.length : Int) := by omega
                have HAL := Lib.hid (show (x.e.ps.all fun p => hasN T.ins p.t) = true from List.all_eq_true.2 fun p hp => by
                  obtain ⟨j, hj, rfl⟩ := List.getElem_of_mem hp
                  exact KI.out j hj (by omega))
                have CV := Lib.hid fun q : InL wr => Calls.low q (rv_c (n + 1) x.e.a (recT T.ats) q.w _ _ _ _ HOKX.out HMT.out (Rep.low HKX.out.2 (GW.out.trans q.ok)) (rec_rt (RAs.low HAT.out (GI.out.trans q.ok))))
                obtain ⟨z, hz⟩ : ∃ z, z = isV (n + 1) x.e.a (recT T.ats) := ⟨_, rfl⟩
                rw [← hz] at CV
                have HSZ := Lib.hid (show standB n ts x.e = z by rw [HSB.out, HAL.out, ← hz]; rfl)
                unfold avv tv recT Ee.it Ee.nm at CV
                simp only [Go.Proofs.YtnenjgngahipdaaGreat.T.k, Go.Proofs.YtnenjgngahipdaaGreat.T.n] at CV
                clear hz KI
                have e3p := fun q : InL wr => q.cell e3
                have e4p := fun q : InL wr => q.cell e4
                have e5p := fun q : InL wr => q.cell e5
                have e6p := fun q : InL wr => q.cell e6
                have e7p := fun q : InL wr => q.cell e7
                have e8p := fun q : InL wr => q.cell e8
                have e9p := fun q : InL wr => q.cell e9
                have e10p := fun q : InL wr => q.cell e10
                have f2p := fun q : InL wr => q.cell f2
                go_upto_region 26 with fail
                refine wp_region_low mixedT (by kernel_rfl) ?_
                repeat (go_big_quiet_step (with_reducible exact CV.out _))
                refine wpQuiet_nil ?_
                rintro W9 ⟨p9, hW9⟩
                have L9 := Lib.hid (show Low w3 W9 by rw [hW9]; exact GI.out.trans p9.ok)
                clear hW9 p9 CV e2 e3 e4 e5 e6 e7 e8 e9 e10 g0 f1 f2 g0p e3p e4p e5p e6p e7p e8p e9p e10p f2p this
                cases z with
                | false =>
                  have HFF := Lib.hid (HNS.out HSZ.out)
                  go_wp2_with fail
                  go_ret
                  exact ⟨retI HFF.out, LB.out.trans L9.out⟩
                | true =>
                  have HGG := Lib.hid (HGD.out HSZ.out)
                  go_wp2_with fail
                  go_roundg (rs1.length - (i + 1))
                  case measure => omega
                  case rel => exact ⟨f, i + 1, rfl, by go_num, by omega, by omega, by omega, L9, Lib.hid HT.out.symm, HGG⟩
      · have zl : ¬ (i : Int) < (rs1.length : Int) := by omega
        obtain rfl : i = rs1.length := by omega
        have HCNT := Lib.hid (show f = (res1.filter isAct).length by
          rw [KF.out, List.take_length, ← HRS1.out, ← ens_filter]
          simp [ensOf])
        have HGA := Lib.hid (show ∀ e ∈ res1, goodE n ts res2 e from fun e he => by
          rw [← HRS1.out] at he
          unfold ensOf at he
          obtain ⟨q, hq, rfl⟩ := List.mem_map.1 he
          obtain ⟨j, hj, rfl⟩ := List.getElem_of_mem hq
          exact K.out j hj hj)
        by_cases hfe : f = rs2.length
        · have HFF := Lib.hid (HF.out.good HGA.out (by rw [← HCNT.out, hfe, HL2.out]))
          subst hfe
          go_wp2_with fail
          go_ret
          exact ⟨retI HFF.out, LB.out.trans G.out⟩
        · have HFF := Lib.hid (HF.out.less (by rw [← HCNT.out, ← HL2.out]; exact hfe))
          have zn : ¬ (f : Int) = (rs2.length : Int) := by omega
          clear hfe
          go_wp2_with fail
          go_ret
          exact ⟨retI HFF.out, LB.out.trans G.out⟩
end Go.Proofs.YtnenjgngahipdaaGreat
