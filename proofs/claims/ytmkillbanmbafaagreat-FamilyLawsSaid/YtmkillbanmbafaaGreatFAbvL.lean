/- What is above any name, and whether any one is, or is below, any other one, is what the document says. No condition. -/
import Derived.Test.YtmkillbanmbafaaGreatRefG
namespace Go.Proofs.YtmkillbanmbafaaGreat
open Go.RowKit Go.Sort Go.Maps
/-- The worlds that calls leave which write nothing that was there. -/
theorem cls_low_cell {W : World} {a : Addr} {v : Value} (h : W.cell? a = some v) (p : InC (Low W)) : p.w.cell? a = some v := p.ok.keep h
theorem good_nil : GoodC [] := ⟨fun e he => by simp at he, fun ⟨x, hx⟩ => by obtain ⟨b, h1, -⟩ := hx.first; have := h1.1; simp [namesE] at this, by simp [Rises], by decide, fun e he => by simp at he, fun e he => by simp at he⟩
theorem abv_nil (u : Us) : abvN [] u = [] := abvN_no (by simp [namesE])
theorem in_nilL (a b : Us) : inB [] a b = decide (a = b) := by
  rw [Bool.eq_iff_iff, inB_iff, decide_eq_true_eq]
  exact ⟨fun h => h.elim id fun h => by have := way_from h; simp [namesE] at this, .inl⟩
theorem usAt_len {w : World} {v : Value} {l : List Us} (h : UsAt w v l) : ∃ ao c, v = .slice ao l.length c := by
  obtain ⟨ao, c, h, -⟩ := h
  exact ⟨ao, c, h⟩
set_option maxHeartbeats 16000000 in
set_option maxRecDepth 100000 in
theorem familyAbove_v (qs : List Ee) (a b : Us) (w : World) (r : Value) (h : EtAt w r qs) : Calls Tryz.prog 4 #[r, .agg #[.string a.t, .string a.i], .agg #[.string b.t, .string b.i]] w fun e w' => e = .returned (.bool true) ∧ Low w w' := by
  obtain ⟨ao, c, rfl, ⟨hlc, hc9⟩, hx⟩ := h.at
  have mixed : Tryz.prog.follows .mixedOrders = true := by kernel_rfl
  have HE := Lib.hid h
  obtain ⟨U0, hU0⟩ : ∃ W, W = (w.alloc (.cells #[.string a.t, .string a.i] 24)).alloc (.cells #[.string b.t, .string b.i] 24) := ⟨_, rfl⟩
  have HU0 := Lib.hid hU0
  have L0 := Lib.hid (show Low w U0 by rw [hU0]; exact Low.alloc (Low.alloc (Low.refl w) _) _)
  have BA := Lib.hid (show BoxAt U0 w.heap.size [.string a.t, .string a.i] from BoxAt.low (BoxAt.made (w := w) (W := w.alloc (.cells #[.string a.t, .string a.i] 24)) rfl rfl rfl) (show Low (w.alloc (.cells #[.string a.t, .string a.i] 24)) U0 by rw [hU0]; exact Low.alloc (Low.refl _) _))
  have BB := Lib.hid (show BoxAt U0 (w.heap.size + 1) [.string b.t, .string b.i] from BoxAt.made hU0 (by simp) rfl)
  clear h hx hU0
  go_enter Tryz.func4, Tryz.ntmps4
  go_upto_region 1 with fail
  rw [← HU0.out]
  clear HU0
  go_wp2_with fail
  refine (awake6_c _).mono ?_
  rintro e w1 ⟨rfl, l1⟩
  have L1 := Lib.hid (L0.out.trans l1)
  have BA1 := Lib.hid (BA.out.low l1)
  have BB1 := Lib.hid (BB.out.low l1)
  clear l1 BA BB L0
  have SC := Lib.hid (small_c qs w1 _ (HE.out.low L1.out))
  go_wp2_with fail
  refine SC.out.mono ?_
  rintro e w2 ⟨p, rfl, hp, g⟩
  have L2 := Lib.hid (L1.out.trans g.low)
  have BA2 := Lib.hid (BA1.out.low g.low)
  have BB2 := Lib.hid (BB1.out.low g.low)
  have HP := Lib.hid hp
  clear hp g SC BA1 BB1 L1
  rcases p with _ | _
  · go_wp2_with fail
    go_ret
    exact ⟨rfl, L2.out⟩
  obtain ⟨h20, hsm⟩ := HP.out rfl
  have HSM := Lib.hid (show ∀ e ∈ ensOf qs, SmE e from fun e he => by unfold ensOf at he; obtain ⟨q, hq, rfl⟩ := List.mem_map.1 he; exact hsm q hq)
  have H20 := Lib.hid (show (ensOf qs).length ≤ 20 by unfold ensOf; rwa [List.length_map])
  have HDP := Lib.hid (show ∀ q ∈ qs, Sm q.e.a ∧ dep q.e.a ≤ 1000000 from fun q hq => ⟨(hsm q hq).1, by have := (hsm q hq).2.1; omega⟩)
  have CC := Lib.hid (load_c qs w2 _ (HE.out.low L2.out) (few_sm H20.out HSM.out) fun q hq => (hsm q hq).1)
  clear HP hsm
  obtain ⟨c1, res1, hres⟩ : ∃ c1 res1, canE canD (ensOf qs) = (c1, res1) := ⟨_, _, rfl⟩
  rw [hres] at CC
  have HR1 := Lib.hid hres
  have HRC := Lib.hid fun W (l : Low w W) => rcanE_c qs W _ (HE.out.low l) (few_sm H20.out HSM.out) (fun q hq => (HDP.out q hq).1) (fun q hq => (HDP.out q hq).2)
  rw [hres] at HRC
  obtain ⟨N, hN⟩ : ∃ N, N = qs.length := ⟨_, rfl⟩
  rw [← hN] at h20 hlc CC HRC ⊢
  clear hres hN
  go_wp2_with fail
  refine CC.out.mono ?_
  rintro e w3 (⟨h0, rfl, l3⟩ | ⟨h0, z, rs, rfl, l3, hrs, hs, hma⟩)
  · have L3 := Lib.hid (L2.out.trans l3)
    have BA3 := Lib.hid (BA2.out.low l3)
    have BB3 := Lib.hid (BB2.out.low l3)
    have HZ := Lib.hid (show res1 = [] by
      have h1 := canE_ok (c := canD) (l := ensOf qs)
      have h2 : canE canD (ensOf qs) = (c1, res1) := HR1.out
      unfold canE at h2
      by_cases k1 : 4096 < (ensOf qs).length
      · rw [if_pos k1] at h2; exact (Prod.mk.inj h2).2.symm
      · rw [if_neg k1] at h2
        by_cases k2 : (namesE (ensOf qs)).Nodup
        · rw [if_pos k2] at h2
          by_cases k3 : errL canD (namesE (ensOf qs)) (ensOf qs) = 0
          · rw [if_pos k3] at h2
            by_cases k4 : RoundE (ensOf qs)
            · rw [if_pos k4] at h2; exact (Prod.mk.inj h2).2.symm
            · rw [if_neg k4] at h2; exact absurd (Prod.mk.inj h2).1.symm h0
          · rw [if_neg k3] at h2; exact (Prod.mk.inj h2).2.symm
        · rw [if_neg k2] at h2; exact (Prod.mk.inj h2).2.symm)
    clear CC l3 h0 BA2 BB2 L2
    have RC := Lib.hid (HRC.out w3 L3.out)
    clear HRC
    go_wp2_with fail
    refine RC.out.mono ?_
    rintro e w4 ⟨v4, rfl, l4, ws, hws, het⟩
    have hws0 : ensOf ws = [] := by rw [show ensOf ws = res1 from hws]; exact HZ.out
    have HWS := Lib.hid hws0
    have HET := Lib.hid het
    have L4 := Lib.hid (L3.out.trans l4)
    have BA4 := Lib.hid (BA3.out.low l4)
    have BB4 := Lib.hid (BB3.out.low l4)
    clear l4 hws het hws0 RC BA3 BB3 L3
    obtain ⟨a0, a1⟩ := BA4.out.at2
    have HA := Lib.hid (above_nil w4 a)
    show _
    go_wp2_with fail
    refine HA.out.mono ?_
    rintro e w5 ⟨rfl, l5⟩
    have L5 := Lib.hid (L4.out.trans l5)
    have BA5 := Lib.hid (BA4.out.low l5)
    have BB5 := Lib.hid (BB4.out.low l5)
    have HE5 := Lib.hid (HET.out.low l5)
    clear l5 a0 a1 HA BA4 BB4 HET L4
    obtain ⟨a0, a1⟩ := BA5.out.at2
    have HB := Lib.hid (rabove_c ws w5 v4 a HE5.out (by rw [HWS.out]; exact good_nil))
    go_wp2_with fail
    refine HB.out.mono ?_
    rintro e w6 ⟨v6, rfl, hu6, l6⟩
    rw [HWS.out, abv_nil] at hu6
    obtain ⟨a6, c6, hv6⟩ := usAt_len hu6
    replace hv6 : v6 = .slice a6 0 c6 := hv6
    subst hv6
    have L6 := Lib.hid (L5.out.trans l6)
    have BA6 := Lib.hid (BA5.out.low l6)
    have BB6 := Lib.hid (BB5.out.low l6)
    have HE6 := Lib.hid (HE5.out.low l6)
    clear l6 a0 a1 HB hu6 BA5 BB5 HE5 L5
    obtain ⟨q, hq⟩ : ∃ q, q = decide (a = b) := ⟨_, rfl⟩
    have HI1 := Lib.hid (show ∀ p : InC (Low w6), Calls Tryz.prog 18 #[.pointer none, .agg #[.string a.t, .string a.i], .agg #[.string b.t, .string b.i]] p.w fun e w'' => e = .returned (.bool q) ∧ ∃ p' : InC (Low w6), w'' = p'.w from fun p => Calls.cls p ((in_nil p.w a b).mono fun e w' ⟨h1, h2⟩ => ⟨by rw [h1, hq], p.ok.trans h2⟩))
    have HI2 := Lib.hid (show ∀ p : InC (Low w6), Calls Tryz.prog 19 #[v4, .agg #[.string a.t, .string a.i], .agg #[.string b.t, .string b.i]] p.w fun e w'' => e = .returned (.bool q) ∧ ∃ p' : InC (Low w6), w'' = p'.w from fun p => Calls.cls p ((rin_c ws p.w v4 a b (HE6.out.low p.ok) (by rw [HWS.out]; exact good_nil)).mono fun e w' ⟨h1, h2⟩ => ⟨by rw [h1, HWS.out, in_nilL, hq], p.ok.trans h2⟩))
    clear hq
    obtain ⟨a0, a1⟩ := BA6.out.at2
    obtain ⟨b0, b1⟩ := BB6.out.at2
    have a0 := fun p => cls_low_cell a0 p
    have a1 := fun p => cls_low_cell a1 p
    have b0 := fun p => cls_low_cell b0 p
    have b1 := fun p => cls_low_cell b1 p
    go_wp2_with fail
    haveI : Nonempty (InC (Low w6)) := ⟨⟨w6.drew, (Gr.refl w6).drew.low⟩⟩
    refine wp_region_cls (Low w6) mixed (by kernel_rfl) (Gr.refl w6).drew.low ?_
    repeat (quiet_step ((first | (with_reducible exact HI1.out _) | (with_reducible exact HI2.out _))))
    refine wpQuiet_nil ?_
    rintro W9 ⟨p9, hW9⟩
    have L9 := Lib.hid (show Low w6 W9 by rw [hW9]; exact p9.ok)
    clear hW9 p9 a0 a1 b0 b1 HI1 HI2
    cases q with
    | true =>
      go_wp2_with fail
      go_loopg [15] 1 (fun gk vi wr => vi = .int .i64 0 ∧ Hid (Low w6 wr))
      case atStart => exact ⟨rfl, L9⟩
      case round =>
        obtain ⟨rfl, G⟩ := hrel
        go_wp2_with fail
        go_ret
        exact ⟨rfl, L6.out.trans G.out⟩
    | false =>
      go_wp2_with fail
      go_loopg [15] 1 (fun gk vi wr => vi = .int .i64 0 ∧ Hid (Low w6 wr))
      case atStart => exact ⟨rfl, L9⟩
      case round =>
        obtain ⟨rfl, G⟩ := hrel
        go_wp2_with fail
        go_ret
        exact ⟨rfl, L6.out.trans G.out⟩
  · obtain rfl : c1 = 0 := h0
    have H0 := Lib.hid (show (canE canD (ensOf qs)).1 = 0 by rw [HR1.out])
    have HRS := Lib.hid (show ensOf rs = (canE canD (ensOf qs)).2 by rw [HR1.out]; exact hrs)
    have HG := Lib.hid (show GoodC (ensOf rs) by rw [HRS.out]; exact good_can H0.out H20.out HSM.out)
    have L3 := Lib.hid (L2.out.trans l3)
    have BA3 := Lib.hid (BA2.out.low l3)
    have BB3 := Lib.hid (BB2.out.low l3)
    have HMA := Lib.hid (show w.heap.size ≤ z.ma from Nat.le_trans L2.out.size hma)
    have HS := Lib.hid hs
    clear CC l3 hrs hs hma L2 BA2 BB2
    have RC := Lib.hid (HRC.out w3 L3.out)
    clear HRC
    go_wp2_with fail
    refine RC.out.mono ?_
    rintro e w4 ⟨v4, rfl, l4, ws, hws, het⟩
    have HWS := Lib.hid (show ensOf ws = ensOf rs by rw [HRS.out, HR1.out]; exact hws)
    have HET := Lib.hid het
    have L4 := Lib.hid (L3.out.trans l4)
    have BA4 := Lib.hid (BA3.out.low l4)
    have BB4 := Lib.hid (BB3.out.low l4)
    have HS4 := Lib.hid (HS.out.low l4)
    clear l4 hws het RC BA3 BB3 L3 HS
    obtain ⟨a0, a1⟩ := BA4.out.at2
    have HA := Lib.hid (above6_c w4 z rs a HS4.out HG.out)
    show _
    go_wp2_with fail
    refine HA.out.mono ?_
    rintro e w5 ⟨v5, rfl, hu5, hs5, l5⟩
    obtain ⟨A, hA⟩ : ∃ A, A = abvN (ensOf rs) a := ⟨_, rfl⟩
    rw [← hA] at hu5
    have HAA := Lib.hid hA
    have HU5 := Lib.hid hu5
    have L5 := Lib.hid (l5.low L4.out HMA.out)
    have BA5 := Lib.hid (BA4.out.lwc l5)
    have BB5 := Lib.hid (BB4.out.lwc l5)
    have HE5 := Lib.hid (HET.out.lw l5)
    have HS5 := Lib.hid hs5
    clear l5 a0 a1 HA BA4 BB4 HET L4 HS4 hu5 hs5 hA
    obtain ⟨a0, a1⟩ := BA5.out.at2
    have HB := Lib.hid (rabove_c ws w5 v4 a HE5.out (by rw [HWS.out]; exact HG.out))
    rw [HWS.out, ← HAA.out] at HB
    obtain ⟨a5, c5, hv5, ⟨hl5, hl6⟩, hx5⟩ := id HU5.out
    subst hv5
    go_wp2_with fail
    refine HB.out.mono ?_
    rintro e w6 ⟨v6, rfl, hu6, l6⟩
    have HU6 := Lib.hid hu6
    have HV5 := Lib.hid (HU5.out.low l6)
    have L6 := Lib.hid (L5.out.trans l6)
    have BA6 := Lib.hid (BA5.out.low l6)
    have BB6 := Lib.hid (BB5.out.low l6)
    have HE6 := Lib.hid (HE5.out.low l6)
    have HS6 := Lib.hid (HS5.out.low l6)
    clear l6 a0 a1 HB hu6 BA5 BB5 HE5 L5 HS5 HU5 hx5
    obtain ⟨a6, c6, hv6, ⟨hl7, hl8⟩, hx6⟩ := id HU6.out
    subst hv6
    obtain ⟨q, hq⟩ : ∃ q, q = inB (ensOf rs) a b := ⟨_, rfl⟩
    have HI1 := Lib.hid fun p => cls_in (z := z) (W := w6) HG.out a b hq.symm p
    have HI2 := Lib.hid (show ∀ p : InC (ClsS z rs w6), Calls Tryz.prog 19 #[v4, .agg #[.string a.t, .string a.i], .agg #[.string b.t, .string b.i]] p.w fun e w'' => e = .returned (.bool q) ∧ ∃ p' : InC (ClsS z rs w6), w'' = p'.w from fun p => Calls.cls p ((rin_c ws p.w v4 a b (HE6.out.lw p.ok.2) (by rw [HWS.out]; exact HG.out)).mono fun e w' ⟨h1, h2⟩ => ⟨by rw [h1, HWS.out, hq], p.ok.1.low h2, p.ok.2.trans (Lw.of_low h2 p.ok.1.isMap)⟩))
    clear hq hx6
    obtain ⟨M, hM⟩ : ∃ M, M = A.length := ⟨_, rfl⟩
    have HM := Lib.hid hM
    rw [← hM] at hl5 hl7 ⊢
    clear hM
    obtain ⟨a0, a1⟩ := BA6.out.at2
    obtain ⟨b0, b1⟩ := BB6.out.at2
    have a0 := fun p => cls_cell (z := z) (rs := rs) a0 p
    have a1 := fun p => cls_cell (z := z) (rs := rs) a1 p
    have b0 := fun p => cls_cell (z := z) (rs := rs) b0 p
    have b1 := fun p => cls_cell (z := z) (rs := rs) b1 p
    go_wp2_with fail
    haveI : Nonempty (InC (ClsS z rs w6)) := ⟨⟨w6.drew, ClsS.start HS6.out⟩⟩
    refine wp_region_cls (ClsS z rs w6) mixed (by kernel_rfl) (ClsS.start HS6.out) ?_
    repeat (quiet_step ((first | (with_reducible exact HI1.out _) | (with_reducible exact HI2.out _))))
    refine wpQuiet_nil ?_
    rintro W9 ⟨p9, hW9⟩
    have L9 := Lib.hid (show Lw z.ma w6 W9 by rw [hW9]; exact p9.ok.2)
    have S9 := Lib.hid (show Sto W9 z rs by rw [hW9]; exact p9.ok.1)
    clear hW9 p9 a0 a1 b0 b1 HI1 HI2
    have HWAY := Lib.hid (show ∀ x ∈ A, inB (ensOf rs) a x = true from fun x hx => by
      rw [HAA.out] at hx
      unfold abvN at hx
      have := (List.mem_filter.1 hx).2
      exact inB_iff.2 (.inr (by simpa using this)))
    have L9' := Lib.hid (show Low w W9 from L9.out.low L6.out HMA.out)
    obtain ⟨x5, y5, hx5, -, hc5⟩ := HV5.out
    simp only [Value.slice.injEq, true_and] at hx5
    obtain ⟨rfl, rfl⟩ := hx5
    obtain ⟨x6, y6, hx6, -, hc6⟩ := HU6.out
    simp only [Value.slice.injEq, true_and] at hx6
    obtain ⟨rfl, rfl⟩ := hx6
    have HC5 := Lib.hid hc5
    have HC6 := Lib.hid hc6
    have BA9 := Lib.hid BA6.out
    clear hc5 hc6 L9' HV5 HU6 BA6 BB6 HE6
    cases q
    all_goals
      go_wp2_with fail
      go_loopg [15] M (fun gk vi wr => ∃ i : Nat, vi = .int .i64 (i : Int) ∧ i ≤ M ∧ M - i ≤ gk ∧ Hid (Lw z.ma w6 wr) ∧ Hid (Sto wr z rs))
      case atStart => exact ⟨0, rfl, Nat.zero_le _, Nat.le_refl _, L9, S9⟩
      case round =>
        clear L9 S9
        obtain ⟨i, rfl, hi, hg, L, S⟩ := hrel
        by_cases hlt : i < M
        · have zl : (i : Int) < (M : Int) := by omega
          have hiA : i < A.length := by rw [← HM.out]; exact hlt
          obtain ⟨b5, o5, rfl, hs5⟩ := HC5.out i hiA
          obtain ⟨b6, o6, rfl, hs6⟩ := HC6.out i hiA
          obtain ⟨r0, r1⟩ := cells2 (L.out.cells hs5)
          obtain ⟨s0, s1⟩ := cells2 (L.out.cells hs6)
          obtain ⟨a0, a1⟩ := (BA9.out.lwc L.out).at2
          obtain ⟨x, hx⟩ : ∃ x, x = A[i] := ⟨_, rfl⟩
          rw [← hx] at r0 r1 s0 s1
          have HI := Lib.hid fun p => cls_in (z := z) (W := wr) HG.out a x (HWAY.out x (by rw [hx]; exact List.getElem_mem hiA)) p
          have qN : ∀ W, (binOp .neq 24 (.agg #[.string x.t, .string x.i]) (.agg #[.string x.t, .string x.i])).run Tryz.prog W = .ok (.bool false) W := fun W => by rw [us_neq, decide_eq_true rfl]; rfl
          clear hx hs5 hs6
          have a0 := fun p => cls_cell (z := z) (rs := rs) a0 p
          have a1 := fun p => cls_cell (z := z) (rs := rs) a1 p
          have r0 := fun p => cls_cell (z := z) (rs := rs) r0 p
          have r1 := fun p => cls_cell (z := z) (rs := rs) r1 p
          have s0 := fun p => cls_cell (z := z) (rs := rs) s0 p
          have s1 := fun p => cls_cell (z := z) (rs := rs) s1 p
          go_wp2_with fail
          haveI : Nonempty (InC (ClsS z rs wr)) := ⟨⟨wr.drew, ClsS.start S.out⟩⟩
          refine wp_region_cls (ClsS z rs wr) mixed (by kernel_rfl) (ClsS.start S.out) ?_
          repeat (quiet_step ((first | (with_reducible exact HI.out _))))
          refine wpQuiet_nil ?_
          rintro W8 ⟨p8, hW8⟩
          have L8 := Lib.hid (show Lw z.ma wr W8 by rw [hW8]; exact p8.ok.2)
          have S8 := Lib.hid (show Sto W8 z rs by rw [hW8]; exact p8.ok.1)
          clear hW8 p8 a0 a1 r0 r1 s0 s1 HI qN
          go_wp2_with fail
          go_roundg (M - (i + 1))
          case measure => omega
          case rel => exact ⟨i + 1, by go_num, by omega, by omega, Lib.hid (L.out.trans L8.out), S8⟩
        · have zl : ¬ (i : Int) < (M : Int) := by omega
          go_wp2_with fail
          go_ret
          exact ⟨rfl, L.out.low L6.out HMA.out⟩
end Go.Proofs.YtmkillbanmbafaaGreat
