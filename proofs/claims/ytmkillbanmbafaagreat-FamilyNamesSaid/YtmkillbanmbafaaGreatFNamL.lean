/- Every entity of a store is found under its name, is in itself, and in each of its parents. No condition. -/
import Derived.Test.YtmkillbanmbafaaGreatNilX
namespace Go.Proofs.YtmkillbanmbafaaGreat
open Go.RowKit Go.Sort Go.Maps
set_option maxHeartbeats 16000000 in
set_option maxRecDepth 100000 in
theorem familyNames_v (qs : List Ee) (w : World) (r : Value) (h : EtAt w r qs) : Calls Tryz.prog 7 #[r] w fun e w' => e = .returned (.bool true) ∧ Low w w' := by
  obtain ⟨ao, c, rfl, ⟨hlc, hc9⟩, hx⟩ := h.at
  have mixed : Tryz.prog.follows .mixedOrders = true := by kernel_rfl
  have HE := Lib.hid h
  have HXX := Lib.hid hx
  clear h hx
  go_enter Tryz.func7, Tryz.ntmps7
  go_wp2_with fail
  refine (awake6_c _).mono ?_
  rintro e w1 ⟨rfl, l1⟩
  have L1 := Lib.hid l1
  clear l1
  have SC := Lib.hid (small_c qs w1 _ (HE.out.low L1.out))
  go_wp2_with fail
  refine SC.out.mono ?_
  rintro e w2 ⟨p, rfl, hp, g⟩
  have L2 := Lib.hid (L1.out.trans g.low)
  have HP := Lib.hid hp
  clear hp g SC
  rcases p with _ | _
  · go_wp2_with fail
    go_ret
    exact ⟨rfl, L2.out⟩
  obtain ⟨h20, hsm⟩ := HP.out rfl
  have HSM := Lib.hid (show ∀ e ∈ ensOf qs, SmE e from fun e he => by unfold ensOf at he; obtain ⟨q, hq, rfl⟩ := List.mem_map.1 he; exact hsm q hq)
  have H20 := Lib.hid (show (ensOf qs).length ≤ 20 by unfold ensOf; rwa [List.length_map])
  have HPqs := Lib.hid (show ∀ q ∈ qs, q.e.ps.length ≤ 20 from fun q hq => (hsm q hq).2.2)
  have CC := Lib.hid (load_c qs w2 _ (HE.out.low L2.out) (few_sm H20.out HSM.out) fun q hq => (hsm q hq).1)
  clear HP hsm
  obtain ⟨N, hN⟩ : ∃ N, N = qs.length := ⟨_, rfl⟩
  rw [← hN] at h20 hlc CC ⊢
  have HN := Lib.hid hN
  obtain ⟨c1, res1, hres⟩ : ∃ c1 res1, canE canD (ensOf qs) = (c1, res1) := ⟨_, _, rfl⟩
  rw [hres] at CC
  have HR1 := Lib.hid hres
  clear hN hres
  go_wp2_with fail
  refine CC.out.mono ?_
  rintro e w3 (⟨h0, rfl, l3⟩ | ⟨h0, z, rs, rfl, l3, hrs, hs, hma⟩)
  · have L3 := Lib.hid (L2.out.trans l3)
    have zc : (c1 != 0) = true := by simpa using h0
    clear CC l3 h0
    have HA := Lib.hid (all_nil w3)
    go_wp2_with fail
    refine HA.out.mono ?_
    rintro e w4 ⟨rfl, l4⟩
    have L4 := Lib.hid (L3.out.trans l4)
    clear l4 HA
    go_wp2_with fail
    go_ret
    exact ⟨rfl, L4.out⟩
  · obtain rfl : c1 = 0 := h0
    have H0 := Lib.hid (show (canE canD (ensOf qs)).1 = 0 by rw [HR1.out])
    have HRS := Lib.hid (show ensOf rs = (canE canD (ensOf qs)).2 by rw [HR1.out]; exact hrs)
    have HG := Lib.hid (show GoodC (ensOf rs) by rw [HRS.out]; exact good_can H0.out H20.out HSM.out)
    have L3 := Lib.hid (L2.out.trans l3)
    have HMA := Lib.hid (show w.heap.size ≤ z.ma from Nat.le_trans L2.out.size hma)
    have HS := Lib.hid hs
    clear CC l3 hrs hs hma L1 L2
    go_wp2_with fail
    go_loopg [7] N (fun gk vi wr => ∃ i : Nat, vi = .int .i64 (i : Int) ∧ i ≤ N ∧ N - i ≤ gk ∧ Hid (Low w wr) ∧ Hid (Sto wr z rs))
    case atStart => exact ⟨0, rfl, Nat.zero_le _, Nat.le_refl _, L3, HS⟩
    case round =>
      clear L3 HS
      obtain ⟨i, rfl, hi, hg, G, S⟩ := hrel
      by_cases hlt : i < N
      · have zl : (i : Int) < (N : Int) := by omega
        have hiq : i < qs.length := by rw [← HN.out]; exact hlt
        obtain ⟨b, o, rfl, hcs⟩ := HXX.out i hiq
        obtain ⟨q, hq⟩ : ∃ q, q = qs[i] := ⟨_, rfl⟩
        rw [← hq] at hcs
        have HCS := Lib.hid hcs
        have HQM := Lib.hid (show q ∈ qs by rw [hq]; exact List.getElem_mem hiq)
        have HQE := Lib.hid (show q.e ∈ ensOf qs from List.mem_map_of_mem HQM.out)
        have HUN := Lib.hid (show q.e.u ∈ namesE (ensOf rs) by rw [HRS.out, can_names H0.out]; exact List.mem_map.2 ⟨_, HQE.out, rfl⟩)
        clear hcs hq
        obtain ⟨e0, e1, -⟩ := ee11 (G.out.cells HCS.out)
        have HC1 := Lib.hid (get6_c wr z rs q.e.u S.out HG.out)
        go_wp2_with fail
        refine HC1.out.mono ?_
        rintro e w5 ⟨x, hxe, he, -, l5⟩
        rw [decide_eq_true HUN.out] at he
        subst he
        have HXU := Lib.hid (show x.e.u = q.e.u by
          rw [hxe]
          have h1 := fstQ_there rs q.e.u
          rw [decide_eq_true HUN.out] at h1
          obtain ⟨y, hy⟩ := Option.isSome_iff_exists.1 h1
          rw [hy]; exact (fstQ_mem hy).2)
        have HL5 := Lib.hid l5
        obtain ⟨V, hV⟩ : ∃ W, W = w5.alloc (.cells #[.string x.e.u.t, .string x.e.u.i, .slice x.ap x.e.ps.length x.cp, .int .i64 x.e.a.h.k, .bool x.e.a.h.b, .int .i64 x.e.a.h.n, .string x.e.a.h.s, .string x.e.a.h.t, .string x.e.a.h.i, .slice x.ai x.e.a.l.length x.ci, .slice x.an x.e.a.ns.length x.cn] 39) := ⟨_, rfl⟩
        have HV := Lib.hid hV
        have LV := Lib.hid (show Low wr V by rw [hV]; exact l5.trans (Low.alloc (Low.refl w5) _))
        have BX := Lib.hid (show BoxAt V w5.heap.size [.string x.e.u.t, .string x.e.u.i, .slice x.ap x.e.ps.length x.cp, .int .i64 x.e.a.h.k, .bool x.e.a.h.b, .int .i64 x.e.a.h.n, .string x.e.a.h.s, .string x.e.a.h.t, .string x.e.a.h.i, .slice x.ai x.e.a.l.length x.ci, .slice x.an x.e.a.ns.length x.cn] from BoxAt.made hV rfl rfl)
        have SV := Lib.hid (S.out.low LV.out)
        have GV := Lib.hid (G.out.trans LV.out)
        clear hxe l5 hV e0 e1 HC1
        go_upto_region 14 with fail
        rw [← HV.out]
        clear HV
        obtain ⟨e0, e1, -⟩ := ee11 (GV.out.cells HCS.out)
        have e0 := fun p => cls_cell (z := z) (rs := rs) e0 p
        have e1 := fun p => cls_cell (z := z) (rs := rs) e1 p
        have x0 := BX.out.at 0 _ rfl
        have x1 := BX.out.at 1 _ rfl
        rw [HXU.out] at x0 x1
        have x0 := fun p => cls_cell (z := z) (rs := rs) x0 p
        have x1 := fun p => cls_cell (z := z) (rs := rs) x1 p
        have qN : ∀ W, (binOp .neq 24 (.agg #[.string q.e.u.t, .string q.e.u.i]) (.agg #[.string q.e.u.t, .string q.e.u.i])).run Tryz.prog W = .ok (.bool false) W := fun W => by rw [us_neq, decide_eq_true rfl]; rfl
        have HI := Lib.hid fun p => cls_in (z := z) (W := V) HG.out q.e.u q.e.u (inB_iff.2 (.inl rfl)) p
        go_wp2_with fail
        haveI : Nonempty (InC (ClsS z rs V)) := ⟨⟨V.drew, ClsS.start SV.out⟩⟩
        refine wp_region_cls (ClsS z rs V) mixed (by kernel_rfl) (ClsS.start SV.out) ?_
        repeat (quiet_step ((first | (with_reducible exact HI.out _))))
        refine wpQuiet_nil ?_
        rintro W9 ⟨p9, hW9⟩
        have L9 := Lib.hid (show Lw z.ma V W9 by rw [hW9]; exact p9.ok.2)
        have S9 := Lib.hid (show Sto W9 z rs by rw [hW9]; exact p9.ok.1)
        have G9 := Lib.hid (show Low w W9 from Lw.low GV.out L9.out HMA.out)
        clear hW9 p9 e0 e1 x0 x1 qN HI
        have HUP := Lib.hid (show ∀ p ∈ q.e.ps, inB (ensOf rs) q.e.u p = true ∧ inB (ensOf rs) p q.e.u = false from fun p hp => by rw [HRS.out]; exact can_up H0.out HQE.out hp)
        have HPN := Lib.hid (HPqs.out q HQM.out)
        have HPS := Lib.hid (show UsAt w (.slice q.ap q.e.ps.length q.cp) q.e.ps from (HE.out.2 q HQM.out).1.any)
        obtain ⟨n, hn⟩ : ∃ n, n = q.e.ps.length := ⟨_, rfl⟩
        have HNP := Lib.hid hn
        have hn20 : n ≤ 20 := by rw [hn]; exact HPN.out
        clear hn
        go_wp2_with fail
        go_loopg [10] n (fun gj vj wi => ∃ j : Nat, vj = .int .i64 (j : Int) ∧ j ≤ n ∧ n - j ≤ gj ∧ Hid (Low w wi) ∧ Hid (Sto wi z rs))
        case atStart => exact ⟨0, rfl, Nat.zero_le _, Nat.le_refl _, G9, S9⟩
        case round =>
          clear L9 S9 G9 LV BX SV GV HL5 G S
          obtain ⟨j, rfl, hj, hgj, G, S⟩ := hrel
          obtain ⟨e0, e1, e2, -⟩ := ee11 (G.out.cells HCS.out)
          rw [← HNP.out] at e2
          by_cases hjt : j < n
          · have zj : (j : Int) < (n : Int) := by omega
            obtain ⟨ap, cp, hpv, -, hp3⟩ := HPS.out
            obtain ⟨az, haz⟩ : ∃ a, a = q.ap := ⟨_, rfl⟩
            obtain ⟨cz, hcz⟩ : ∃ a, a = q.cp := ⟨_, rfl⟩
            rw [← haz, ← hcz] at hpv e2
            simp only [Value.slice.injEq, true_and] at hpv
            obtain ⟨rfl, rfl⟩ := hpv
            have hjp : j < q.e.ps.length := by rw [← HNP.out]; exact hjt
            obtain ⟨pb, po, rfl, hpc⟩ := hp3 j hjp
            obtain ⟨d0, d1⟩ := cells2 (G.out.cells hpc)
            obtain ⟨p, hp⟩ : ∃ p, p = q.e.ps[j] := ⟨_, rfl⟩
            rw [← hp] at d0 d1
            obtain ⟨hi1, hi2⟩ := HUP.out p (by rw [hp]; exact List.getElem_mem hjp)
            have HI1 := Lib.hid fun p' => cls_in (z := z) (W := wr) HG.out q.e.u p hi1 p'
            have HI2 := Lib.hid fun p' => cls_in (z := z) (W := wr) HG.out p q.e.u hi2 p'
            clear hp hpc hi1 hi2 haz hcz hp3
            go_wp2_with fail
            have e0 := fun p => cls_cell (z := z) (rs := rs) e0 p
            have e1 := fun p => cls_cell (z := z) (rs := rs) e1 p
            have e2 := fun p => cls_cell (z := z) (rs := rs) e2 p
            have d0 := fun p => cls_cell (z := z) (rs := rs) d0 p
            have d1 := fun p => cls_cell (z := z) (rs := rs) d1 p
            haveI : Nonempty (InC (ClsS z rs wr)) := ⟨⟨wr.drew, ClsS.start S.out⟩⟩
            refine wp_region_cls (ClsS z rs wr) mixed (by kernel_rfl) (ClsS.start S.out) ?_
            repeat (quiet_step ((first | (with_reducible exact HI1.out _) | (with_reducible exact HI2.out _))))
            refine wpQuiet_nil ?_
            rintro W8 ⟨p8, hW8⟩
            have L8 := Lib.hid (show Lw z.ma wr W8 by rw [hW8]; exact p8.ok.2)
            have S8 := Lib.hid (show Sto W8 z rs by rw [hW8]; exact p8.ok.1)
            clear hW8 p8 e0 e1 e2 d0 d1 HI1 HI2
            go_wp2_with fail
            go_roundg (n - (j + 1))
            case measure => omega
            case rel => exact ⟨j + 1, by go_num, by omega, by omega, Lib.hid (Lw.low G.out L8.out HMA.out), S8⟩
          · have zj : ¬ (j : Int) < (n : Int) := by omega
            go_wp2_with fail
            go_roundg (N - (i + 1))
            case measure => omega
            case rel => exact ⟨i + 1, by go_num, by omega, by omega, G, S⟩
      · have zl : ¬ (i : Int) < (N : Int) := by omega
        obtain rfl : i = N := by omega
        have HA := Lib.hid (all6_c wr z rs S.out HG.out)
        go_wp2_with fail
        refine HA.out.mono ?_
        rintro e w7 ⟨v, al, rfl, hal, hO, -, -, l7⟩
        obtain ⟨av, ca, hv, -, -, -⟩ := OwnR.shape hO
        rw [show al.length = i by have h1 := congrArg List.length hal; rw [HRS.out, can_len H0.out] at h1; rw [HN.out]; simpa [ensOf] using h1] at hv
        subst hv
        have L7 := Lib.hid (G.out.trans l7)
        clear hO l7 hal HA
        go_wp2_with fail
        go_ret
        exact ⟨by simp, L7.out⟩
end Go.Proofs.YtmkillbanmbafaaGreat
