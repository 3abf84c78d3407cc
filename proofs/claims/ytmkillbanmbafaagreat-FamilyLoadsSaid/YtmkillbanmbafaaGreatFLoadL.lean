/- The store of any entities has just those that the document says, under their names, or is refused. No condition. -/
import Derived.Test.YtmkillbanmbafaaGreatFAbvL
namespace Go.Proofs.YtmkillbanmbafaaGreat
open Go.RowKit Go.Sort Go.Maps
theorem et_sub {w : World} {b o n c c' i : Nat} {ws : List Ee} (h : EtAt w (.slice (some ⟨b, o, none⟩) n c) ws) (hi : i < ws.length) (hc : 1 ≤ c') (h9 : c' ≤ 9223372036854775807) : EtAt w (.slice (some ⟨b, o + i * 11, none⟩) 1 c') [ws[i]] := by
  obtain ⟨ao, k, hv, -, hx⟩ := h.at
  simp only [Value.slice.injEq] at hv
  obtain ⟨rfl, -, -⟩ := hv
  refine ⟨⟨some ⟨b, o + i * 11, none⟩, c', rfl, ⟨hc, h9⟩, fun j hj => ?_⟩, fun q hq => by simp at hq; rw [hq]; exact h.2 _ (List.getElem_mem hi)⟩
  have hj0 : j = 0 := by simp at hj; exact hj
  subst hj0
  obtain ⟨b', o', e, hs⟩ := hx i hi
  simp only [Option.some.injEq, Addr.mk.injEq] at e
  obtain ⟨rfl, rfl, -⟩ := e
  exact ⟨b, o + i * 11, rfl, by simpa using hs⟩
theorem et_nilA (w : World) : EtAt w (.slice none 0 0) [] := et_nil w
set_option maxHeartbeats 16000000 in
set_option maxRecDepth 100000 in
theorem familyLoads_v (qs : List Ee) (u : Us) (w : World) (r : Value) (h : EtAt w r qs) : Calls Tryz.prog 3 #[r, .agg #[.string u.t, .string u.i]] w fun e w' => e = .returned (.bool true) ∧ Low w w' := by
  obtain ⟨ao, c, rfl, ⟨hlc, hc9⟩, hx⟩ := h.at
  have mixed : Tryz.prog.follows .mixedOrders = true := by kernel_rfl
  have HE := Lib.hid h
  obtain ⟨U0, hU0⟩ : ∃ W, W = w.alloc (.cells #[.string u.t, .string u.i] 24) := ⟨_, rfl⟩
  have HU0 := Lib.hid hU0
  have L0 := Lib.hid (show Low w U0 by rw [hU0]; exact Low.alloc (Low.refl w) _)
  have BA := Lib.hid (show BoxAt U0 w.heap.size [.string u.t, .string u.i] from BoxAt.made hU0 rfl rfl)
  clear h hx hU0
  go_enter Tryz.func3, Tryz.ntmps3
  go_upto_region 1 with fail
  rw [← HU0.out]
  clear HU0
  go_wp2_with fail
  refine (awake6_c _).mono ?_
  rintro e w1 ⟨rfl, l1⟩
  have L1 := Lib.hid (L0.out.trans l1)
  have BA1 := Lib.hid (BA.out.low l1)
  clear l1 BA L0
  have SC := Lib.hid (small_c qs w1 _ (HE.out.low L1.out))
  go_wp2_with fail
  refine SC.out.mono ?_
  rintro e w2 ⟨p, rfl, hp, g⟩
  have L2 := Lib.hid (L1.out.trans g.low)
  have BA2 := Lib.hid (BA1.out.low g.low)
  have HP := Lib.hid hp
  clear hp g SC BA1 L1
  rcases p with _ | _
  · go_wp2_with fail
    go_ret
    exact ⟨rfl, L2.out⟩
  obtain ⟨h20, hsm⟩ := HP.out rfl
  have HSM := Lib.hid (show ∀ e ∈ ensOf qs, SmE e from fun e he => by unfold ensOf at he; obtain ⟨q, hq, rfl⟩ := List.mem_map.1 he; exact hsm q hq)
  have H20 := Lib.hid (show (ensOf qs).length ≤ 20 by unfold ensOf; rwa [List.length_map])
  have HDP := Lib.hid (show ∀ q ∈ qs, Sm q.e.a ∧ dep q.e.a ≤ 1000000 from fun q hq => ⟨(hsm q hq).1, by have := (hsm q hq).2.1; omega⟩)
  have CC := Lib.hid (load_c qs w2 _ (HE.out.low L2.out) (few_sm H20.out HSM.out) fun q hq => (hsm q hq).1)
  clear HP hsm
  obtain ⟨c1, res1, hres⟩ : ∃ c1 res1, canE canD (ensOf qs) = (c1, res1) := ⟨_, _, rfl⟩
  rw [hres] at CC
  have HR1 := Lib.hid hres
  have HRC := Lib.hid fun W (l : Low w W) => rcanE_c qs W _ (HE.out.low l) (few_sm H20.out HSM.out) (fun q hq => (HDP.out q hq).1) (fun q hq => (HDP.out q hq).2)
  rw [hres] at HRC
  obtain ⟨N, hN⟩ : ∃ N, N = qs.length := ⟨_, rfl⟩
  rw [← hN] at h20 hlc CC HRC ⊢
  clear hres hN
  go_wp2_with fail
  refine CC.out.mono ?_
  rintro e w3 (⟨h0, rfl, l3⟩ | ⟨h0, z, rs, rfl, l3, hrs, hs, hma⟩)
  · have L3 := Lib.hid (L2.out.trans l3)
    have BA3 := Lib.hid (BA2.out.low l3)
    have HZ := Lib.hid (show res1 = [] by
      have h1 := canE_ok (c := canD) (l := ensOf qs)
      have h2 : canE canD (ensOf qs) = (c1, res1) := HR1.out
      unfold canE at h2
      by_cases k1 : 4096 < (ensOf qs).length
      · rw [if_pos k1] at h2; exact (Prod.mk.inj h2).2.symm
      · rw [if_neg k1] at h2
        by_cases k2 : (namesE (ensOf qs)).Nodup
        · rw [if_pos k2] at h2
          by_cases k3 : errL canD (namesE (ensOf qs)) (ensOf qs) = 0
          · rw [if_pos k3] at h2
            by_cases k4 : RoundE (ensOf qs)
            · rw [if_pos k4] at h2; exact (Prod.mk.inj h2).2.symm
            · rw [if_neg k4] at h2; exact absurd (Prod.mk.inj h2).1.symm h0
          · rw [if_neg k3] at h2; exact (Prod.mk.inj h2).2.symm
        · rw [if_neg k2] at h2; exact (Prod.mk.inj h2).2.symm)
    have H0 := Lib.hid h0
    clear CC l3 h0 BA2 L2
    have RC := Lib.hid (HRC.out w3 L3.out)
    clear HRC
    go_wp2_with fail
    refine RC.out.mono ?_
    rintro e w4 ⟨v4, rfl, l4, ws, hws, het⟩
    have hws0 : ws = [] := by
      have h1 := congrArg List.length (show ensOf ws = res1 from hws)
      rw [HZ.out] at h1
      exact List.eq_nil_of_length_eq_zero (by simpa [ensOf] using h1)
    subst hws0
    have HET := Lib.hid het
    have L4 := Lib.hid (L3.out.trans l4)
    have BA4 := Lib.hid (BA3.out.low l4)
    clear l4 hws het RC BA3 L3
    obtain ⟨a0, a1⟩ := BA4.out.at2
    have zc : (c1 != 0) = true := by simpa using H0.out
    have zcc : (c1 != c1) = false := by simp
    have HA := Lib.hid (get_nil w4 u)
    show _
    go_wp2_with fail
    refine HA.out.mono ?_
    rintro e w5 ⟨rfl, l5⟩
    obtain ⟨V, hV⟩ : ∃ W, W = w5.alloc (.cells #[.string ⟨#[]⟩, .string ⟨#[]⟩, .slice none 0 0, .int .i64 0, .bool false, .int .i64 0, .string ⟨#[]⟩, .string ⟨#[]⟩, .string ⟨#[]⟩, .slice none 0 0, .slice none 0 0] 39) := ⟨_, rfl⟩
    have HV := Lib.hid hV
    have LV := Lib.hid (show Low w4 V by rw [hV]; exact l5.trans (Low.alloc (Low.refl w5) _))
    have BX := Lib.hid (show BoxAt V w5.heap.size [.string ⟨#[]⟩, .string ⟨#[]⟩, .slice none 0 0, .int .i64 0, .bool false, .int .i64 0, .string ⟨#[]⟩, .string ⟨#[]⟩, .string ⟨#[]⟩, .slice none 0 0, .slice none 0 0] from BoxAt.made hV rfl rfl)
    have L5 := Lib.hid (L4.out.trans LV.out)
    have BA5 := Lib.hid (BA4.out.low LV.out)
    have HE5 := Lib.hid (HET.out.low LV.out)
    clear l5 a0 a1 HA BA4 HET L4 hV zc zcc
    go_upto_region 12 with fail
    rw [← HV.out]
    clear HV
    obtain ⟨a0, a1⟩ := BA5.out.at2
    have hfi := find_c ([].map Ee.sh) u V v4 HE5.out.1
    rw [show findI ([].map Ee.sh) u = -1 from idx_none fun j hj => by simp at hj] at hfi
    unfold usV at hfi
    have HF := Lib.hid hfi
    clear hfi
    go_wp2_with fail
    refine HF.out.mono ?_
    rintro e w6 ⟨rfl, l6⟩
    have L6 := Lib.hid (L5.out.trans l6)
    have HE6 := Lib.hid (HE5.out.low l6)
    have BX6 := Lib.hid (BX.out.low l6)
    have HAN := Lib.hid (all_nil w6)
    clear l6 a0 a1 HF BA5 HE5 L5 BX
    go_wp2_with fail
    refine HAN.out.mono ?_
    rintro e w7 ⟨rfl, l7⟩
    have L7 := Lib.hid (L6.out.trans l7)
    have BX7 := Lib.hid (BX6.out.low l7)
    have HW := Lib.hid (wholeE_c [] [] w7 _ _ (et_nil w7) (HE6.out.low l7) rfl)
    clear l7 HAN HE6 L6 BX6
    go_wp2_with fail
    refine HW.out.mono ?_
    rintro e w8 ⟨rfl, g8⟩
    have L8 := Lib.hid (L7.out.trans g8.low)
    have BX8 := Lib.hid (BX7.out.low g8.low)
    have qE : ∀ W, (binOp .eql 24 (.agg #[.string ⟨#[]⟩, .string ⟨#[]⟩]) (.agg #[.string ⟨#[]⟩, .string ⟨#[]⟩])).run Tryz.prog W = .ok (.bool true) W := fun W => by have h1 := us_eql uNo uNo W; rw [decide_eq_true rfl] at h1; exact h1
    have x0 := BX8.out.at 0 _ rfl
    have x1 := BX8.out.at 1 _ rfl
    have x2 := BX8.out.at 2 _ rfl
    clear g8 HW L7 BX7
    go_wp2_with fail
    go_ret
    exact ⟨rfl, L8.out⟩
  · obtain rfl : c1 = 0 := h0
    have H0 := Lib.hid (show (canE canD (ensOf qs)).1 = 0 by rw [HR1.out])
    have HRS := Lib.hid (show ensOf rs = (canE canD (ensOf qs)).2 by rw [HR1.out]; exact hrs)
    have HG := Lib.hid (show GoodC (ensOf rs) by rw [HRS.out]; exact good_can H0.out H20.out HSM.out)
    have L3 := Lib.hid (L2.out.trans l3)
    have BA3 := Lib.hid (BA2.out.low l3)
    have HS := Lib.hid hs
    clear CC l3 hrs hs hma L2 BA2
    have RC := Lib.hid (HRC.out w3 L3.out)
    clear HRC
    go_wp2_with fail
    refine RC.out.mono ?_
    rintro e w4 ⟨v4, rfl, l4, ws, hws, het⟩
    have HWS := Lib.hid (show ensOf ws = ensOf rs by rw [HRS.out, HR1.out]; exact hws)
    have HET := Lib.hid het
    have L4 := Lib.hid (L3.out.trans l4)
    have BA4 := Lib.hid (BA3.out.low l4)
    have HS4 := Lib.hid (HS.out.low l4)
    clear l4 hws het RC BA3 L3 HS
    obtain ⟨a0, a1⟩ := BA4.out.at2
    have HA := Lib.hid (get6_c w4 z rs u HS4.out HG.out)
    show _
    go_wp2_with fail
    refine HA.out.mono ?_
    rintro e w5 ⟨x, hxe, rfl, hfr, l5⟩
    obtain ⟨t, ht⟩ : ∃ t, t = decide (u ∈ namesE (ensOf rs)) := ⟨_, rfl⟩
    rw [← ht]
    have HT := Lib.hid ht
    have HXE := Lib.hid hxe
    obtain ⟨V, hV⟩ : ∃ W, W = w5.alloc (.cells #[.string x.e.u.t, .string x.e.u.i, .slice x.ap x.e.ps.length x.cp, .int .i64 x.e.a.h.k, .bool x.e.a.h.b, .int .i64 x.e.a.h.n, .string x.e.a.h.s, .string x.e.a.h.t, .string x.e.a.h.i, .slice x.ai x.e.a.l.length x.ci, .slice x.an x.e.a.ns.length x.cn] 39) := ⟨_, rfl⟩
    have HV := Lib.hid hV
    have LV := Lib.hid (show Low w4 V by rw [hV]; exact l5.trans (Low.alloc (Low.refl w5) _))
    have BX := Lib.hid (show BoxAt V w5.heap.size [.string x.e.u.t, .string x.e.u.i, .slice x.ap x.e.ps.length x.cp, .int .i64 x.e.a.h.k, .bool x.e.a.h.b, .int .i64 x.e.a.h.n, .string x.e.a.h.s, .string x.e.a.h.t, .string x.e.a.h.i, .slice x.ai x.e.a.l.length x.ci, .slice x.an x.e.a.ns.length x.cn] from BoxAt.made hV rfl rfl)
    have HXO := Lib.hid (show EeOk (fun _ => True) V x from (hfr.ok.any).low (by rw [hV]; exact Low.alloc (Low.refl w5) _))
    have L5 := Lib.hid (L4.out.trans LV.out)
    have BA5 := Lib.hid (BA4.out.low LV.out)
    have HE5 := Lib.hid (HET.out.low LV.out)
    have HS5 := Lib.hid (HS4.out.low LV.out)
    clear l5 a0 a1 HA BA4 HET L4 hV hfr hxe HS4 ht
    go_upto_region 12 with fail
    rw [← HV.out]
    clear HV
    obtain ⟨a0, a1⟩ := BA5.out.at2
    obtain ⟨i, hi⟩ : ∃ i, i = findI (ws.map Ee.sh) u := ⟨_, rfl⟩
    have hfi := find_c (ws.map Ee.sh) u V v4 HE5.out.1
    rw [← hi] at hfi
    unfold usV at hfi
    have HF := Lib.hid hfi
    have HI := Lib.hid hi
    clear hfi hi
    go_wp2_with fail
    refine HF.out.mono ?_
    rintro e w6 ⟨rfl, l6⟩
    have L6 := Lib.hid (L5.out.trans l6)
    have HE6 := Lib.hid (HE5.out.low l6)
    have BX6 := Lib.hid (BX.out.low l6)
    have HXO6 := Lib.hid (HXO.out.low l6)
    have HAN := Lib.hid (all6_c w6 z rs (HS5.out.low l6) HG.out)
    clear l6 a0 a1 HF BA5 HE5 L5 BX HXO HS5
    go_wp2_with fail
    refine HAN.out.mono ?_
    rintro e w7 ⟨v7, al, rfl, hal, hO, hE, -, l7⟩
    have L7 := Lib.hid (L6.out.trans l7)
    have BX7 := Lib.hid (BX6.out.low l7)
    have HE7 := Lib.hid (HE6.out.low l7)
    have HXO7 := Lib.hid (HXO6.out.low l7)
    have HW := Lib.hid (wholeE_c al ws w7 _ _ ⟨hO.esAt, fun q hq => (hE q hq).any⟩ HE7.out (by rw [hal, HWS.out]))
    clear l7 HAN HE6 L6 BX6 hO hE hal HXO6
    go_wp2_with fail
    refine HW.out.mono ?_
    rintro e w8 ⟨rfl, g8⟩
    have L8 := Lib.hid (L7.out.trans g8.low)
    have BX8 := Lib.hid (BX7.out.low g8.low)
    have HE8 := Lib.hid (HE7.out.low g8.low)
    have HXO8 := Lib.hid (HXO7.out.low g8.low)
    clear g8 HW L7 BX7 HE7 HXO7
    cases t with
    | false =>
      have hno : u ∉ namesE (ensOf rs) := by have := HT.out; simpa using this.symm
      have hi1 : i = -1 := by
        rw [HI.out]
        refine findI_no ?_
        rw [Bool.eq_false_iff]
        intro h1
        exact hno (by rw [← HWS.out]; exact fS_names.1 h1)
      subst hi1
      have hx0 : x.e = eeNo.e := by
        rw [HXE.out]
        have h1 := fstQ_there rs u
        rw [decide_eq_false hno] at h1
        cases e : fstQ rs u with
        | none => rfl
        | some q => rw [e] at h1; simp at h1
      have hxu : x.e.u.t = ⟨#[]⟩ ∧ x.e.u.i = ⟨#[]⟩ ∧ x.e.ps.length = 0 := by rw [hx0]; exact ⟨rfl, rfl, rfl⟩
      have qE : ∀ W, (binOp .eql 24 (.agg #[.string ⟨#[]⟩, .string ⟨#[]⟩]) (.agg #[.string ⟨#[]⟩, .string ⟨#[]⟩])).run Tryz.prog W = .ok (.bool true) W := fun W => by have h1 := us_eql uNo uNo W; rw [decide_eq_true rfl] at h1; exact h1
      have x0 := BX8.out.at 0 _ rfl
      have x1 := BX8.out.at 1 _ rfl
      have x2 := BX8.out.at 2 _ rfl
      rw [hxu.1] at x0
      rw [hxu.2.1] at x1
      rw [hxu.2.2] at x2
      clear hxu hx0 hno
      go_wp2_with fail
      go_ret
      exact ⟨rfl, L8.out⟩
    | true =>
      have hin : u ∈ namesE (ensOf rs) := by have := HT.out; simpa using this.symm
      have hsn : (fS (ws.map Ee.sh) u).isSome = true := fS_names.2 (by rw [HWS.out]; exact hin)
      obtain ⟨k, hk⟩ : ∃ k, k = idxS (ws.map Ee.sh) u := ⟨_, rfl⟩
      have hik : i = (k : Int) := by rw [HI.out, findI_idx hsn, hk]
      subst hik
      obtain ⟨hk1, hk2⟩ := idx_lt hsn
      simp only [← hk] at hk1 hk2
      have hkq : k < ws.length := by simpa using hk1
      rw [List.getElem_map] at hk2
      replace hk2 : ws[k].e.u = u := hk2
      have hxw : x.e = ws[k].e := by
        rw [HXE.out]
        have h1 := fst_of (rises_names HG.out.rises) (e := ws[k].e) (by rw [← HWS.out]; exact mem_ens hkq)
        rw [hk2] at h1
        exact fst_e h1
      obtain ⟨aw, cw, hvw, ⟨hw1, hw2⟩, -⟩ := HE8.out.at
      subst hvw
      obtain ⟨M, hM⟩ : ∃ M, M = ws.length := ⟨_, rfl⟩
      have HM := Lib.hid hM
      have HXW := Lib.hid hxw
      have HKQ := Lib.hid hkq
      rw [← hM] at hkq hw1 ⊢
      have hM3 : M ≤ 300 := by
        have h1 := congrArg List.length HWS.out
        have h2 := HG.out.len
        simp [ensOf] at h1 h2
        omega
      obtain ⟨bw, ow, haw⟩ : ∃ b o, aw = some ⟨b, o, none⟩ := by
        obtain ⟨ao9, c9, hv9, -, hx9⟩ := HE8.out.at
        simp only [Value.slice.injEq] at hv9
        obtain ⟨rfl, -, -⟩ := hv9
        obtain ⟨b9, o9, e9, -⟩ := hx9 k HKQ.out
        exact ⟨b9, o9, e9⟩
      subst haw
      clear hM hxw hk2 hk1 hk hsn hin
      have zk0 : ¬ (k : Int) < 0 := by omega
      have zk1 : IntKind.i64.wrap ((k : Int) + 1) = (k : Int) + 1 := by rw [IntKind.wrap_i64]; omega
      have zk2 : (k : Int) + 1 ≤ (cw : Int) := by omega
      have zk3 : (0 : Int) ≤ (k : Int) := by omega
      have zk4 : (0 : Int) ≤ (k : Int) + 1 := by omega
      have zk5 : (k : Int) ≤ (k : Int) + 1 := by omega
      obtain ⟨x0, x1, x2, x3, x4, x5, x6, x7, x8, x9, x10⟩ := BX8.out.at11
      go_wp2_with fail
      have zck : ¬ cw = k := by omega
      have hLV : Low w8 ((w8.alloc (.cells #[.string x.e.u.t, .string x.e.u.i, .slice x.ap x.e.ps.length x.cp, .int .i64 x.e.a.h.k, .bool x.e.a.h.b, .int .i64 x.e.a.h.n, .string x.e.a.h.s, .string x.e.a.h.t, .string x.e.a.h.i, .slice x.ai x.e.a.l.length x.ci, .slice x.an x.e.a.ns.length x.cn] 39)).drew) := (Low.alloc (Low.refl w8) _).trans (Gr.refl _).drew.low
      have HLV := Lib.hid hLV
      have HWC := Lib.hid (show Calls Tryz.prog 14 #[.slice (some ⟨w8.heap.size, 0, none⟩) 1 1, .slice (some ⟨bw, ow + k * 11, none⟩) 1 (cw - k)] ((w8.alloc (.cells #[.string x.e.u.t, .string x.e.u.i, .slice x.ap x.e.ps.length x.cp, .int .i64 x.e.a.h.k, .bool x.e.a.h.b, .int .i64 x.e.a.h.n, .string x.e.a.h.s, .string x.e.a.h.t, .string x.e.a.h.i, .slice x.ai x.e.a.l.length x.ci, .slice x.an x.e.a.ns.length x.cn] 39)).drew) fun e w' => e = .returned (.bool true) ∧ Gr ((w8.alloc (.cells #[.string x.e.u.t, .string x.e.u.i, .slice x.ap x.e.ps.length x.cp, .int .i64 x.e.a.h.k, .bool x.e.a.h.b, .int .i64 x.e.a.h.n, .string x.e.a.h.s, .string x.e.a.h.t, .string x.e.a.h.i, .slice x.ai x.e.a.l.length x.ci, .slice x.an x.e.a.ns.length x.cn] 39)).drew) w' from
        wholeE_c [x] [ws[k]'(HKQ.out)] _ _ _ ⟨box_es [x] (show BoxAt _ w8.heap.size [.string x.e.u.t, .string x.e.u.i, .slice x.ap x.e.ps.length x.cp, .int .i64 x.e.a.h.k, .bool x.e.a.h.b, .int .i64 x.e.a.h.n, .string x.e.a.h.s, .string x.e.a.h.t, .string x.e.a.h.i, .slice x.ai x.e.a.l.length x.ci, .slice x.an x.e.a.ns.length x.cn] from BoxAt.low (BoxAt.made (w := w8) (W := w8.alloc (.cells #[.string x.e.u.t, .string x.e.u.i, .slice x.ap x.e.ps.length x.cp, .int .i64 x.e.a.h.k, .bool x.e.a.h.b, .int .i64 x.e.a.h.n, .string x.e.a.h.s, .string x.e.a.h.t, .string x.e.a.h.i, .slice x.ai x.e.a.l.length x.ci, .slice x.an x.e.a.ns.length x.cn] 39)) rfl rfl rfl) (Gr.refl _).drew.low) (Nat.le_refl _) (by decide), fun q hq => by simp at hq; rw [hq]; exact HXO8.out.low hLV⟩ (et_sub (HE8.out.low hLV) HKQ.out (by omega) (by omega)) (by unfold ensOf; simp [HXW.out]))
      clear hLV
      go_region_with (go_at_call 14; refine HWC.out.mono ?_; rintro e w9 ⟨rfl, g9⟩; have G9 := Lib.hid (HLV.out.trans g9.low); clear g9)
      all_goals
        go_wp2_with fail
        go_ret
        exact ⟨rfl, L8.out.trans G9.out⟩
end Go.Proofs.YtmkillbanmbafaaGreat
