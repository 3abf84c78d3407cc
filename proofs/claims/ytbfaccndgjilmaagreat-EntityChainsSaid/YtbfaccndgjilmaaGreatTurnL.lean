/- Entities as they must be stay so; the order of a list, and of parents, doesn't matter. No condition. -/
import Derived.Test.YtbfaccndgjilmaaGreatAwaE
import Derived.Test.YtbfaccndgjilmaaGreatOwnS
import Derived.Test.YtbfaccndgjilmaaGreatEntT
import Derived.Test.YtbfaccndgjilmaaGreatWholeE
namespace Go.Proofs.YtbfaccndgjilmaaGreat
open Go.RowKit Go.Sort
theorem few_sm {l : List En} (h1 : l.length ≤ 20) (h2 : ∀ e ∈ l, SmE e) : FewE l := ⟨by omega, fun e he => by have := (h2 e he).2.2; omega⟩
theorem recC_k {ns : List ByteArray} {m : List V} (h : (recC ns m).1 = 0) : (recC ns m).2.h.k = 6 := by
  unfold recC at h ⊢
  by_cases h1 : ns.Nodup
  · rw [if_pos h1]; rfl
  · rw [if_neg h1] at h; simp at h
theorem canD_k6 {v : V} (h : (canD v).1 = 0) (hk : v.h.k = 6) : (canD v).2.h.k = 6 := by
  have e := (canD_ok h).1
  rw [e] at h ⊢
  have hv := can_v v
  rw [hk] at hv
  simp only [show ¬ ((6 : Int) = 1) by decide, show ¬ ((6 : Int) = 2) by decide, show ¬ ((6 : Int) = 3) by decide, show ¬ ((6 : Int) = 4) by decide, show ¬ ((6 : Int) = 5) by decide, if_false, if_true] at hv
  rw [hv] at h ⊢
  by_cases h1 : v.ns.length = v.l.length
  · rw [if_pos h1] at h ⊢
    by_cases h2 : (canL v.l).1 = 0
    · rw [if_pos h2] at h ⊢
      exact recC_k h
    · rw [if_neg h2] at h; exact absurd h h2
  · rw [if_neg h1] at h; simp at h
theorem canE_few {l : List En} (h : (canE canD l).1 = 0) (h20 : l.length ≤ 20) (hs : ∀ e ∈ l, Sm e.a ∧ e.ps.length ≤ 20) : (canE canD l).2.length ≤ 20 ∧ ∀ z ∈ (canE canD l).2, Sm z.a ∧ z.ps.length ≤ 20 := by
  obtain ⟨-, hn, he, -⟩ := canE_ok.1 h
  rw [canE_val h]
  have hn' : (namesE (l.map (oneE canD))).Nodup := by rw [names_one]; exact hn
  refine ⟨by have := uniq_len (c := cmpE) (l.map (oneE canD)); rw [List.length_map] at this; show (uniq cmpE _).length ≤ 20; omega, fun z hz => ?_⟩
  obtain ⟨e, hm, rfl⟩ := List.mem_map.1 ((mem_en hn').1 hz)
  have h0 := he e hm
  unfold errE at h0
  by_cases k1 : e.a.h.k ≠ 6
  · rw [if_pos k1] at h0; exact absurd h0 (by decide)
  · rw [if_neg k1] at h0
    by_cases k2 : (canD e.a).1 ≠ 0
    · rw [if_pos k2] at h0; exact absurd h0 k2
    · refine ⟨canD_sm (by omega) (hs e hm).1, ?_⟩
      have := uniq_len (c := cmpUs) e.ps
      have h2 := (hs e hm).2
      show (uniq cmpUs e.ps).length ≤ 20
      omega
set_option maxHeartbeats 16000000 in
set_option maxRecDepth 100000 in
theorem entityTurned_v (qs : List Ee) (w : World) (r : Value) (h : EtAt w r qs) : Calls Tryz.prog 4 #[r] w fun e w' => e = .returned (.bool true) ∧ Low w w' := by
  obtain ⟨ao, c, rfl, ⟨hlc, hc9⟩, hx⟩ := h.at
  have HE := Lib.hid h
  have HXX := Lib.hid hx
  clear h hx
  go_enter Tryz.func4, Tryz.ntmps4
  go_wp2_with fail
  refine (awake5_c _).mono ?_
  rintro e w1 ⟨rfl, l1⟩
  have L1 := Lib.hid l1
  clear l1
  have SC := Lib.hid (small_c qs w1 _ (HE.out.low L1.out))
  go_wp2_with fail
  refine SC.out.mono ?_
  rintro e w2 ⟨p, rfl, hp, g⟩
  have L2 := Lib.hid (L1.out.trans g.low)
  have HP := Lib.hid hp
  clear hp g SC
  rcases p with _ | _
  · go_wp2_with fail
    go_ret
    exact ⟨rfl, L2.out⟩
  obtain ⟨h20, hsm⟩ := HP.out rfl
  have HSM := Lib.hid (show ∀ e ∈ ensOf qs, SmE e from fun e he => by unfold ensOf at he; obtain ⟨q, hq, rfl⟩ := List.mem_map.1 he; exact hsm q hq)
  have H20 := Lib.hid (show (ensOf qs).length ≤ 20 by unfold ensOf; rwa [List.length_map])
  have HPqs := Lib.hid (show ∀ q ∈ qs, q.e.ps.length ≤ 20 from fun q hq => (hsm q hq).2.2)
  have CC := Lib.hid (eCanon_c qs w2 _ (HE.out.low L2.out) (few_sm H20.out HSM.out) fun q hq => (hsm q hq).1)
  clear HP hsm
  obtain ⟨N, hN⟩ : ∃ N, N = qs.length := ⟨_, rfl⟩
  rw [← hN] at h20 hlc CC ⊢
  have HLNqs := Lib.hid hN.symm
  have HN20qs := Lib.hid h20
  obtain ⟨c1, res1, hres⟩ : ∃ c1 res1, canE canD (ensOf qs) = (c1, res1) := ⟨_, _, rfl⟩
  rw [hres] at CC
  have HR1 := Lib.hid hres
  clear hN hres
  go_wp2_with fail
  refine CC.out.mono ?_
  rintro e w3 ⟨v5, rfl, l3, rs1, hrs1, het1⟩
  have L3 := Lib.hid (L2.out.trans l3)
  have HET1 := Lib.hid het1
  have HRS1 := Lib.hid (show ensOf rs1 = res1 from hrs1)
  have h3 := HE.out.low L3.out
  have HXqs := Lib.hid (show ∀ j (hj : j < qs.length), ∃ b o, ao = some ⟨b, o, none⟩ ∧ CellsAt w3 b (o + j * 11) qs[j].sh.cs from fun j hj => by obtain ⟨b, o, e, hc⟩ := HXX.out j hj; exact ⟨b, o, e, L3.out.cells hc⟩)
  have HQqs := Lib.hid h3.2
  have hwn : IntKind.i64.wrap ((N : Int) - 1) = (N : Int) - 1 := by rw [IntKind.wrap_i64]; omega
  clear l3 hrs1 het1 h3 CC HXX
  show _
  go_wp2_with fail
  have HBw3 := Lib.hid (show w3.heap.size = w3.heap.size from rfl)
  go_loopg [7, 9] N (fun gk vs vi wr => ∃ (vm : Value) (ms : List Ee) (t : Nat) (z : Int), vm = vs ∧ vi = .int .i64 z ∧ z = (t : Int) - 1 ∧ t ≤ N ∧ t ≤ gk ∧ Hid (Low w3 wr) ∧ Hid (OwnE w3.heap.size wr vm ms) ∧ Hid (ensOf ms = rvL ((ensOf qs).drop t)) ∧ Hid (∀ p ∈ ms, EeOk (fun b => some b ≠ vm.ownBlock) wr p))
  case atStart => exact ⟨_, [], N, (N : Int) - 1, rfl, by go_num, rfl, Nat.le_refl _, Nat.le_refl _, Lib.hid (Low.refl _), Lib.hid (OwnR.nil _ _ _ _ _), Lib.hid (by rw [List.drop_of_length_le (by unfold ensOf; rw [List.length_map]; exact Nat.le_of_eq HLNqs.out)]; rfl), Lib.hid fun p hp => by simp at hp⟩
  case round =>
    obtain ⟨vm, ms, t, z, rfl, rfl, hz, ht, hg, G, O, K, E⟩ := hrel
    rcases t with _ | u
    · obtain rfl : z = -1 := by omega
      clear hz ht hg
      have HKF1 := Lib.hid (show ensOf ms = rvL (ensOf qs) by have := K.out; rwa [List.drop_zero] at this)
      obtain ⟨am, cm, rfl, hc1, hc2, -⟩ := O.out.shape
      have hml : ms.length = N := by have h1 := congrArg List.length HKF1.out; rw [rvL_len] at h1; unfold ensOf at h1; rw [List.length_map, List.length_map, HLNqs.out] at h1; exact h1
      have hme : ∀ e ∈ ensOf ms, SmE e := fun e he => by
        rw [HKF1.out] at he
        obtain ⟨d, hd, rfl⟩ := mem_rvL.1 he
        have h1 := HSM.out d hd
        exact ⟨h1.1, h1.2.1, by show d.ps.reverse.length ≤ 20; rw [List.length_reverse]; exact h1.2.2⟩
      have hmt : EtAt wr (.slice am ms.length cm) ms := ⟨O.out.esAt, fun p hp => (E.out p hp).any⟩
      have HMT := Lib.hid hmt
      have HME := Lib.hid hme
      have HLNms := Lib.hid hml
      have LG := Lib.hid G.out
      obtain ⟨am9, cm9, hvm, ⟨hm1, hm2⟩, hmx⟩ := hmt.at
      simp only [Value.slice.injEq] at hvm
      obtain ⟨rfl, -, rfl⟩ := hvm
      have HXms := Lib.hid hmx
      have HQms := Lib.hid hmt.2
      have HPms := Lib.hid (show ∀ q ∈ ms, q.e.ps.length ≤ 20 from fun q hq => (hme q.e (by unfold ensOf; exact List.mem_map_of_mem hq)).2.2)
      have HN20ms := HN20qs
      clear hmt hme hmx
      rw [hml] at hc1 hm1 ⊢
      clear hml
      rename World => wm
      go_wp2_with fail
      have HBwm := Lib.hid (show wm.heap.size = wm.heap.size from rfl)
      go_loopg [8, 12] N (fun gk vs vi wr => ∃ (vn : Value) (ns : List Ee) (t : Nat) (z : Int), vn = vs ∧ vi = .int .i64 z ∧ z = (t : Int) - 1 ∧ t ≤ N ∧ t ≤ gk ∧ Hid (Low wm wr) ∧ Hid (OwnE wm.heap.size wr vn ns) ∧ Hid (ensOf ns = rvL ((ensOf ms).drop t)) ∧ Hid (∀ p ∈ ns, EeOk (fun b => some b ≠ vn.ownBlock) wr p))
      case atStart => exact ⟨_, [], N, (N : Int) - 1, rfl, by go_num, rfl, Nat.le_refl _, Nat.le_refl _, Lib.hid (Low.refl _), Lib.hid (OwnR.nil _ _ _ _ _), Lib.hid (by rw [List.drop_of_length_le (by unfold ensOf; rw [List.length_map]; exact Nat.le_of_eq HLNms.out)]; rfl), Lib.hid fun p hp => by simp at hp⟩
      case round =>
        obtain ⟨vn, ns, t, z, rfl, rfl, hz, ht, hg, G2, O2, K2, E2⟩ := hrel
        rcases t with _ | u
        · obtain rfl : z = -1 := by omega
          clear hz ht hg
          have HKF := Lib.hid (show ensOf ns = rvL (ensOf ms) by have := K2.out; rwa [List.drop_zero] at this)
          have hwas : ensOf ns = ensOf qs := by rw [HKF.out, HKF1.out, rvL_rvL]
          have hnt : EtAt wr vn ns := ⟨O2.out.esAt, fun p hp => (E2.out p hp).any⟩
          have HWAS := Lib.hid hwas
          have HNT := Lib.hid hnt
          have LW := Lib.hid (L3.out.trans (LG.out.trans G2.out))
          have HMR := Lib.hid (HMT.out.low G2.out)
          have hml : (ensOf ms).length ≤ 20 := by have h1 := HLNms.out; have h2 := HN20qs.out; unfold ensOf; rw [List.length_map]; omega
          have CM := Lib.hid (eCanon_c ms wr _ HMR.out (few_sm hml HME.out) fun q hq => (HME.out q.e (by unfold ensOf; exact List.mem_map_of_mem hq)).1)
          obtain ⟨c2, res2, hres2⟩ : ∃ c2 res2, canE canD (ensOf ms) = (c2, res2) := ⟨_, _, rfl⟩
          have hsim := canE_sim (c := canD) (sim_rv (ensOf qs))
          rw [← HKF1.out, hres2, HR1.out] at hsim
          rw [hres2] at CM
          rw [HLNms.out] at CM
          have HSIM := Lib.hid hsim
          clear hwas hnt hml hsim hres2
          rename World => wx
          go_wp2_with fail
          refine CM.out.mono ?_
          rintro e w5 ⟨v15, rfl, l5, rs2, hrs2, het2⟩
          have L5 := Lib.hid (LW.out.trans l5)
          have HET2 := Lib.hid het2
          have HRS2 := Lib.hid (show ensOf rs2 = res2 from hrs2)
          have WC := Lib.hid (wholeE_c qs ns w5 _ _ (HE.out.low L5.out) (HNT.out.low l5) HWAS.out.symm)
          have HL15 := Lib.hid (LG.out.trans (G2.out.trans l5))
          rw [HLNqs.out] at WC
          clear l5 hrs2 het2 CM
          go_wp2_with fail
          refine WC.out.mono ?_
          rintro e w6 ⟨rfl, g6⟩
          have L6 := Lib.hid (L5.out.trans g6.low)
          have HL16 := Lib.hid g6.low
          clear g6 WC
          by_cases h0 : c1 = 0
          case neg =>
            have h2 : c2 ≠ 0 := fun e => h0 (HSIM.out.1.2 e)
            have z1 : (c1 == 0) = false := by simpa using h0
            have z2 : (c2 == 0) = false := by simpa using h2
            have z3 : (c1 != 0) = true := by simpa using h0
            clear h0 h2
            go_wp2_with fail
            go_ret
            exact ⟨rfl, L6.out⟩
          case pos =>
            subst h0
            have h2 : c2 = 0 := HSIM.out.1.1 rfl
            subst h2
            have hrr : res1 = res2 := HSIM.out.2 rfl
            have h10 : (canE canD (ensOf qs)).1 = 0 := by rw [HR1.out]
            have hfew := canE_few h10 H20.out fun e he => ⟨(HSM.out e he).1, (HSM.out e he).2.2⟩
            have hag := canE_again (c := canD) (fun v h => canD_twice h) (fun v h k => canD_k6 h k) h10
            rw [HR1.out] at hfew hag
            change res1.length ≤ 20 ∧ ∀ z ∈ res1, Sm z.a ∧ z.ps.length ≤ 20 at hfew
            change canE canD res1 = (0, res1) at hag
            have hRS := HRS1.out
            have C3 := Lib.hid (eCanon_c rs1 w6 _ (HET1.out.low (HL15.out.trans HL16.out)) (by rw [hRS]; exact ⟨by have := hfew.1; omega, fun e he => by have := (hfew.2 e he).2; omega⟩) (fun q hq => (hfew.2 q.e (by rw [← hRS]; unfold ensOf; exact List.mem_map_of_mem hq)).1))
            rw [hRS, hag] at C3
            have HRR := Lib.hid hrr
            clear hrr h10 hfew hag hRS HSIM HR1
            go_wp2_with fail
            refine C3.out.mono ?_
            rintro e w7 ⟨v17, rfl, l7, rs3, hrs3, het3⟩
            have L7 := Lib.hid (L6.out.trans l7)
            have HET3 := Lib.hid het3
            have HRS3 := Lib.hid (show ensOf rs3 = res1 from hrs3)
            have W1 := Lib.hid (wholeE_c rs1 rs2 w7 _ _ (HET1.out.low (HL15.out.trans (HL16.out.trans l7))) (HET2.out.low (HL16.out.trans l7)) (by rw [HRS1.out, HRS2.out, HRR.out]))
            have HA7 := Lib.hid (HET1.out.low (HL15.out.trans (HL16.out.trans l7)))
            clear l7 hrs3 het3 C3
            go_wp2_with fail
            refine W1.out.mono ?_
            rintro e w8 ⟨rfl, g8⟩
            have L8 := Lib.hid (L7.out.trans g8.low)
            have W2 := Lib.hid (wholeE_c rs1 rs3 w8 _ _ (HA7.out.low g8.low) (HET3.out.low g8.low) (by rw [HRS1.out, HRS3.out]))
            clear g8 W1
            go_wp2_with fail
            refine W2.out.mono ?_
            rintro e w9 ⟨rfl, g9⟩
            have L9 := Lib.hid (L8.out.trans g9.low)
            clear g9 W2
            go_wp2_with fail
            go_ret
            exact ⟨rfl, L9.out⟩
        · obtain rfl : z = (u : Int) := by omega
          have hlt : u < N := by omega
          have hwz : IntKind.i64.wrap ((u : Int) - 1) = (u : Int) - 1 := by rw [IntKind.wrap_i64]; omega
          have zl : (u : Int) < (N : Int) := by omega
          have hlq : u < ms.length := by rw [HLNms.out]; exact hlt
          obtain ⟨b, o, rfl, hcs⟩ := HXms.out u hlq
          have hq := HQms.out ms[u] (List.getElem_mem hlq)
          have hen : (ensOf ms)[u]'(by unfold ensOf; rwa [List.length_map]) = ms[u].e := by unfold ensOf; rw [List.getElem_map]
          have hps : ms[u].e.ps.length ≤ 20 := HPms.out _ (List.getElem_mem hlq)
          have hst := rvL_step (l := ensOf ms) (i := u) (by unfold ensOf; rwa [List.length_map])
          rw [hen] at hst
          obtain ⟨q, hqq⟩ : ∃ q, ms[u] = q := ⟨_, rfl⟩
          rw [hqq] at hcs hq hps hst
          obtain ⟨⟨x, ps, v⟩, ap, cp, ai, ci, an, cn⟩ := q
          obtain ⟨apx, cpx, hvx, ⟨hp1, hp2⟩, hx1⟩ := hq.1.any
          change Value.slice ap ps.length cp = _ at hvx
          simp only [Value.slice.injEq] at hvx
          obtain ⟨rfl, -, rfl⟩ := hvx
          have HU := Lib.hid hx1
          have HR := Lib.hid hq.2
          have HST := Lib.hid hst
          have HCS := Lib.hid hcs
          have HPL := Lib.hid hps
          obtain ⟨P, hP⟩ : ∃ P, P = ps.length := ⟨_, rfl⟩
          have HPP := Lib.hid hP
          have hpi : (N : Int) ≤ 20 := by have := HN20ms.out; omega
          have hP20 : (P : Int) ≤ 20 := by rw [hP]; exact Int.ofNat_le.2 hps
          have hwp : IntKind.i64.wrap ((P : Int) - 1) = (P : Int) - 1 := by rw [IntKind.wrap_i64]; omega
          obtain ⟨e0, e1, e2, e3, e4, e5, e6, e7, e8, e9, e10⟩ := ent_cells (G2.out.cells hcs)
          rw [← hP] at e2
          clear hcs hq hqq hen hst hx1 hps hz hP
          rename World => wo
          go_wp2_with fail
          clear e0 e1 e2 e3 e4 e5 e6 e7 e8 e9 e10
          go_loopg [13, 14] P (fun gj vs vj wi => ∃ (vp : Value) (rs : List Us) (t : Nat) (z : Int), vp = vs ∧ vj = .int .i64 z ∧ z = (t : Int) - 1 ∧ t ≤ P ∧ t ≤ gj ∧ Hid (Low wo wi) ∧ Hid (OwnU wo.heap.size wi vp rs) ∧ Hid (rs = (ps.drop t).reverse) ∧ rs.length ≤ 20)
          case atStart => exact ⟨_, [], P, (P : Int) - 1, rfl, by go_num, rfl, Nat.le_refl _, Nat.le_refl _, Lib.hid (Low.refl _), Lib.hid (OwnR.nil _ _ _ _ _), Lib.hid (by rw [List.drop_of_length_le (Nat.le_of_eq HPP.out.symm)]; rfl), Nat.zero_le _⟩
          case round =>
            obtain ⟨vp, rs, t, z, rfl, rfl, hz, ht, hgj, GI, OI, KI, hr20⟩ := hrel
            obtain ⟨e0, e1, e2, e3, e4, e5, e6, e7, e8, e9, e10⟩ := ent_cells ((G2.out.trans GI.out).cells HCS.out)
            rw [← HPP.out] at e2
            rcases t with _ | k
            · obtain rfl : z = -1 := by omega
              clear hz ht
              obtain ⟨ap2, cp2, rfl, hc1, hc2, -⟩ := OI.out.shape
              have HMM := Lib.hid (show OwnE wm.heap.size (wr.alloc (.cells #[.string x.t, .string x.i, .slice ap2 rs.length cp2, .int .i64 v.h.k, .bool v.h.b, .int .i64 v.h.n, .string v.h.s, .string v.h.t, .string v.h.i, .slice ai v.l.length ci, .slice an v.ns.length cn] 37)).drew vn ns from O2.out.low (GI.out.trans ((Low.alloc (Low.refl wr) _).trans (Low.drewN _ 1))))
              have LWi := Lib.hid (show Low wr (wr.alloc (.cells #[.string x.t, .string x.i, .slice ap2 rs.length cp2, .int .i64 v.h.k, .bool v.h.b, .int .i64 v.h.n, .string v.h.s, .string v.h.t, .string v.h.i, .slice ai v.l.length ci, .slice an v.ns.length cn] 37)).drew from (Low.alloc (Low.refl wr) _).trans (Low.drewN _ 1))
              have HSB := Lib.hid (show wm.heap.size ≤ (wr.alloc (.cells #[.string x.t, .string x.i, .slice ap2 rs.length cp2, .int .i64 v.h.k, .bool v.h.b, .int .i64 v.h.n, .string v.h.s, .string v.h.t, .string v.h.i, .slice ai v.l.length ci, .slice an v.ns.length cn] 37)).drew.heap.size from (G2.out.trans (GI.out.trans LWi.out)).size)
              have HML := Lib.hid (show ns.length ≤ 1000000 by
                have h1 := congrArg List.length K2.out
                rw [rvL_len, List.length_drop] at h1
                unfold ensOf at h1
                rw [List.length_map, List.length_map, HLNms.out] at h1
                omega)
              go_wp2_with fail
              go_region_law (refine ownR_step2 rfl _ _ _ rfl Tryz.underlying22 e_info rfl (by decide) (by decide) encE_len encE_one wm.heap.size vn ns rfl HMM.out ⟨⟨x, rs, v⟩, ap2, cp2, ai, ci, an, cn⟩ ⟨wr.heap.size, 0, none⟩ 1 rfl (fun j u hj => newcell_at _ _ _ _ _ rfl hj) HML.out HSB.out ?_; intro v2 w4 h2 b2 k2 n2; have H2 := Lib.hid (show OwnE _ _ _ _ from h2); have HBL := Lib.hid (show RowKit.Below _ _ _ from b2); have HK2 := Lib.hid k2; have HN2 := Lib.hid n2; clear h2 b2 k2 n2)
              all_goals
                clear e0 e1 e2 e3 e4 e5 e6 e7 e8 e9 e10
                go_wp2_with fail
                go_roundg u
                case measure => omega
                case rel =>
                  refine ⟨v2, ns ++ [⟨⟨x, rs, v⟩, ap2, cp2, ai, ci, an, cn⟩], u, (u : Int) - 1, rfl, by go_num, rfl, by omega, Nat.le_refl _, Lib.hid ((G2.out.trans (GI.out.trans LWi.out)).trans_belowU HBL.out (Nat.le_refl _)), H2, Lib.hid ?_, Lib.hid ?_⟩
                  · rw [HST.out, ← K2.out]
                    unfold ensOf
                    rw [List.map_append]
                    have := KI.out
                    rw [List.drop_zero] at this
                    simp [rvE, this]
                  · exact ee_stepA rfl G2.out E2.out GI.out LWi.out O2.out OI.out rfl HR.out HK2.out HN2.out H2.out
            · obtain rfl : z = (k : Int) := by omega
              have hwk : IntKind.i64.wrap ((k : Int) - 1) = (k : Int) - 1 := by rw [IntKind.wrap_i64]; omega
              have zk : (k : Int) < (P : Int) := by omega
              have hkp : k < ps.length := by rw [← HPP.out]; omega
              obtain ⟨pb, po, rfl, hcp⟩ := HU.out k hkp
              obtain ⟨d0, d1⟩ := cells2 ((G2.out.trans GI.out).cells hcp)
              have hrv := rv_ps_step (l := ps) (i := k) hkp
              obtain ⟨p, hp⟩ : ∃ p, ps[k] = p := ⟨_, rfl⟩
              rw [hp] at d0 d1 hrv
              have HRV := Lib.hid hrv
              have HOI := Lib.hid (OwnR.alloc OI.out (.cells #[.string p.t, .string p.i] 31))
              have HSI := Lib.hid (show wo.heap.size ≤ (wr.alloc (.cells #[.string p.t, .string p.i] 31)).heap.size from (Low.alloc GI.out _).size)
              clear hcp hp hrv hz
              go_wp2_with (first
                | (at_builtin; refine appR rfl _ _ _ rfl Tryz.underlying29 u_info rfl (by decide) (by decide) encU_len encU_one wo.heap.size vp rs rfl HOI.out p ⟨wr.heap.size, 0, none⟩ 1 rfl (fun j u hj => newcell_at _ _ _ _ _ rfl hj) (by omega) HSI.out ?_; intro v2 w4 h2 b2 k2 n2))
              have H2 := Lib.hid h2
              have HBL := Lib.hid b2
              clear h2 b2 k2 n2 d0 d1 e0 e1 e2 e3 e4 e5 e6 e7 e8 e9 e10
              go_wp2_with fail
              go_roundg k
              case measure => omega
              case rel =>
                refine ⟨v2, rs ++ [p], k, (k : Int) - 1, rfl, by go_num, rfl, by omega, Nat.le_refl _, Lib.hid ((Low.alloc GI.out _).trans_belowU HBL.out (Nat.le_refl _)), H2, Lib.hid (by rw [HRV.out, ← KI.out]), ?_⟩
                have h1 := congrArg List.length KI.out
                have h2 := HPL.out
                rw [List.length_reverse, List.length_drop] at h1
                rw [List.length_append, List.length_singleton]
                omega
    · obtain rfl : z = (u : Int) := by omega
      have hlt : u < N := by omega
      have hwz : IntKind.i64.wrap ((u : Int) - 1) = (u : Int) - 1 := by rw [IntKind.wrap_i64]; omega
      have zl : (u : Int) < (N : Int) := by omega
      have hlq : u < qs.length := by rw [HLNqs.out]; exact hlt
      obtain ⟨b, o, rfl, hcs⟩ := HXqs.out u hlq
      have hq := HQqs.out qs[u] (List.getElem_mem hlq)
      have hen : (ensOf qs)[u]'(by unfold ensOf; rwa [List.length_map]) = qs[u].e := by unfold ensOf; rw [List.getElem_map]
      have hps : qs[u].e.ps.length ≤ 20 := HPqs.out _ (List.getElem_mem hlq)
      have hst := rvL_step (l := ensOf qs) (i := u) (by unfold ensOf; rwa [List.length_map])
      rw [hen] at hst
      obtain ⟨q, hqq⟩ : ∃ q, qs[u] = q := ⟨_, rfl⟩
      rw [hqq] at hcs hq hps hst
      obtain ⟨⟨x, ps, v⟩, ap, cp, ai, ci, an, cn⟩ := q
      obtain ⟨apx, cpx, hvx, ⟨hp1, hp2⟩, hx1⟩ := hq.1.any
      change Value.slice ap ps.length cp = _ at hvx
      simp only [Value.slice.injEq] at hvx
      obtain ⟨rfl, -, rfl⟩ := hvx
      have HU := Lib.hid hx1
      have HR := Lib.hid hq.2
      have HST := Lib.hid hst
      have HCS := Lib.hid hcs
      have HPL := Lib.hid hps
      obtain ⟨P, hP⟩ : ∃ P, P = ps.length := ⟨_, rfl⟩
      have HPP := Lib.hid hP
      have hpi : (N : Int) ≤ 20 := by have := HN20qs.out; omega
      have hP20 : (P : Int) ≤ 20 := by rw [hP]; exact Int.ofNat_le.2 hps
      have hwp : IntKind.i64.wrap ((P : Int) - 1) = (P : Int) - 1 := by rw [IntKind.wrap_i64]; omega
      obtain ⟨e0, e1, e2, e3, e4, e5, e6, e7, e8, e9, e10⟩ := ent_cells (G.out.cells hcs)
      rw [← hP] at e2
      clear hcs hq hqq hen hst hx1 hps hz hP
      rename World => wo
      go_wp2_with fail
      clear e0 e1 e2 e3 e4 e5 e6 e7 e8 e9 e10
      go_loopg [10, 11] P (fun gj vs vj wi => ∃ (vp : Value) (rs : List Us) (t : Nat) (z : Int), vp = vs ∧ vj = .int .i64 z ∧ z = (t : Int) - 1 ∧ t ≤ P ∧ t ≤ gj ∧ Hid (Low wo wi) ∧ Hid (OwnU wo.heap.size wi vp rs) ∧ Hid (rs = (ps.drop t).reverse) ∧ rs.length ≤ 20)
      case atStart => exact ⟨_, [], P, (P : Int) - 1, rfl, by go_num, rfl, Nat.le_refl _, Nat.le_refl _, Lib.hid (Low.refl _), Lib.hid (OwnR.nil _ _ _ _ _), Lib.hid (by rw [List.drop_of_length_le (Nat.le_of_eq HPP.out.symm)]; rfl), Nat.zero_le _⟩
      case round =>
        obtain ⟨vp, rs, t, z, rfl, rfl, hz, ht, hgj, GI, OI, KI, hr20⟩ := hrel
        obtain ⟨e0, e1, e2, e3, e4, e5, e6, e7, e8, e9, e10⟩ := ent_cells ((G.out.trans GI.out).cells HCS.out)
        rw [← HPP.out] at e2
        rcases t with _ | k
        · obtain rfl : z = -1 := by omega
          clear hz ht
          obtain ⟨ap2, cp2, rfl, hc1, hc2, -⟩ := OI.out.shape
          have HMM := Lib.hid (show OwnE w3.heap.size (wr.alloc (.cells #[.string x.t, .string x.i, .slice ap2 rs.length cp2, .int .i64 v.h.k, .bool v.h.b, .int .i64 v.h.n, .string v.h.s, .string v.h.t, .string v.h.i, .slice ai v.l.length ci, .slice an v.ns.length cn] 37)).drew vm ms from O.out.low (GI.out.trans ((Low.alloc (Low.refl wr) _).trans (Low.drewN _ 1))))
          have LWi := Lib.hid (show Low wr (wr.alloc (.cells #[.string x.t, .string x.i, .slice ap2 rs.length cp2, .int .i64 v.h.k, .bool v.h.b, .int .i64 v.h.n, .string v.h.s, .string v.h.t, .string v.h.i, .slice ai v.l.length ci, .slice an v.ns.length cn] 37)).drew from (Low.alloc (Low.refl wr) _).trans (Low.drewN _ 1))
          have HSB := Lib.hid (show w3.heap.size ≤ (wr.alloc (.cells #[.string x.t, .string x.i, .slice ap2 rs.length cp2, .int .i64 v.h.k, .bool v.h.b, .int .i64 v.h.n, .string v.h.s, .string v.h.t, .string v.h.i, .slice ai v.l.length ci, .slice an v.ns.length cn] 37)).drew.heap.size from (G.out.trans (GI.out.trans LWi.out)).size)
          have HML := Lib.hid (show ms.length ≤ 1000000 by
            have h1 := congrArg List.length K.out
            rw [rvL_len, List.length_drop] at h1
            unfold ensOf at h1
            rw [List.length_map, List.length_map, HLNqs.out] at h1
            omega)
          go_wp2_with fail
          go_region_law (refine ownR_step2 rfl _ _ _ rfl Tryz.underlying22 e_info rfl (by decide) (by decide) encE_len encE_one w3.heap.size vm ms rfl HMM.out ⟨⟨x, rs, v⟩, ap2, cp2, ai, ci, an, cn⟩ ⟨wr.heap.size, 0, none⟩ 1 rfl (fun j u hj => newcell_at _ _ _ _ _ rfl hj) HML.out HSB.out ?_; intro v2 w4 h2 b2 k2 n2; have H2 := Lib.hid (show OwnE _ _ _ _ from h2); have HBL := Lib.hid (show RowKit.Below _ _ _ from b2); have HK2 := Lib.hid k2; have HN2 := Lib.hid n2; clear h2 b2 k2 n2)
          all_goals
            clear e0 e1 e2 e3 e4 e5 e6 e7 e8 e9 e10
            go_wp2_with fail
            go_roundg u
            case measure => omega
            case rel =>
              refine ⟨v2, ms ++ [⟨⟨x, rs, v⟩, ap2, cp2, ai, ci, an, cn⟩], u, (u : Int) - 1, rfl, by go_num, rfl, by omega, Nat.le_refl _, Lib.hid ((G.out.trans (GI.out.trans LWi.out)).trans_belowU HBL.out (Nat.le_refl _)), H2, Lib.hid ?_, Lib.hid ?_⟩
              · rw [HST.out, ← K.out]
                unfold ensOf
                rw [List.map_append]
                have := KI.out
                rw [List.drop_zero] at this
                simp [rvE, this]
              · exact ee_stepA rfl G.out E.out GI.out LWi.out O.out OI.out rfl HR.out HK2.out HN2.out H2.out
        · obtain rfl : z = (k : Int) := by omega
          have hwk : IntKind.i64.wrap ((k : Int) - 1) = (k : Int) - 1 := by rw [IntKind.wrap_i64]; omega
          have zk : (k : Int) < (P : Int) := by omega
          have hkp : k < ps.length := by rw [← HPP.out]; omega
          obtain ⟨pb, po, rfl, hcp⟩ := HU.out k hkp
          obtain ⟨d0, d1⟩ := cells2 ((G.out.trans GI.out).cells hcp)
          have hrv := rv_ps_step (l := ps) (i := k) hkp
          obtain ⟨p, hp⟩ : ∃ p, ps[k] = p := ⟨_, rfl⟩
          rw [hp] at d0 d1 hrv
          have HRV := Lib.hid hrv
          have HOI := Lib.hid (OwnR.alloc OI.out (.cells #[.string p.t, .string p.i] 31))
          have HSI := Lib.hid (show wo.heap.size ≤ (wr.alloc (.cells #[.string p.t, .string p.i] 31)).heap.size from (Low.alloc GI.out _).size)
          clear hcp hp hrv hz
          go_wp2_with (first
            | (at_builtin; refine appR rfl _ _ _ rfl Tryz.underlying29 u_info rfl (by decide) (by decide) encU_len encU_one wo.heap.size vp rs rfl HOI.out p ⟨wr.heap.size, 0, none⟩ 1 rfl (fun j u hj => newcell_at _ _ _ _ _ rfl hj) (by omega) HSI.out ?_; intro v2 w4 h2 b2 k2 n2))
          have H2 := Lib.hid h2
          have HBL := Lib.hid b2
          clear h2 b2 k2 n2 d0 d1 e0 e1 e2 e3 e4 e5 e6 e7 e8 e9 e10
          go_wp2_with fail
          go_roundg k
          case measure => omega
          case rel =>
            refine ⟨v2, rs ++ [p], k, (k : Int) - 1, rfl, by go_num, rfl, by omega, Nat.le_refl _, Lib.hid ((Low.alloc GI.out _).trans_belowU HBL.out (Nat.le_refl _)), H2, Lib.hid (by rw [HRV.out, ← KI.out]), ?_⟩
            have h1 := congrArg List.length KI.out
            have h2 := HPL.out
            rw [List.length_reverse, List.length_drop] at h1
            rw [List.length_append, List.length_singleton]
            omega
end Go.Proofs.YtbfaccndgjilmaaGreat
