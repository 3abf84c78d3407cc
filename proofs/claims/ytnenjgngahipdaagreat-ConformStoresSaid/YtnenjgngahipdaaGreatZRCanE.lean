/- The reference's Canon: a list of entities as it must be, or refused. Condition: no more than 300 entities, of no more than 300 parents each. -/
import Derived.Test.YtnenjgngahipdaaGreatZROne
import Derived.Test.YtnenjgngahipdaaGreatZg25
import Derived.Test.YtnenjgngahipdaaGreatZRCanN
set_option linter.unusedVariables false
set_option linter.unusedSimpArgs false
set_option linter.unnecessarySimpa false
namespace Go.Proofs.YtnenjgngahipdaaGreat
open Go.RowKit Go.Sort Go.Maps
theorem find_nod {qs : List Ee} (h : (namesE (ensOf qs)).Nodup) {i : Nat} (hi : i < qs.length) : findI (qs.map Ee.sh) qs[i].e.u = (i : Int) := by
  have hn : namesE (ensOf qs) = qs.map fun q => q.e.u := by unfold namesE ensOf; rw [List.map_map]; rfl
  rw [hn, List.nodup_iff_pairwise_ne, List.pairwise_map, List.pairwise_iff_getElem] at h
  refine idx_here (by simpa using hi) (fun j hj hji => ?_) ?_
  · rw [List.getElem_map]
    exact h j i (by omega) hi hji
  · rw [List.getElem_map]; rfl
theorem nod_find {qs : List Ee} (h : ∀ i (hi : i < qs.length), findI (qs.map Ee.sh) qs[i].e.u = (i : Int)) : (namesE (ensOf qs)).Nodup := by
  have hn : namesE (ensOf qs) = qs.map fun q => q.e.u := by unfold namesE ensOf; rw [List.map_map]; rfl
  rw [hn, List.nodup_iff_pairwise_ne, List.pairwise_map, List.pairwise_iff_getElem]
  intro i j hi hj hij e
  have h1 := h i hi
  have h2 := h j hj
  rw [e, h2] at h1
  omega
set_option maxHeartbeats 16000000 in
set_option maxRecDepth 100000 in
theorem rcanE_c (qs : List Ee) (w : World) (r : Value) (h : EtAt w r qs) (hf : FewE (ensOf qs)) (hs : ∀ q ∈ qs, Smv q.e.a) (hdp : ∀ q ∈ qs, dep q.e.a ≤ 1000000) : Calls Tryz.prog 50 #[r] w (CanLP (canE canD (ensOf qs)) w) := by
  obtain ⟨ao, c, rfl, ⟨hlc, hc9⟩, hx⟩ := h.at
  have hq3 : qs.length ≤ 300 := by have := hf.1; unfold ensOf at this; rwa [List.length_map] at this
  have z1 : (qs.length : Int) ≤ 4096 := by omega
  have zd : decide ((4096 : Int) < (qs.length : Int)) = false := by simp; omega
  have hel : (ensOf qs).length = qs.length := by simp [ensOf]
  have hdef : canE canD (ensOf qs) = if (namesE (ensOf qs)).Nodup then (if errL canD (namesE (ensOf qs)) (ensOf qs) = 0 then (open Classical in if RoundE (ensOf qs) then (21, []) else (0, uniq cmpE ((ensOf qs).map (oneE canD)))) else (errL canD (namesE (ensOf qs)) (ensOf qs), [])) else (13, []) := by
    unfold canE; rw [if_neg (by rw [hel]; omega)]
  obtain ⟨res, hres⟩ : ∃ res, res = canE canD (ensOf qs) := ⟨_, rfl⟩
  rw [← hres] at hdef ⊢
  have HD := Lib.hid hdef
  have HX := Lib.hid hx
  have HQ := Lib.hid h
  have HF := Lib.hid hf
  have HS := Lib.hid hs
  have HDP := Lib.hid hdp
  clear hx h hf hs hdp hel hdef hres
  go_enter Tryz.func50, Tryz.ntmps50
  go_wp2_with fail
  go_loopg [4] qs.length (fun gk vi wr => ∃ i : Nat, vi = .int .i64 (i : Int) ∧ i ≤ qs.length ∧ qs.length - i ≤ gk ∧ Hid (Low w wr) ∧ Hid (∀ j (hj : j < qs.length), j < i → findI (qs.map Ee.sh) qs[j].e.u = (j : Int)))
  case atStart => exact ⟨0, rfl, Nat.zero_le _, Nat.le_refl _, Lib.hid (Low.refl _), Lib.hid fun j hj h => absurd h (Nat.not_lt_zero _)⟩
  case round =>
    obtain ⟨i, rfl, hi, hg, G, K⟩ := hrel
    by_cases hlt : i < qs.length
    · have zl : (i : Int) < (qs.length : Int) := by omega
      obtain ⟨b, o, rfl, hcs⟩ := HX.out i hlt
      have hfq : (namesE (ensOf qs)).Nodup → findI (qs.map Ee.sh) qs[i].e.u = (i : Int) := fun h => find_nod h hlt
      have hqi : ∀ j (hj : j < qs.length), j = i → findI (qs.map Ee.sh) qs[j].e.u = findI (qs.map Ee.sh) qs[i].e.u := fun j hj e => by subst e; rfl
      obtain ⟨q, hqq⟩ : ∃ q, qs[i] = q := ⟨_, rfl⟩
      rw [hqq] at hcs hfq
      rw [hqq] at hqi
      obtain ⟨e0, e1, -⟩ := ee11 (G.out.cells hcs)
      have hfi := find_c (qs.map Ee.sh) q.e.u wr _ (HQ.out.1.low G.out)
      unfold usV at hfi
      have HFQ := Lib.hid hfq
      have HQI := Lib.hid hqi
      obtain ⟨fi, hfe⟩ : ∃ fi, findI (qs.map Ee.sh) q.e.u = fi := ⟨_, rfl⟩
      rw [hfe] at hfi
      have HFE := Lib.hid hfe
      clear hcs hqq hfq hqi hfe
      by_cases hff : fi = (i : Int)
      · subst hff
        have HC := Lib.hid hfi
        clear hfi
        go_wp2_with fail
        refine HC.out.mono ?_
        rintro e w2 ⟨rfl, l2⟩
        have L2 := Lib.hid (G.out.trans l2)
        clear l2 e0 e1 HC
        go_wp2_with fail
        go_roundg (qs.length - (i + 1))
        case measure => omega
        case rel =>
          refine ⟨i + 1, by go_num, by omega, by omega, L2, Lib.hid fun j hj hji => ?_⟩
          rcases Nat.lt_succ_iff_lt_or_eq.1 hji with h | h
          · exact K.out j hj h
          · rw [HQI.out j hj h, HFE.out, h]
      · have zf : (fi != (i : Int)) = true := by simpa using hff
        have HC := Lib.hid hfi
        have HNE := Lib.hid hff
        have HR := Lib.hid (show res = (13, []) by
          rw [HD.out, if_neg]
          intro hn
          have := HFQ.out hn
          rw [HFE.out] at this
          exact hff this)
        clear hfi hff
        go_wp2_with fail
        refine HC.out.mono ?_
        rintro e w2 ⟨rfl, l2⟩
        have L2 := Lib.hid (G.out.trans l2)
        clear l2 e0 e1 HC
        go_wp2_with fail
        go_ret2
        rw [HR.out]
        exact canLP_bad L2.out
    · have zl : ¬ (i : Int) < (qs.length : Int) := by omega
      have HN := Lib.hid (nod_find fun j hj => K.out j hj (by omega))
      have HNM := Lib.hid (show ∀ x, x ∈ namesE (ensOf qs) ↔ (fS (qs.map Ee.sh) x).isSome = true from fun x => fS_names.symm)
      have GL := G
      clear hi hg
      rename World => wa
      go_wp2_with fail
      go_loopg [5, 6] qs.length (fun gk vs vi wr => ∃ (vo : Value) (i : Nat) (out : List Ee), vo = vs ∧ vi = .int .i64 (i : Int) ∧ i ≤ qs.length ∧ qs.length - i ≤ gk ∧ Hid (Low w wr) ∧ Hid (OwnE w.heap.size wr vo out) ∧ Hid (ensOf out = uniq cmpE (((ensOf qs).take i).map (oneE canD))) ∧ Hid (∀ p ∈ out, EeOk (fun _ => True) wr p) ∧ Hid (∀ e ∈ (ensOf qs).take i, errE canD (namesE (ensOf qs)) e = 0))
      case atStart => exact ⟨_, 0, [], rfl, rfl, Nat.zero_le _, Nat.le_refl _, GL, Lib.hid (OwnR.nil _ _ _ _ _), Lib.hid rfl, Lib.hid fun p hp => by simp at hp, Lib.hid fun e he => by simp at he⟩
      case round =>
        obtain ⟨vo, i, out, rfl, rfl, hi, hg, G, O, K, ELS, Z⟩ := hrel
        by_cases hlt : i < qs.length
        · have zl : (i : Int) < (qs.length : Int) := by omega
          have hol : out.length ≤ 300 := by
            have h1 := congrArg List.length K.out
            have h2 := uniq_len (c := cmpE) (((ensOf qs).take i).map (oneE canD))
            rw [← h1] at h2
            unfold ensOf at h2
            simp at h2
            omega
          obtain ⟨b, o, rfl, hcs⟩ := HX.out i hlt
          have hq := HQ.out.2 qs[i] (List.getElem_mem hlt)
          have hsm := HS.out qs[i] (List.getElem_mem hlt)
          have hdq := HDP.out qs[i] (List.getElem_mem hlt)
          have hps : qs[i].e.ps.length ≤ 300 := HF.out.2 qs[i].e (by unfold ensOf; exact List.mem_map_of_mem (List.getElem_mem hlt))
          have hei : (ensOf qs)[i]? = some qs[i].e := by unfold ensOf; simp [hlt]
          obtain ⟨q, hqq⟩ : ∃ q, qs[i] = q := ⟨_, rfl⟩
          rw [hqq] at hcs hq hsm hps hei hdq
          obtain ⟨e0, e1, e2, e3, e4, e5, e6, e7, e8, e9, e10⟩ := ee11 (G.out.cells hcs)
          have hcon := rone_c (qs.map Ee.sh) _ HNM.out (.slice (some ⟨b, o, none⟩) qs.length c) q.e.u q.e.ps q.e.a q.ap q.cp q.ai q.ci q.an q.cn wr (HQ.out.1.low G.out) (hq.1.any.low G.out) (hq.2.low G.out) hsm hdq (by omega)
          change Calls _ _ _ _ (CanEP _ q.e _) at hcon
          unfold CanEP at hcon
          have HEI := Lib.hid hei
          obtain ⟨er, her⟩ : ∃ er, er = errE canD (namesE (ensOf qs)) q.e := ⟨_, rfl⟩
          rw [← her] at hcon
          have HC := Lib.hid hcon
          have HER := Lib.hid her
          have htk : (ensOf qs).take (i + 1) = (ensOf qs).take i ++ [q.e] := by rw [List.take_add_one, hei]; rfl
          have HTK := Lib.hid htk
          clear hcs hq hsm hps hqq her hei hcon hdq htk
          go_wp2_with fail
          refine HC.out.mono ?_
          rintro e w2 ⟨y, rfl, hlow, hok⟩
          have L1 := Lib.hid hlow
          by_cases h0 : er = 0
          case neg =>
            have HH := Lib.hid h0
            have hcz : (er != 0) = true := by simpa using h0
            have hres : res = (er, []) := by
              have hli : i < (ensOf qs).length := by simpa [ensOf] using hlt
              have hge : (ensOf qs)[i] = q.e := by have := HEI.out; rw [List.getElem?_eq_getElem hli] at this; simpa using this
              have hL := errL_at canD hli Z.out (by rw [hge, ← HER.out]; exact h0)
              rw [hge, ← HER.out] at hL
              rw [HD.out, if_pos HN.out, hL, if_neg h0]
            have HRES := Lib.hid hres
            have LL := Lib.hid (G.out.trans L1.out)
            clear hok hlow h0 hres HC
            go_wp2_with fail
            go_ret2
            rw [HRES.out]
            exact canLP_bad (Low.alloc LL.out _)
          case pos =>
            subst h0
            obtain ⟨hy, hyok⟩ := hok rfl
            obtain ⟨W1, hW1⟩ : ∃ W, W = w2.alloc (.cells #[.string y.e.u.t, .string y.e.u.i, .slice y.ap y.e.ps.length y.cp, .int .i64 y.e.a.h.k, .bool y.e.a.h.b, .int .i64 y.e.a.h.n, .string y.e.a.h.s, .string y.e.a.h.t, .string y.e.a.h.i, .slice y.ai y.e.a.l.length y.ci, .slice y.an y.e.a.ns.length y.cn] 71) := ⟨_, rfl⟩
            have HW1 := Lib.hid hW1
            have LW1 := Lib.hid (show Low w2 W1 from hW1 ▸ Low.alloc (Low.refl w2) _)
            have BY := Lib.hid (show BoxAtv W1 w2.heap.size [.string y.e.u.t, .string y.e.u.i, .slice y.ap y.e.ps.length y.cp, .int .i64 y.e.a.h.k, .bool y.e.a.h.b, .int .i64 y.e.a.h.n, .string y.e.a.h.s, .string y.e.a.h.t, .string y.e.a.h.i, .slice y.ai y.e.a.l.length y.ci, .slice y.an y.e.a.ns.length y.cn] from hW1 ▸ BoxAtv.new w2.heap.size (Low.refl (w2.alloc (.cells #[.string y.e.u.t, .string y.e.u.i, .slice y.ap y.e.ps.length y.cp, .int .i64 y.e.a.h.k, .bool y.e.a.h.b, .int .i64 y.e.a.h.n, .string y.e.a.h.s, .string y.e.a.h.t, .string y.e.a.h.i, .slice y.ai y.e.a.l.length y.ci, .slice y.an y.e.a.ns.length y.cn] 71))) rfl rfl)
            have LO1 := Lib.hid (L1.out.trans LW1.out)
            have LWW := Lib.hid (G.out.trans LO1.out)
            have HYE := Lib.hid (show EeOk (fun _ => True) W1 y from (hyok.to fun b _ hb => ⟨trivial, LW1.out.2.2.2 b hb⟩))
            have OW := Lib.hid (OwnR.low O.out LO1.out)
            have HNE := Lib.hid (show ∀ z ∈ ensOf out, cmpE z y.e ≠ 0 from fun z hz hc => by
              have hn := HN.out
              have hl1 : (namesE ((ensOf qs).take (i + 1))).Nodup := by
                unfold namesE at hn ⊢
                rw [List.map_take]
                exact hn.sublist (List.take_sublist _ _)
              rw [HTK.out] at hl1
              have hz2 : z ∈ ((ensOf qs).take i).map (oneE canD) := by
                rw [K.out] at hz
                refine (mem_en (by rw [names_one]; unfold namesE at hn ⊢; rw [List.map_take]; exact hn.sublist (List.take_sublist _ _))).1 hz
              obtain ⟨d, hd, rfl⟩ := List.mem_map.1 hz2
              have hu : d.u = q.e.u := by have := us_zero hc; rw [hy] at this; exact this
              unfold namesE at hl1
              rw [List.map_append, List.nodup_append] at hl1
              exact hl1.2.2 d.u (List.mem_map_of_mem hd) q.e.u (by simp) hu)
            have HK0 := Lib.hid (show ins cmpE y.e (ensOf out) = uniq cmpE (((ensOf qs).take (i + 1)).map (oneE canD)) by
              rw [K.out, HTK.out, List.map_append]
              unfold uniq
              rw [List.foldl_append, hy]
              rfl)
            have HZ1 := Lib.hid (show ∀ e ∈ (ensOf qs).take (i + 1), errE canD (namesE (ensOf qs)) e = 0 from fun e he => by
              rw [HTK.out] at he
              rcases List.mem_append.1 he with h | h
              · exact Z.out e h
              · simp at h; rw [h]; exact HER.out.symm)
            obtain ⟨ao2, cap2, rfl, hc1, hc2, hblk⟩ := O.out.shape
            obtain ⟨n2, hn2⟩ : ∃ m, out.length = m := ⟨_, rfl⟩
            rw [hn2] at hc1 OW ⊢
            have HN2 := Lib.hid hn2
            have hn300 : n2 ≤ 300 := by omega
            have HBLK := Lib.hid (show (ao2 = none ∧ n2 = 0 ∧ cap2 = 0) ∨ ∃ g, ao2 = some ⟨g, 0, none⟩ by
              rcases OW.out.2 with ⟨hv, hl⟩ | ⟨g, cap, cur, hv, -⟩
              · simp only [Value.slice.injEq] at hv
                exact .inl ⟨hv.1, hv.2.1, hv.2.2⟩
              · simp only [Value.slice.injEq] at hv
                exact .inr ⟨g, hv.1⟩)
            clear hok hlow hy hyok hW1 hn2 hblk hol HC e0 e1 e2 e3 e4 e5 e6 e7 e8 e9 e10
            go_upto_region 17 with fail
            rw [← HW1.out]
            clear HW1
            go_loopg [10] n2 (fun gj vj wi => ∃ j : Nat, vj = .int .i64 (j : Int) ∧ j ≤ n2 ∧ n2 - j ≤ gj ∧ Hid (Gr W1 wi) ∧ Hid (∀ k (hk : k < out.length), k < j → cmpE out[k].e y.e < 0))
            case atStart => exact ⟨0, rfl, Nat.zero_le _, Nat.le_refl _, Lib.hid (Gr.refl _), Lib.hid fun k hk h => absurd h (Nat.not_lt_zero _)⟩
            case round =>
              obtain ⟨j, rfl, hj, hgj, GI, KJ⟩ := hrel
              obtain ⟨y0, y1, -⟩ := (BY.out.low GI.out.low).at11
              by_cases hjl : j < n2
              · have zj : (j : Int) < (n2 : Int) := by omega
                rcases HBLK.out with ⟨-, h0, -⟩ | ⟨g, rfl⟩
                · omega
                have hjo : j < out.length := by have := HN2.out; omega
                have hoj := OwnR.low OW.out GI.out.low
                have ca0 := OwnR.cell encE_len hoj j 0 hjo (by decide)
                have ca1 := OwnR.cell encE_len hoj j 1 hjo (by decide)
                obtain ⟨z, hz⟩ : ∃ z, out[j] = z := ⟨_, rfl⟩
                rw [hz] at ca0 ca1
                replace ca0 : wr.cell? ⟨g, j * 11, none⟩ = some (.string z.e.u.t) := ca0
                replace ca1 : wr.cell? ⟨g, j * 11 + 1, none⟩ = some (.string z.e.u.i) := ca1
                have up : ∀ {a : Addr} {u : Value}, wr.cell? a = some u → ∀ n os, (grow (wr.drewN n) os).cell? a = some u := fun h n os => (Gr.grow (Gr.refl wr) n os).cell h
                have g0 := up ca0
                have g1 := up ca1
                have g2 := up y0
                have g3 := up y1
                obtain ⟨cr, hcr⟩ : ∃ cr, cmpUs z.e.u y.e.u = cr := ⟨_, rfl⟩
                have c3 : ∀ X, Calls Tryz.prog 83 #[.agg #[.string z.e.u.t, .string z.e.u.i], .agg #[.string y.e.u.t, .string y.e.u.i]] X fun e w' => e = .returned (.int .i64 cr) ∧ Gr X w' := fun X => by rw [← hcr]; exact rOrdE_c z.e.u y.e.u X
                have C3 := Lib.hid fun n os => Calls.grown_of (c3 (grow (wr.drewN n) os))
                have mixed : Tryz.prog.follows .mixedOrders = true := by kernel_rfl
                have HCR := Lib.hid hcr
                have HZZ := Lib.hid hz
                clear hoj ca0 ca1 y0 y1 up c3 hcr hz
                by_cases hneg : cr < 0
                · go_wp2_with fail
                  go_quiet_grown (first | (with_reducible exact C3.out _ _))
                  have GX := Lib.hid (GI.out.trans (Gr.grow (Gr.refl wr) nq osq))
                  clear g0 g1 g2 g3 C3
                  go_wp2_with fail
                  go_roundg (n2 - (j + 1))
                  case measure => omega
                  case rel =>
                    refine ⟨j + 1, by go_num, by omega, by omega, GX, Lib.hid fun k hk hkj => ?_⟩
                    rcases Nat.lt_succ_iff_lt_or_eq.1 hkj with h | h
                    · exact KJ.out k hk h
                    · subst h
                      unfold cmpE
                      rw [HZZ.out, HCR.out]
                      exact hneg
                · have zg : 0 ≤ cr := by omega
                  have zgd : decide (cr < 0) = false := by simp; omega
                  go_wp2_with fail
                  go_quiet_grown (first | (with_reducible exact C3.out _ _))
                  have GX := Lib.hid (GI.out.trans (Gr.grow (Gr.refl wr) nq osq))
                  obtain ⟨WX, hWX⟩ : ∃ Y, Y = grow (wr.drewN nq) osq := ⟨_, rfl⟩
                  rw [← hWX] at GX ⊢
                  clear g0 g1 g2 g3 C3 hWX
                  have LYX := Lib.hid (show Low W1 WX from GX.out.low)
                  have LOX := Lib.hid (LO1.out.trans LYX.out)
                  have LWX := Lib.hid (LWW.out.trans LYX.out)
                  have BYX := Lib.hid (BY.out.low LYX.out)
                  have OX := Lib.hid (OwnR.low OW.out LYX.out)
                  have HYO := HYE
                  obtain ⟨y0, y1, y2, y3, y4, y5, y6, y7, y8, y9, y10⟩ := BYX.out.at11
                  have hins : ins cmpE y.e (ensOf out) = (ensOf out).take j ++ y.e :: (ensOf out).drop j := by
                    refine insE_at HNE.out j (by unfold ensOf; rw [List.length_map]; have := HN2.out; omega) ?_ ?_
                    · intro k hk hkj
                      have hk2 : k < out.length := by simpa [ensOf] using hk
                      have := KJ.out k hk2 hkj
                      simpa [ensOf] using this
                    · intro hk
                      have hk2 : j < out.length := by simpa [ensOf] using hk
                      have e1 : (ensOf out)[j].u = z.e.u := by simp [ensOf, HZZ.out]
                      show ¬ cmpUs (ensOf out)[j].u y.e.u < 0
                      rw [e1, HCR.out]
                      omega
                  have HINS := Lib.hid (show ensOf (out.take j ++ y :: out.drop j) = ins cmpE y.e (ensOf out) by rw [hins]; unfold ensOf; rw [List.map_append, List.map_cons, List.map_take, List.map_drop])
                  clear hins
                  have ZL := Lib.hid (show (out.take j).length = j by rw [List.length_take]; have := HN2.out; omega)
                  have ZL2 := Lib.hid (show (out.drop j).length = n2 - j by rw [List.length_drop, HN2.out])
                  have ZOL := Lib.hid (show out.length ≤ 300 by have := HN2.out; omega)
                  have zk0 : (0 : Int) ≤ (j : Int) := by omega
                  have zk1 : (j : Int) ≤ (cap2 : Int) := by omega
                  have zk2 : (j : Int) ≤ (n2 : Int) := by omega
                  go_wp2_with (first
                    | (at_builtin; refine appRn rfl _ _ _ rfl Tryz.underlying47 e_info rfl (by decide) (by decide) encE_len encE_one WX.heap.size v2 ([] ++ out.take j ++ [y]) rfl H2.out (out.drop j) _ _ _ rfl (by rw [ZL2.out]; try simp) (src_drop encE_len (OwnR.low OX.out L2.out) (by have := HN2.out; omega) _ (by first | exact .inr rfl | (simp; done) | (have := HN2.out; simp; omega))) (by have := ZL.out; have := ZL2.out; have := ZOL.out; simp; omega) Z2.out ?_; intro v3 w3' h3 b3 k3; have H3 := Lib.hid h3; have L3 := Lib.hid (L2.out.trans_below b3 (Nat.le_refl _)); clear h3 b3 k3)
                    | (at_builtin; refine appR rfl _ _ _ rfl Tryz.underlying47 e_info rfl (by decide) (by decide) encE_len encE_one WX.heap.size v1 ([] ++ out.take j) rfl (H1.out.alloc _) y ⟨w1'.heap.size, 0, none⟩ 1 rfl (fun j u hj => newcell_at _ _ _ _ _ rfl hj) (by have := ZL.out; simp; omega) ZB1.out ?_; intro v2 w2' h2 b2 k2 n2; have H2 := Lib.hid h2; have L2 := Lib.hid ((Low.alloc LX1.out _).trans_below b2 (Nat.le_refl _)); have Z2 := Lib.hid L2.out.size; clear h2 b2 k2 n2)
                    | (at_builtin; refine appRn rfl _ _ _ rfl Tryz.underlying47 e_info rfl (by decide) (by decide) encE_len encE_one WX.heap.size (.slice none 0 0) [] rfl (OwnR.nil _ _ _ _ _) (out.take j) _ _ _ rfl (by rw [ZL.out]; try rfl; try simp) (src_take OX.out j) (by have := ZL.out; simp; omega) (Nat.le_refl _) ?_; intro v1 w1' h1 b1 k1; have H1 := Lib.hid h1; have LX1 := Lib.hid (Low.trans_below (Low.refl WX) b1 (Nat.le_refl _)); clear h1 b1 k1 y0 y1 y2 y3 y4 y5 y6 y7 y8 y9 y10; obtain ⟨y0, y1, y2, y3, y4, y5, y6, y7, y8, y9, y10⟩ := (BYX.out.low LX1.out).at11; have ZB1 := Lib.hid (show WX.heap.size ≤ (w1'.alloc (.cells #[.string y.e.u.t, .string y.e.u.i, .slice y.ap y.e.ps.length y.cp, .int .i64 y.e.a.h.k, .bool y.e.a.h.b, .int .i64 y.e.a.h.n, .string y.e.a.h.s, .string y.e.a.h.t, .string y.e.a.h.i, .slice y.ai y.e.a.l.length y.ci, .slice y.an y.e.a.ns.length y.cn] 71)).heap.size from (Low.alloc LX1.out _).size)))
                  all_goals
                    clear y0 y1 y2 y3 y4 y5 y6 y7 y8 y9 y10
                    have HFN := Lib.hid (show [] ++ out.take j ++ [y] ++ out.drop j = out.take j ++ y :: out.drop j by simp)
                    go_wp2_with fail
                    go_roundg (qs.length - (i + 1))
                    case measure => omega
                    case rel =>
                      have hnew : ensOf ([] ++ out.take j ++ [y] ++ out.drop j) = uniq cmpE (((ensOf qs).take (i + 1)).map (oneE canD)) := by
                        rw [HFN.out, HINS.out, HK0.out]
                      refine ⟨v3, i + 1, [] ++ out.take j ++ [y] ++ out.drop j, rfl, by go_num, by omega, by omega, Lib.hid (LWX.out.trans L3.out), Lib.hid (OwnR.base (show OwnE WX.heap.size w3' v3 ([] ++ out.take j ++ [y] ++ out.drop j) from H3.out) LWX.out.size), Lib.hid hnew, Lib.hid fun p hp => ?_, HZ1⟩
                      have hp2 : p ∈ out ∨ p = y := by
                        rw [HFN.out] at hp
                        rcases List.mem_append.1 hp with h | h
                        · exact .inl (List.mem_of_mem_take h)
                        · rcases List.mem_cons.1 h with h | h
                          · exact .inr h
                          · exact .inl (List.mem_of_mem_drop h)
                      rcases hp2 with h | h
                      · exact ((ELS.out p h).low LOX.out).low L3.out
                      · rw [h]; exact (HYO.out.low LYX.out).low L3.out
              · have zj : ¬ (j : Int) < (n2 : Int) := by omega
                have HJN := Lib.hid (show j = n2 by omega)
                go_wp2_with fail
                go_quiet (fail)
                have GX := Lib.hid (GI.out.trans (Gr.drewN (Gr.refl wr) nq))
                obtain ⟨WX, hWX⟩ : ∃ Y, Y = wr.drewN nq := ⟨_, rfl⟩
                rw [← hWX] at GX ⊢
                clear hWX y0 y1
                have LYX := Lib.hid (show Low W1 WX from GX.out.low)
                have LOX := Lib.hid (LO1.out.trans LYX.out)
                have LWX := Lib.hid (LWW.out.trans LYX.out)
                have BYX := Lib.hid (BY.out.low LYX.out)
                have OX := Lib.hid (OwnR.low OW.out LYX.out)
                have HYO := HYE
                obtain ⟨y0, y1, y2, y3, y4, y5, y6, y7, y8, y9, y10⟩ := BYX.out.at11
                have hins : ins cmpE y.e (ensOf out) = (ensOf out).take j ++ y.e :: (ensOf out).drop j := by
                  refine insE_at HNE.out j (by unfold ensOf; rw [List.length_map]; have := HN2.out; omega) ?_ ?_
                  · intro k hk hkj
                    have hk2 : k < out.length := by simpa [ensOf] using hk
                    have := KJ.out k hk2 hkj
                    simpa [ensOf] using this
                  · intro hk
                    have hk2 : j < out.length := by simpa [ensOf] using hk
                    have := HN2.out
                    have := HJN.out
                    omega
                have HINS := Lib.hid (show ensOf (out.take j ++ y :: out.drop j) = ins cmpE y.e (ensOf out) by rw [hins]; unfold ensOf; rw [List.map_append, List.map_cons, List.map_take, List.map_drop])
                clear hins
                rcases HBLK.out with ⟨rfl, h0, rfl⟩ | ⟨g, rfl⟩
                · subst h0
                  obtain rfl : j = 0 := by have := HJN.out; omega
                  have HNIL := Lib.hid (show out = [] from List.eq_nil_of_length_eq_zero HN2.out)
                  go_wp2_with (first
                    | (at_builtin; refine appRn rfl _ _ _ rfl Tryz.underlying47 e_info rfl (by decide) (by decide) encE_len encE_one WX.heap.size v2 ([] ++ [y]) rfl H2.out [] _ _ _ rfl rfl (.inl rfl) (by simp) Z2.out ?_; intro v3 w3' h3 b3 k3; have H3 := Lib.hid h3; have L3 := Lib.hid (L2.out.trans_below b3 (Nat.le_refl _)); clear h3 b3 k3)
                    | (at_builtin; refine appR rfl _ _ _ rfl Tryz.underlying47 e_info rfl (by decide) (by decide) encE_len encE_one WX.heap.size (.slice none 0 0) [] rfl (OwnR.nil _ _ _ _ _) y ⟨WX.heap.size, 0, none⟩ 1 rfl (fun j u hj => newcell_at _ _ _ _ _ rfl hj) (by simp) (by simp) ?_; intro v2 w2' h2 b2 k2 n2; have H2 := Lib.hid h2; have Z2 := Lib.hid (Nat.le_trans (Nat.le_of_lt (by simp) : WX.heap.size ≤ _) b2.size); have L2 := Lib.hid ((Low.alloc (Low.refl WX) _).trans_below b2 (Nat.le_refl _)); clear h2 b2 k2 n2))
                  clear y0 y1 y2 y3 y4 y5 y6 y7 y8 y9 y10
                  have HFN := Lib.hid (show [] ++ [y] ++ [] = out.take 0 ++ y :: out.drop 0 by rw [HNIL.out]; rfl)
                  go_wp2_with fail
                  go_roundg (qs.length - (i + 1))
                  case measure => omega
                  case rel =>
                    have hnew : ensOf ([] ++ [y] ++ []) = uniq cmpE (((ensOf qs).take (i + 1)).map (oneE canD)) := by
                      rw [HFN.out, HINS.out, HK0.out]
                    refine ⟨v3, i + 1, [] ++ [y] ++ [], rfl, by go_num, by omega, by omega, Lib.hid (LWX.out.trans L3.out), Lib.hid (OwnR.base (show OwnE WX.heap.size w3' v3 ([] ++ [y] ++ []) from H3.out) LWX.out.size), Lib.hid hnew, Lib.hid fun p hp => ?_, HZ1⟩
                    have hp2 : p ∈ out ∨ p = y := by
                      rw [HFN.out] at hp
                      rcases List.mem_append.1 hp with h | h
                      · exact .inl (List.mem_of_mem_take h)
                      · rcases List.mem_cons.1 h with h | h
                        · exact .inr h
                        · exact .inl (List.mem_of_mem_drop h)
                    rcases hp2 with h | h
                    · exact ((ELS.out p h).low LOX.out).low L3.out
                    · rw [h]; exact (HYO.out.low LYX.out).low L3.out
                · have ZL := Lib.hid (show (out.take j).length = j by rw [List.length_take]; have := HN2.out; omega)
                  have ZL2 := Lib.hid (show (out.drop j).length = n2 - j by rw [List.length_drop, HN2.out])
                  have ZOL := Lib.hid (show out.length ≤ 300 by have := HN2.out; omega)
                  have zk0 : (0 : Int) ≤ (j : Int) := by omega
                  have zk1 : (j : Int) ≤ (cap2 : Int) := by omega
                  have zk2 : (j : Int) ≤ (n2 : Int) := by omega
                  go_wp2_with (first
                    | (at_builtin; refine appRn rfl _ _ _ rfl Tryz.underlying47 e_info rfl (by decide) (by decide) encE_len encE_one WX.heap.size v2 ([] ++ out.take j ++ [y]) rfl H2.out (out.drop j) _ _ _ rfl (by rw [ZL2.out]; try simp) (src_drop encE_len (OwnR.low OX.out L2.out) (by have := HN2.out; omega) _ (by first | exact .inr rfl | (simp; done) | (have := HN2.out; simp; omega))) (by have := ZL.out; have := ZL2.out; have := ZOL.out; simp; omega) Z2.out ?_; intro v3 w3' h3 b3 k3; have H3 := Lib.hid h3; have L3 := Lib.hid (L2.out.trans_below b3 (Nat.le_refl _)); clear h3 b3 k3)
                    | (at_builtin; refine appR rfl _ _ _ rfl Tryz.underlying47 e_info rfl (by decide) (by decide) encE_len encE_one WX.heap.size v1 ([] ++ out.take j) rfl (H1.out.alloc _) y ⟨w1'.heap.size, 0, none⟩ 1 rfl (fun j u hj => newcell_at _ _ _ _ _ rfl hj) (by have := ZL.out; simp; omega) ZB1.out ?_; intro v2 w2' h2 b2 k2 n2; have H2 := Lib.hid h2; have L2 := Lib.hid ((Low.alloc LX1.out _).trans_below b2 (Nat.le_refl _)); have Z2 := Lib.hid L2.out.size; clear h2 b2 k2 n2)
                    | (at_builtin; refine appRn rfl _ _ _ rfl Tryz.underlying47 e_info rfl (by decide) (by decide) encE_len encE_one WX.heap.size (.slice none 0 0) [] rfl (OwnR.nil _ _ _ _ _) (out.take j) _ _ _ rfl (by rw [ZL.out]; try rfl; try simp) (src_take OX.out j) (by have := ZL.out; simp; omega) (Nat.le_refl _) ?_; intro v1 w1' h1 b1 k1; have H1 := Lib.hid h1; have LX1 := Lib.hid (Low.trans_below (Low.refl WX) b1 (Nat.le_refl _)); clear h1 b1 k1 y0 y1 y2 y3 y4 y5 y6 y7 y8 y9 y10; obtain ⟨y0, y1, y2, y3, y4, y5, y6, y7, y8, y9, y10⟩ := (BYX.out.low LX1.out).at11; have ZB1 := Lib.hid (show WX.heap.size ≤ (w1'.alloc (.cells #[.string y.e.u.t, .string y.e.u.i, .slice y.ap y.e.ps.length y.cp, .int .i64 y.e.a.h.k, .bool y.e.a.h.b, .int .i64 y.e.a.h.n, .string y.e.a.h.s, .string y.e.a.h.t, .string y.e.a.h.i, .slice y.ai y.e.a.l.length y.ci, .slice y.an y.e.a.ns.length y.cn] 71)).heap.size from (Low.alloc LX1.out _).size)))
                  all_goals
                    clear y0 y1 y2 y3 y4 y5 y6 y7 y8 y9 y10
                    have HFN := Lib.hid (show [] ++ out.take j ++ [y] ++ out.drop j = out.take j ++ y :: out.drop j by simp)
                    go_wp2_with fail
                    go_roundg (qs.length - (i + 1))
                    case measure => omega
                    case rel =>
                      have hnew : ensOf ([] ++ out.take j ++ [y] ++ out.drop j) = uniq cmpE (((ensOf qs).take (i + 1)).map (oneE canD)) := by
                        rw [HFN.out, HINS.out, HK0.out]
                      refine ⟨v3, i + 1, [] ++ out.take j ++ [y] ++ out.drop j, rfl, by go_num, by omega, by omega, Lib.hid (LWX.out.trans L3.out), Lib.hid (OwnR.base (show OwnE WX.heap.size w3' v3 ([] ++ out.take j ++ [y] ++ out.drop j) from H3.out) LWX.out.size), Lib.hid hnew, Lib.hid fun p hp => ?_, HZ1⟩
                      have hp2 : p ∈ out ∨ p = y := by
                        rw [HFN.out] at hp
                        rcases List.mem_append.1 hp with h | h
                        · exact .inl (List.mem_of_mem_take h)
                        · rcases List.mem_cons.1 h with h | h
                          · exact .inr h
                          · exact .inl (List.mem_of_mem_drop h)
                      rcases hp2 with h | h
                      · exact ((ELS.out p h).low LOX.out).low L3.out
                      · rw [h]; exact (HYO.out.low LYX.out).low L3.out
        · have zl : ¬ (i : Int) < (qs.length : Int) := by omega
          have ht : (ensOf qs).take i = ensOf qs := List.take_of_length_le (by unfold ensOf; rw [List.length_map]; omega)
          have hz := Z.out
          have hk := K.out
          rw [ht] at hz hk
          have hL := (errL_zero canD (names := namesE (ensOf qs))).2 hz
          have hres : res = (open Classical in if RoundE (ensOf qs) then (21, []) else (0, uniq cmpE ((ensOf qs).map (oneE canD)))) := by rw [HD.out, if_pos HN.out, if_pos hL]
          have HRES := Lib.hid hres
          have HK2 := Lib.hid hk
          obtain ⟨ao2, cap2, rfl, hc1, hc2, -⟩ := O.out.shape
          obtain ⟨n2, hn2⟩ : ∃ m, out.length = m := ⟨_, rfl⟩
          have HEO := Lib.hid (show EtAt wr (.slice ao2 out.length cap2) out from ⟨O.out.esAt, ELS.out⟩)
          rw [hn2] at hc1 HEO ⊢
          have RC := Lib.hid (rRound_c (qs.map Ee.sh) (fun i => ((ensOf qs)[i]?.map (·.ps)).getD []) (by simp; omega) wr (.slice ao qs.length c) (HQ.out.1.low G.out) (fun i hi => by
            have hi' : i < qs.length := by simpa using hi
            rw [List.getElem_map]
            have e1 : ((ensOf qs)[i]?.map (·.ps)).getD [] = qs[i].e.ps := by simp [ensOf, hi']
            rw [e1]
            exact (HQ.out.2 qs[i] (List.getElem_mem hi')).1.any.low G.out))
          clear hz hk hL hres ht hn2
          go_wp2_with fail
          refine RC.out.mono ?_
          rintro e w2 ⟨p, rfl, hp, hlow⟩
          rw [rround_word] at hp
          have HPW := Lib.hid hp
          have L2 := Lib.hid hlow
          clear hp hlow RC
          cases p with
          | true =>
            go_wp2_with fail
            go_ret2
            rw [HRES.out, if_pos (HPW.out.1 (by trivial))]
            exact canLP_bad (G.out.trans L2.out)
          | false =>
            have hnr : ¬ RoundE (ensOf qs) := fun h => by simpa using HPW.out.2 h
            go_wp2_with fail
            go_ret2
            rw [HRES.out, if_neg hnr]
            exact ⟨_, rfl, G.out.trans L2.out, out, HK2.out, HEO.out.low L2.out⟩
end Go.Proofs.YtnenjgngahipdaaGreat
