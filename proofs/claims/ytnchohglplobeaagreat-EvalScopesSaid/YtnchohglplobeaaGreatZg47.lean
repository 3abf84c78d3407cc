/- The reference's Canon: a list of entities as it must be, or refused. Condition: no more than 300 entities, of no more than 300 parents each. Ways by numbers of a list of entities of different names are those by names; those above a name, in the list's order. No condition. family.Load: the store of a list, or its error. Condition: no more than 300 entities, of no more than 300 parents each. Entities as they must be stay so; the order of a list, and of parents, doesn't matter. No condition. A value among a law's arguments is a tree that lies in memory. No condition. A row of values, of texts or of numbers among a law's arguments lies in memory. No condition. A list of entities among a law's arguments lies in memory. No condition. What a store that is nil answers; plain facts of lists as they must be. No condition. -/
import Derived.Test.YtnchohglplobeaaGreatZg46
import Derived.Test.YtnchohglplobeaaGreatZg13
set_option linter.unusedVariables false
set_option linter.unusedSimpArgs false
set_option linter.unnecessarySimpa false
namespace Go.Proofs.YtnchohglplobeaaGreat
open Go.RowKit Go.Sort Go.Maps
theorem find_nod {qs : List Ee} (h : (namesE (ensOf qs)).Nodup) {i : Nat} (hi : i < qs.length) : findI (qs.map Ee.sh) qs[i].e.u = (i : Int) := by
 have hn : namesE (ensOf qs) = qs.map fun q => q.e.u := by unfold namesE ensOf; rw [List.map_map]; rfl
 rw [hn, List.nodup_iff_pairwise_ne, List.pairwise_map, List.pairwise_iff_getElem] at h
 refine idx_here (by simpa using hi) (fun j hj hji => ?_) ?_
 ·rw [List.getElem_map]
  exact h j i (by omega) hi hji
 ·rw [List.getElem_map]; rfl
theorem nod_find {qs : List Ee} (h : ∀ i (hi : i < qs.length), findI (qs.map Ee.sh) qs[i].e.u = (i : Int)) : (namesE (ensOf qs)).Nodup := by
 have hn : namesE (ensOf qs) = qs.map fun q => q.e.u := by unfold namesE ensOf; rw [List.map_map]; rfl
 rw [hn, List.nodup_iff_pairwise_ne, List.pairwise_map, List.pairwise_iff_getElem]
 intro i j hi hj hij e
 have h1 := h i hi
 have h2 := h j hj
 rw [e, h2] at h1
 omega
set_option maxHeartbeats 16000000 in
set_option maxRecDepth 100000 in
theorem rcanE_c (qs : List Ee) (w : World) (r : Value) (h : EtAt w r qs) (hf : FewE (ensOf qs)) (hs : ∀ q ∈ qs, Smv q.e.a) (hdp : ∀ q ∈ qs, dep q.e.a ≤ 1000000) : Calls Tryz.prog 13 #[r] w (CanLP (canE canD (ensOf qs)) w) := by
 obtain ⟨ao, c, rfl, ⟨hlc, hc9⟩, hx⟩ := h.at
 have hq3 : qs.length ≤ 300 := by have := hf.1; unfold ensOf at this; rwa [List.length_map] at this
 have z1 : (qs.length : Int) ≤ 4096 := by omega
 have zd : decide ((4096 : Int) < (qs.length : Int)) = false := by simp; omega
 have hel : (ensOf qs).length = qs.length := by simp [ensOf]
 have hdef : canE canD (ensOf qs) = if (namesE (ensOf qs)).Nodup then (if errL canD (namesE (ensOf qs)) (ensOf qs) = 0 then (open Classical in if RoundE (ensOf qs) then (21, []) else (0, uniq cmpE ((ensOf qs).map (oneE canD)))) else (errL canD (namesE (ensOf qs)) (ensOf qs), [])) else (13, []) := by
  unfold canE; rw [if_neg (by rw [hel]; omega)]
 obtain ⟨res, hres⟩ : ∃ res, res = canE canD (ensOf qs) := ⟨_, rfl⟩
 rw [← hres] at hdef ⊢
 have HD := Lib.hid hdef
 have HX := Lib.hid hx
 have HQ := Lib.hid h
 have HF := Lib.hid hf
 have HS := Lib.hid hs
 have HDP := Lib.hid hdp
 clear hx h hf hs hdp hel hdef hres
 go_enter Tryz.func13, Tryz.ntmps13
 go_wp2_with fail
 go_loopg [4] qs.length (fun gk vi wr => ∃ i : Nat, vi = .int .i64 (i : Int) ∧ i ≤ qs.length ∧ qs.length - i ≤ gk ∧ Hid (Low w wr) ∧ Hid (∀ j (hj : j < qs.length), j < i → findI (qs.map Ee.sh) qs[j].e.u = (j : Int)))
 case atStart => exact ⟨0, rfl, Nat.zero_le _, Nat.le_refl _, Lib.hid (Low.refl _), Lib.hid fun j hj h => absurd h (Nat.not_lt_zero _)⟩
 case round =>
  obtain ⟨i, rfl, hi, hg, G, K⟩ := hrel
  by_cases hlt : i < qs.length
  ·have zl : (i : Int) < (qs.length : Int) := by omega
   obtain ⟨b, o, rfl, hcs⟩ := HX.out i hlt
   have hfq : (namesE (ensOf qs)).Nodup → findI (qs.map Ee.sh) qs[i].e.u = (i : Int) := fun h => find_nod h hlt
   have hqi : ∀ j (hj : j < qs.length), j = i → findI (qs.map Ee.sh) qs[j].e.u = findI (qs.map Ee.sh) qs[i].e.u := fun j hj e => by subst e; rfl
   obtain ⟨q, hqq⟩ : ∃ q, qs[i] = q := ⟨_, rfl⟩
   rw [hqq] at hcs hfq
   rw [hqq] at hqi
   obtain ⟨e0, e1, -⟩ := ee11 (G.out.cells hcs)
   have hfi := find_c (qs.map Ee.sh) q.e.u wr _ (HQ.out.1.low G.out)
   unfold usV at hfi
   have HFQ := Lib.hid hfq
   have HQI := Lib.hid hqi
   obtain ⟨fi, hfe⟩ : ∃ fi, findI (qs.map Ee.sh) q.e.u = fi := ⟨_, rfl⟩
   rw [hfe] at hfi
   have HFE := Lib.hid hfe
   clear hcs hqq hfq hqi hfe
   by_cases hff : fi = (i : Int)
   ·subst hff
    have HC := Lib.hid hfi
    clear hfi
    go_wp2_with fail
    refine HC.out.mono ?_
    rintro e w2 ⟨rfl, l2⟩
    have L2 := Lib.hid (G.out.trans l2)
    clear l2 e0 e1 HC
    go_wp2_with fail
    go_roundg (qs.length - (i + 1))
    case measure => omega
    case rel =>
     refine ⟨i + 1, by go_num, by omega, by omega, L2, Lib.hid fun j hj hji => ?_⟩
     rcases Nat.lt_succ_iff_lt_or_eq.1 hji with h | h
     ·exact K.out j hj h
     ·rw [HQI.out j hj h, HFE.out, h]
   ·have zf : (fi != (i : Int)) = true := by simpa using hff
    have HC := Lib.hid hfi
    have HNE := Lib.hid hff
    have HR := Lib.hid (show res = (13, []) by
     rw [HD.out, if_neg]
     intro hn
     have := HFQ.out hn
     rw [HFE.out] at this
     exact hff this)
    clear hfi hff
    go_wp2_with fail
    refine HC.out.mono ?_
    rintro e w2 ⟨rfl, l2⟩
    have L2 := Lib.hid (G.out.trans l2)
    clear l2 e0 e1 HC
    go_wp2_with fail
    go_ret2
    rw [HR.out]
    exact canLP_bad L2.out
  ·have zl : ¬ (i : Int) < (qs.length : Int) := by omega
   have HN := Lib.hid (nod_find fun j hj => K.out j hj (by omega))
   have HNM := Lib.hid (show ∀ x, x ∈ namesE (ensOf qs) ↔ (fS (qs.map Ee.sh) x).isSome = true from fun x => fS_names.symm)
   have GL := G
   clear hi hg
   rename World => wa
   go_wp2_with fail
   go_loopg [5, 6] qs.length (fun gk vs vi wr => ∃ (vo : Value) (i : Nat) (out : List Ee), vo = vs ∧ vi = .int .i64 (i : Int) ∧ i ≤ qs.length ∧ qs.length - i ≤ gk ∧ Hid (Low w wr) ∧ Hid (OwnE w.heap.size wr vo out) ∧ Hid (ensOf out = uniq cmpE (((ensOf qs).take i).map (oneE canD))) ∧ Hid (∀ p ∈ out, EeOk (fun _ => True) wr p) ∧ Hid (∀ e ∈ (ensOf qs).take i, errE canD (namesE (ensOf qs)) e = 0))
   case atStart => exact ⟨_, 0, [], rfl, rfl, Nat.zero_le _, Nat.le_refl _, GL, Lib.hid (OwnR.nil _ _ _ _ _), Lib.hid rfl, Lib.hid fun p hp => by simp at hp, Lib.hid fun e he => by simp at he⟩
   case round =>
    obtain ⟨vo, i, out, rfl, rfl, hi, hg, G, O, K, ELS, Z⟩ := hrel
    by_cases hlt : i < qs.length
    ·have zl : (i : Int) < (qs.length : Int) := by omega
     have hol : out.length ≤ 300 := by
      have h1 := congrArg List.length K.out
      have h2 := uniq_len (c := cmpE) (((ensOf qs).take i).map (oneE canD))
      rw [← h1] at h2
      unfold ensOf at h2
      simp at h2
      omega
     obtain ⟨b, o, rfl, hcs⟩ := HX.out i hlt
     have hq := HQ.out.2 qs[i] (List.getElem_mem hlt)
     have hsm := HS.out qs[i] (List.getElem_mem hlt)
     have hdq := HDP.out qs[i] (List.getElem_mem hlt)
     have hps : qs[i].e.ps.length ≤ 300 := HF.out.2 qs[i].e (by unfold ensOf; exact List.mem_map_of_mem (List.getElem_mem hlt))
     have hei : (ensOf qs)[i]? = some qs[i].e := by unfold ensOf; simp [hlt]
     obtain ⟨q, hqq⟩ : ∃ q, qs[i] = q := ⟨_, rfl⟩
     rw [hqq] at hcs hq hsm hps hei hdq
     obtain ⟨e0, e1, e2, e3, e4, e5, e6, e7, e8, e9, e10⟩ := ee11 (G.out.cells hcs)
     have hcon := rone_c (qs.map Ee.sh) _ HNM.out (.slice (some ⟨b, o, none⟩) qs.length c) q.e.u q.e.ps q.e.a q.ap q.cp q.ai q.ci q.an q.cn wr (HQ.out.1.low G.out) (hq.1.any.low G.out) (hq.2.low G.out) hsm hdq (by omega)
     change Calls _ _ _ _ (CanEP _ q.e _) at hcon
     unfold CanEP at hcon
     have HEI := Lib.hid hei
     obtain ⟨er, her⟩ : ∃ er, er = errE canD (namesE (ensOf qs)) q.e := ⟨_, rfl⟩
     rw [← her] at hcon
     have HC := Lib.hid hcon
     have HER := Lib.hid her
     have htk : (ensOf qs).take (i + 1) = (ensOf qs).take i ++ [q.e] := by rw [List.take_add_one, hei]; rfl
     have HTK := Lib.hid htk
     clear hcs hq hsm hps hqq her hei hcon hdq htk
     go_wp2_with fail
     refine HC.out.mono ?_
     rintro e w2 ⟨y, rfl, hlow, hok⟩
     have L1 := Lib.hid hlow
     by_cases h0 : er = 0
     case neg =>
      have HH := Lib.hid h0
      have hcz : (er != 0) = true := by simpa using h0
      have hres : res = (er, []) := by
       have hli : i < (ensOf qs).length := by simpa [ensOf] using hlt
       have hge : (ensOf qs)[i] = q.e := by have := HEI.out; rw [List.getElem?_eq_getElem hli] at this; simpa using this
       have hL := errL_at canD hli Z.out (by rw [hge, ← HER.out]; exact h0)
       rw [hge, ← HER.out] at hL
       rw [HD.out, if_pos HN.out, hL, if_neg h0]
      have HRES := Lib.hid hres
      have LL := Lib.hid (G.out.trans L1.out)
      clear hok hlow h0 hres HC
      go_wp2_with fail
      go_ret2
      rw [HRES.out]
      exact canLP_bad (Low.alloc LL.out _)
     case pos =>
      subst h0
      obtain ⟨hy, hyok⟩ := hok rfl
      obtain ⟨W1, hW1⟩ : ∃ W, W = w2.alloc (.cells #[.string y.e.u.t, .string y.e.u.i, .slice y.ap y.e.ps.length y.cp, .int .i64 y.e.a.h.k, .bool y.e.a.h.b, .int .i64 y.e.a.h.n, .string y.e.a.h.s, .string y.e.a.h.t, .string y.e.a.h.i, .slice y.ai y.e.a.l.length y.ci, .slice y.an y.e.a.ns.length y.cn] 72) := ⟨_, rfl⟩
      have HW1 := Lib.hid hW1
      have LW1 := Lib.hid (show Low w2 W1 from hW1 ▸ Low.alloc (Low.refl w2) _)
      have BY := Lib.hid (show BoxAtv W1 w2.heap.size [.string y.e.u.t, .string y.e.u.i, .slice y.ap y.e.ps.length y.cp, .int .i64 y.e.a.h.k, .bool y.e.a.h.b, .int .i64 y.e.a.h.n, .string y.e.a.h.s, .string y.e.a.h.t, .string y.e.a.h.i, .slice y.ai y.e.a.l.length y.ci, .slice y.an y.e.a.ns.length y.cn] from hW1 ▸ BoxAtv.new w2.heap.size (Low.refl (w2.alloc (.cells #[.string y.e.u.t, .string y.e.u.i, .slice y.ap y.e.ps.length y.cp, .int .i64 y.e.a.h.k, .bool y.e.a.h.b, .int .i64 y.e.a.h.n, .string y.e.a.h.s, .string y.e.a.h.t, .string y.e.a.h.i, .slice y.ai y.e.a.l.length y.ci, .slice y.an y.e.a.ns.length y.cn] 72))) rfl rfl)
      have LO1 := Lib.hid (L1.out.trans LW1.out)
      have LWW := Lib.hid (G.out.trans LO1.out)
      have HYE := Lib.hid (show EeOk (fun _ => True) W1 y from (hyok.to fun b _ hb => ⟨trivial, LW1.out.2.2.2 b hb⟩))
      have OW := Lib.hid (OwnR.low O.out LO1.out)
      have HNE := Lib.hid (show ∀ z ∈ ensOf out, cmpE z y.e ≠ 0 from fun z hz hc => by
       have hn := HN.out
       have hl1 : (namesE ((ensOf qs).take (i + 1))).Nodup := by
        unfold namesE at hn ⊢
        rw [List.map_take]
        exact hn.sublist (List.take_sublist _ _)
       rw [HTK.out] at hl1
       have hz2 : z ∈ ((ensOf qs).take i).map (oneE canD) := by
        rw [K.out] at hz
        refine (mem_en (by rw [names_one]; unfold namesE at hn ⊢; rw [List.map_take]; exact hn.sublist (List.take_sublist _ _))).1 hz
       obtain ⟨d, hd, rfl⟩ := List.mem_map.1 hz2
       have hu : d.u = q.e.u := by have := us_zero hc; rw [hy] at this; exact this
       unfold namesE at hl1
       rw [List.map_append, List.nodup_append] at hl1
       exact hl1.2.2 d.u (List.mem_map_of_mem hd) q.e.u (by simp) hu)
      have HK0 := Lib.hid (show ins cmpE y.e (ensOf out) = uniq cmpE (((ensOf qs).take (i + 1)).map (oneE canD)) by
       rw [K.out, HTK.out, List.map_append]
       unfold uniq
       rw [List.foldl_append, hy]
       rfl)
      have HZ1 := Lib.hid (show ∀ e ∈ (ensOf qs).take (i + 1), errE canD (namesE (ensOf qs)) e = 0 from fun e he => by
       rw [HTK.out] at he
       rcases List.mem_append.1 he with h | h
       ·exact Z.out e h
       ·simp at h; rw [h]; exact HER.out.symm)
      obtain ⟨ao2, cap2, rfl, hc1, hc2, hblk⟩ := O.out.shape
      obtain ⟨n2, hn2⟩ : ∃ m, out.length = m := ⟨_, rfl⟩
      rw [hn2] at hc1 OW ⊢
      have HN2 := Lib.hid hn2
      have hn300 : n2 ≤ 300 := by omega
      have HBLK := Lib.hid (show (ao2 = none ∧ n2 = 0 ∧ cap2 = 0) ∨ ∃ g, ao2 = some ⟨g, 0, none⟩ by
       rcases OW.out.2 with ⟨hv, hl⟩ | ⟨g, cap, cur, hv, -⟩
       ·simp only [Value.slice.injEq] at hv
        exact .inl ⟨hv.1, hv.2.1, hv.2.2⟩
       ·simp only [Value.slice.injEq] at hv
        exact .inr ⟨g, hv.1⟩)
      clear hok hlow hy hyok hW1 hn2 hblk hol HC e0 e1 e2 e3 e4 e5 e6 e7 e8 e9 e10
      go_upto_region 17 with fail
      rw [← HW1.out]
      clear HW1
      go_loopg [10] n2 (fun gj vj wi => ∃ j : Nat, vj = .int .i64 (j : Int) ∧ j ≤ n2 ∧ n2 - j ≤ gj ∧ Hid (Gr W1 wi) ∧ Hid (∀ k (hk : k < out.length), k < j → cmpE out[k].e y.e < 0))
      case atStart => exact ⟨0, rfl, Nat.zero_le _, Nat.le_refl _, Lib.hid (Gr.refl _), Lib.hid fun k hk h => absurd h (Nat.not_lt_zero _)⟩
      case round =>
       obtain ⟨j, rfl, hj, hgj, GI, KJ⟩ := hrel
       obtain ⟨y0, y1, -⟩ := (BY.out.low GI.out.low).at11
       by_cases hjl : j < n2
       ·have zj : (j : Int) < (n2 : Int) := by omega
        rcases HBLK.out with ⟨-, h0, -⟩ | ⟨g, rfl⟩
        ·omega
        have hjo : j < out.length := by have := HN2.out; omega
        have hoj := OwnR.low OW.out GI.out.low
        have ca0 := OwnR.cell encE_len hoj j 0 hjo (by decide)
        have ca1 := OwnR.cell encE_len hoj j 1 hjo (by decide)
        obtain ⟨z, hz⟩ : ∃ z, out[j] = z := ⟨_, rfl⟩
        rw [hz] at ca0 ca1
        replace ca0 : wr.cell? ⟨g, j * 11, none⟩ = some (.string z.e.u.t) := ca0
        replace ca1 : wr.cell? ⟨g, j * 11 + 1, none⟩ = some (.string z.e.u.i) := ca1
        have up : ∀ {a : Addr} {u : Value}, wr.cell? a = some u → ∀ n os, (grow (wr.drewN n) os).cell? a = some u := fun h n os => (Gr.grow (Gr.refl wr) n os).cell h
        have g0 := up ca0
        have g1 := up ca1
        have g2 := up y0
        have g3 := up y1
        obtain ⟨cr, hcr⟩ : ∃ cr, cmpUs z.e.u y.e.u = cr := ⟨_, rfl⟩
        have c3 : ∀ X, Calls Tryz.prog 29 #[.agg #[.string z.e.u.t, .string z.e.u.i], .agg #[.string y.e.u.t, .string y.e.u.i]] X fun e w' => e = .returned (.int .i64 cr) ∧ Gr X w' := fun X => by rw [← hcr]; exact rOrdE_c z.e.u y.e.u X
        have C3 := Lib.hid fun n os => Calls.grown_of (c3 (grow (wr.drewN n) os))
        have mixed : Tryz.prog.follows .mixedOrders = true := by kernel_rfl
        have HCR := Lib.hid hcr
        have HZZ := Lib.hid hz
        clear hoj ca0 ca1 y0 y1 up c3 hcr hz
        by_cases hneg : cr < 0
        ·go_wp2_with fail
         go_quiet_grown (first | (with_reducible exact C3.out _ _))
         have GX := Lib.hid (GI.out.trans (Gr.grow (Gr.refl wr) nq osq))
         clear g0 g1 g2 g3 C3
         go_wp2_with fail
         go_roundg (n2 - (j + 1))
         case measure => omega
         case rel =>
          refine ⟨j + 1, by go_num, by omega, by omega, GX, Lib.hid fun k hk hkj => ?_⟩
          rcases Nat.lt_succ_iff_lt_or_eq.1 hkj with h | h
          ·exact KJ.out k hk h
          ·subst h
           unfold cmpE
           rw [HZZ.out, HCR.out]
           exact hneg
        ·have zg : 0 ≤ cr := by omega
         have zgd : decide (cr < 0) = false := by simp; omega
         go_wp2_with fail
         go_quiet_grown (first | (with_reducible exact C3.out _ _))
         have GX := Lib.hid (GI.out.trans (Gr.grow (Gr.refl wr) nq osq))
         obtain ⟨WX, hWX⟩ : ∃ Y, Y = grow (wr.drewN nq) osq := ⟨_, rfl⟩
         rw [← hWX] at GX ⊢
         clear g0 g1 g2 g3 C3 hWX
         have LYX := Lib.hid (show Low W1 WX from GX.out.low)
         have LOX := Lib.hid (LO1.out.trans LYX.out)
         have LWX := Lib.hid (LWW.out.trans LYX.out)
         have BYX := Lib.hid (BY.out.low LYX.out)
         have OX := Lib.hid (OwnR.low OW.out LYX.out)
         have HYO := HYE
         obtain ⟨y0, y1, y2, y3, y4, y5, y6, y7, y8, y9, y10⟩ := BYX.out.at11
         have hins : ins cmpE y.e (ensOf out) = (ensOf out).take j ++ y.e :: (ensOf out).drop j := by
          refine insE_at HNE.out j (by unfold ensOf; rw [List.length_map]; have := HN2.out; omega) ?_ ?_
          ·intro k hk hkj
           have hk2 : k < out.length := by simpa [ensOf] using hk
           have := KJ.out k hk2 hkj
           simpa [ensOf] using this
          ·intro hk
           have hk2 : j < out.length := by simpa [ensOf] using hk
           have e1 : (ensOf out)[j].u = z.e.u := by simp [ensOf, HZZ.out]
           show ¬ cmpUs (ensOf out)[j].u y.e.u < 0
           rw [e1, HCR.out]
           omega
         have HINS := Lib.hid (show ensOf (out.take j ++ y :: out.drop j) = ins cmpE y.e (ensOf out) by rw [hins]; unfold ensOf; rw [List.map_append, List.map_cons, List.map_take, List.map_drop])
         clear hins
         have ZL := Lib.hid (show (out.take j).length = j by rw [List.length_take]; have := HN2.out; omega)
         have ZL2 := Lib.hid (show (out.drop j).length = n2 - j by rw [List.length_drop, HN2.out])
         have ZOL := Lib.hid (show out.length ≤ 300 by have := HN2.out; omega)
         have zk0 : (0 : Int) ≤ (j : Int) := by omega
         have zk1 : (j : Int) ≤ (cap2 : Int) := by omega
         have zk2 : (j : Int) ≤ (n2 : Int) := by omega
         go_wp2_with (first
          | (at_builtin; refine appRn rfl _ _ _ rfl Tryz.underlying33 e_info rfl (by decide) (by decide) encE_len encE_one WX.heap.size v2 ([] ++ out.take j ++ [y]) rfl H2.out (out.drop j) _ _ _ rfl (by rw [ZL2.out]; try simp) (src_drop encE_len (OwnR.low OX.out L2.out) (by have := HN2.out; omega) _ (by first | exact .inr rfl | (simp; done) | (have := HN2.out; simp; omega))) (by have := ZL.out; have := ZL2.out; have := ZOL.out; simp; omega) Z2.out ?_; intro v3 w3' h3 b3 k3; have H3 := Lib.hid h3; have L3 := Lib.hid (L2.out.trans_below b3 (Nat.le_refl _)); clear h3 b3 k3)
          | (at_builtin; refine appR rfl _ _ _ rfl Tryz.underlying33 e_info rfl (by decide) (by decide) encE_len encE_one WX.heap.size v1 ([] ++ out.take j) rfl (H1.out.alloc _) y ⟨w1'.heap.size, 0, none⟩ 1 rfl (fun j u hj => newcell_at _ _ _ _ _ rfl hj) (by have := ZL.out; simp; omega) ZB1.out ?_; intro v2 w2' h2 b2 k2 n2; have H2 := Lib.hid h2; have L2 := Lib.hid ((Low.alloc LX1.out _).trans_below b2 (Nat.le_refl _)); have Z2 := Lib.hid L2.out.size; clear h2 b2 k2 n2)
          | (at_builtin; refine appRn rfl _ _ _ rfl Tryz.underlying33 e_info rfl (by decide) (by decide) encE_len encE_one WX.heap.size (.slice none 0 0) [] rfl (OwnR.nil _ _ _ _ _) (out.take j) _ _ _ rfl (by rw [ZL.out]; try rfl; try simp) (src_take OX.out j) (by have := ZL.out; simp; omega) (Nat.le_refl _) ?_; intro v1 w1' h1 b1 k1; have H1 := Lib.hid h1; have LX1 := Lib.hid (Low.trans_below (Low.refl WX) b1 (Nat.le_refl _)); clear h1 b1 k1 y0 y1 y2 y3 y4 y5 y6 y7 y8 y9 y10; obtain ⟨y0, y1, y2, y3, y4, y5, y6, y7, y8, y9, y10⟩ := (BYX.out.low LX1.out).at11; have ZB1 := Lib.hid (show WX.heap.size ≤ (w1'.alloc (.cells #[.string y.e.u.t, .string y.e.u.i, .slice y.ap y.e.ps.length y.cp, .int .i64 y.e.a.h.k, .bool y.e.a.h.b, .int .i64 y.e.a.h.n, .string y.e.a.h.s, .string y.e.a.h.t, .string y.e.a.h.i, .slice y.ai y.e.a.l.length y.ci, .slice y.an y.e.a.ns.length y.cn] 72)).heap.size from (Low.alloc LX1.out _).size)))
         all_goals
          clear y0 y1 y2 y3 y4 y5 y6 y7 y8 y9 y10
          have HFN := Lib.hid (show [] ++ out.take j ++ [y] ++ out.drop j = out.take j ++ y :: out.drop j by simp)
          go_wp2_with fail
          go_roundg (qs.length - (i + 1))
          case measure => omega
          case rel =>
           have hnew : ensOf ([] ++ out.take j ++ [y] ++ out.drop j) = uniq cmpE (((ensOf qs).take (i + 1)).map (oneE canD)) := by
            rw [HFN.out, HINS.out, HK0.out]
           refine ⟨v3, i + 1, [] ++ out.take j ++ [y] ++ out.drop j, rfl, by go_num, by omega, by omega, Lib.hid (LWX.out.trans L3.out), Lib.hid (OwnR.base (show OwnE WX.heap.size w3' v3 ([] ++ out.take j ++ [y] ++ out.drop j) from H3.out) LWX.out.size), Lib.hid hnew, Lib.hid fun p hp => ?_, HZ1⟩
           have hp2 : p ∈ out ∨ p = y := by
            rw [HFN.out] at hp
            rcases List.mem_append.1 hp with h | h
            ·exact .inl (List.mem_of_mem_take h)
            ·rcases List.mem_cons.1 h with h | h
             ·exact .inr h
             ·exact .inl (List.mem_of_mem_drop h)
           rcases hp2 with h | h
           ·exact ((ELS.out p h).low LOX.out).low L3.out
           ·rw [h]; exact (HYO.out.low LYX.out).low L3.out
       ·have zj : ¬ (j : Int) < (n2 : Int) := by omega
        have HJN := Lib.hid (show j = n2 by omega)
        go_wp2_with fail
        go_quiet (fail)
        have GX := Lib.hid (GI.out.trans (Gr.drewN (Gr.refl wr) nq))
        obtain ⟨WX, hWX⟩ : ∃ Y, Y = wr.drewN nq := ⟨_, rfl⟩
        rw [← hWX] at GX ⊢
        clear hWX y0 y1
        have LYX := Lib.hid (show Low W1 WX from GX.out.low)
        have LOX := Lib.hid (LO1.out.trans LYX.out)
        have LWX := Lib.hid (LWW.out.trans LYX.out)
        have BYX := Lib.hid (BY.out.low LYX.out)
        have OX := Lib.hid (OwnR.low OW.out LYX.out)
        have HYO := HYE
        obtain ⟨y0, y1, y2, y3, y4, y5, y6, y7, y8, y9, y10⟩ := BYX.out.at11
        have hins : ins cmpE y.e (ensOf out) = (ensOf out).take j ++ y.e :: (ensOf out).drop j := by
         refine insE_at HNE.out j (by unfold ensOf; rw [List.length_map]; have := HN2.out; omega) ?_ ?_
         ·intro k hk hkj
          have hk2 : k < out.length := by simpa [ensOf] using hk
          have := KJ.out k hk2 hkj
          simpa [ensOf] using this
         ·intro hk
          have hk2 : j < out.length := by simpa [ensOf] using hk
          have := HN2.out
          have := HJN.out
          omega
        have HINS := Lib.hid (show ensOf (out.take j ++ y :: out.drop j) = ins cmpE y.e (ensOf out) by rw [hins]; unfold ensOf; rw [List.map_append, List.map_cons, List.map_take, List.map_drop])
        clear hins
        rcases HBLK.out with ⟨rfl, h0, rfl⟩ | ⟨g, rfl⟩
        ·subst h0
         obtain rfl : j = 0 := by have := HJN.out; omega
         have HNIL := Lib.hid (show out = [] from List.eq_nil_of_length_eq_zero HN2.out)
         go_wp2_with (first
          | (at_builtin; refine appRn rfl _ _ _ rfl Tryz.underlying33 e_info rfl (by decide) (by decide) encE_len encE_one WX.heap.size v2 ([] ++ [y]) rfl H2.out [] _ _ _ rfl rfl (.inl rfl) (by simp) Z2.out ?_; intro v3 w3' h3 b3 k3; have H3 := Lib.hid h3; have L3 := Lib.hid (L2.out.trans_below b3 (Nat.le_refl _)); clear h3 b3 k3)
          | (at_builtin; refine appR rfl _ _ _ rfl Tryz.underlying33 e_info rfl (by decide) (by decide) encE_len encE_one WX.heap.size (.slice none 0 0) [] rfl (OwnR.nil _ _ _ _ _) y ⟨WX.heap.size, 0, none⟩ 1 rfl (fun j u hj => newcell_at _ _ _ _ _ rfl hj) (by simp) (by simp) ?_; intro v2 w2' h2 b2 k2 n2; have H2 := Lib.hid h2; have Z2 := Lib.hid (Nat.le_trans (Nat.le_of_lt (by simp) : WX.heap.size ≤ _) b2.size); have L2 := Lib.hid ((Low.alloc (Low.refl WX) _).trans_below b2 (Nat.le_refl _)); clear h2 b2 k2 n2))
         clear y0 y1 y2 y3 y4 y5 y6 y7 y8 y9 y10
         have HFN := Lib.hid (show [] ++ [y] ++ [] = out.take 0 ++ y :: out.drop 0 by rw [HNIL.out]; rfl)
         go_wp2_with fail
         go_roundg (qs.length - (i + 1))
         case measure => omega
         case rel =>
          have hnew : ensOf ([] ++ [y] ++ []) = uniq cmpE (((ensOf qs).take (i + 1)).map (oneE canD)) := by
           rw [HFN.out, HINS.out, HK0.out]
          refine ⟨v3, i + 1, [] ++ [y] ++ [], rfl, by go_num, by omega, by omega, Lib.hid (LWX.out.trans L3.out), Lib.hid (OwnR.base (show OwnE WX.heap.size w3' v3 ([] ++ [y] ++ []) from H3.out) LWX.out.size), Lib.hid hnew, Lib.hid fun p hp => ?_, HZ1⟩
          have hp2 : p ∈ out ∨ p = y := by
           rw [HFN.out] at hp
           rcases List.mem_append.1 hp with h | h
           ·exact .inl (List.mem_of_mem_take h)
           ·rcases List.mem_cons.1 h with h | h
            ·exact .inr h
            ·exact .inl (List.mem_of_mem_drop h)
          rcases hp2 with h | h
          ·exact ((ELS.out p h).low LOX.out).low L3.out
          ·rw [h]; exact (HYO.out.low LYX.out).low L3.out
        ·have ZL := Lib.hid (show (out.take j).length = j by rw [List.length_take]; have := HN2.out; omega)
         have ZL2 := Lib.hid (show (out.drop j).length = n2 - j by rw [List.length_drop, HN2.out])
         have ZOL := Lib.hid (show out.length ≤ 300 by have := HN2.out; omega)
         have zk0 : (0 : Int) ≤ (j : Int) := by omega
         have zk1 : (j : Int) ≤ (cap2 : Int) := by omega
         have zk2 : (j : Int) ≤ (n2 : Int) := by omega
         go_wp2_with (first
          | (at_builtin; refine appRn rfl _ _ _ rfl Tryz.underlying33 e_info rfl (by decide) (by decide) encE_len encE_one WX.heap.size v2 ([] ++ out.take j ++ [y]) rfl H2.out (out.drop j) _ _ _ rfl (by rw [ZL2.out]; try simp) (src_drop encE_len (OwnR.low OX.out L2.out) (by have := HN2.out; omega) _ (by first | exact .inr rfl | (simp; done) | (have := HN2.out; simp; omega))) (by have := ZL.out; have := ZL2.out; have := ZOL.out; simp; omega) Z2.out ?_; intro v3 w3' h3 b3 k3; have H3 := Lib.hid h3; have L3 := Lib.hid (L2.out.trans_below b3 (Nat.le_refl _)); clear h3 b3 k3)
          | (at_builtin; refine appR rfl _ _ _ rfl Tryz.underlying33 e_info rfl (by decide) (by decide) encE_len encE_one WX.heap.size v1 ([] ++ out.take j) rfl (H1.out.alloc _) y ⟨w1'.heap.size, 0, none⟩ 1 rfl (fun j u hj => newcell_at _ _ _ _ _ rfl hj) (by have := ZL.out; simp; omega) ZB1.out ?_; intro v2 w2' h2 b2 k2 n2; have H2 := Lib.hid h2; have L2 := Lib.hid ((Low.alloc LX1.out _).trans_below b2 (Nat.le_refl _)); have Z2 := Lib.hid L2.out.size; clear h2 b2 k2 n2)
          | (at_builtin; refine appRn rfl _ _ _ rfl Tryz.underlying33 e_info rfl (by decide) (by decide) encE_len encE_one WX.heap.size (.slice none 0 0) [] rfl (OwnR.nil _ _ _ _ _) (out.take j) _ _ _ rfl (by rw [ZL.out]; try rfl; try simp) (src_take OX.out j) (by have := ZL.out; simp; omega) (Nat.le_refl _) ?_; intro v1 w1' h1 b1 k1; have H1 := Lib.hid h1; have LX1 := Lib.hid (Low.trans_below (Low.refl WX) b1 (Nat.le_refl _)); clear h1 b1 k1 y0 y1 y2 y3 y4 y5 y6 y7 y8 y9 y10; obtain ⟨y0, y1, y2, y3, y4, y5, y6, y7, y8, y9, y10⟩ := (BYX.out.low LX1.out).at11; have ZB1 := Lib.hid (show WX.heap.size ≤ (w1'.alloc (.cells #[.string y.e.u.t, .string y.e.u.i, .slice y.ap y.e.ps.length y.cp, .int .i64 y.e.a.h.k, .bool y.e.a.h.b, .int .i64 y.e.a.h.n, .string y.e.a.h.s, .string y.e.a.h.t, .string y.e.a.h.i, .slice y.ai y.e.a.l.length y.ci, .slice y.an y.e.a.ns.length y.cn] 72)).heap.size from (Low.alloc LX1.out _).size)))
         all_goals
          clear y0 y1 y2 y3 y4 y5 y6 y7 y8 y9 y10
          have HFN := Lib.hid (show [] ++ out.take j ++ [y] ++ out.drop j = out.take j ++ y :: out.drop j by simp)
          go_wp2_with fail
          go_roundg (qs.length - (i + 1))
          case measure => omega
          case rel =>
           have hnew : ensOf ([] ++ out.take j ++ [y] ++ out.drop j) = uniq cmpE (((ensOf qs).take (i + 1)).map (oneE canD)) := by
            rw [HFN.out, HINS.out, HK0.out]
           refine ⟨v3, i + 1, [] ++ out.take j ++ [y] ++ out.drop j, rfl, by go_num, by omega, by omega, Lib.hid (LWX.out.trans L3.out), Lib.hid (OwnR.base (show OwnE WX.heap.size w3' v3 ([] ++ out.take j ++ [y] ++ out.drop j) from H3.out) LWX.out.size), Lib.hid hnew, Lib.hid fun p hp => ?_, HZ1⟩
           have hp2 : p ∈ out ∨ p = y := by
            rw [HFN.out] at hp
            rcases List.mem_append.1 hp with h | h
            ·exact .inl (List.mem_of_mem_take h)
            ·rcases List.mem_cons.1 h with h | h
             ·exact .inr h
             ·exact .inl (List.mem_of_mem_drop h)
           rcases hp2 with h | h
           ·exact ((ELS.out p h).low LOX.out).low L3.out
           ·rw [h]; exact (HYO.out.low LYX.out).low L3.out
    ·have zl : ¬ (i : Int) < (qs.length : Int) := by omega
     have ht : (ensOf qs).take i = ensOf qs := List.take_of_length_le (by unfold ensOf; rw [List.length_map]; omega)
     have hz := Z.out
     have hk := K.out
     rw [ht] at hz hk
     have hL := (errL_zero canD (names := namesE (ensOf qs))).2 hz
     have hres : res = (open Classical in if RoundE (ensOf qs) then (21, []) else (0, uniq cmpE ((ensOf qs).map (oneE canD)))) := by rw [HD.out, if_pos HN.out, if_pos hL]
     have HRES := Lib.hid hres
     have HK2 := Lib.hid hk
     obtain ⟨ao2, cap2, rfl, hc1, hc2, -⟩ := O.out.shape
     obtain ⟨n2, hn2⟩ : ∃ m, out.length = m := ⟨_, rfl⟩
     have HEO := Lib.hid (show EtAt wr (.slice ao2 out.length cap2) out from ⟨O.out.esAt, ELS.out⟩)
     rw [hn2] at hc1 HEO ⊢
     have RC := Lib.hid (rRound_c (qs.map Ee.sh) (fun i => ((ensOf qs)[i]?.map (·.ps)).getD []) (by simp; omega) wr (.slice ao qs.length c) (HQ.out.1.low G.out) (fun i hi => by
      have hi' : i < qs.length := by simpa using hi
      rw [List.getElem_map]
      have e1 : ((ensOf qs)[i]?.map (·.ps)).getD [] = qs[i].e.ps := by simp [ensOf, hi']
      rw [e1]
      exact (HQ.out.2 qs[i] (List.getElem_mem hi')).1.any.low G.out))
     clear hz hk hL hres ht hn2
     go_wp2_with fail
     refine RC.out.mono ?_
     rintro e w2 ⟨p, rfl, hp, hlow⟩
     rw [rround_word] at hp
     have HPW := Lib.hid hp
     have L2 := Lib.hid hlow
     clear hp hlow RC
     cases p with
     | true =>
      go_wp2_with fail
      go_ret2
      rw [HRES.out, if_pos (HPW.out.1 (by trivial))]
      exact canLP_bad (G.out.trans L2.out)
     | false =>
      have hnr : ¬ RoundE (ensOf qs) := fun h => by simpa using HPW.out.2 h
      go_wp2_with fail
      go_ret2
      rw [HRES.out, if_neg hnr]
      exact ⟨_, rfl, G.out.trans L2.out, out, HK2.out, HEO.out.low L2.out⟩
end Go.Proofs.YtnchohglplobeaaGreat
namespace Go.Proofs.YtnchohglplobeaaGreat
open Go.RowKit Go.Sort Go.Maps
theorem mem_ens {qs : List Ee} {i : Nat} (hi : i < qs.length) : qs[i].e ∈ ensOf qs := List.mem_map_of_mem (List.getElem_mem hi)
end Go.Proofs.YtnchohglplobeaaGreat
namespace Go.Proofs.YtnchohglplobeaaGreat
open Go.RowKit Go.Sort Go.Maps
def LoadP (p : Int × List En) (w : World) (e : Ending) (w' : World) : Prop :=
 (p.1 ≠ 0 ∧ e = .returned (.tuple #[.pointer none, .int .i64 p.1]) ∧ Low w w') ∨
 (p.1 = 0 ∧ ∃ (z : St) (rs : List Ee), e = .returned (.tuple #[.pointer (some ⟨z.p, 0, none⟩), .int .i64 0]) ∧ Low w w' ∧ ensOf rs = p.2 ∧ Sto w' z rs ∧ w.heap.size ≤ z.ma)
theorem size_alloc' (w : World) (o : Obj) : (w.alloc o).heap.size = w.heap.size + 1 := by simp
theorem ens_take (rs : List Ee) (i : Nat) : ensOf (rs.take i) = (ensOf rs).take i := by
 unfold ensOf
 rw [List.map_take]
theorem names_take (l : List En) (i : Nat) : namesE (l.take i) = (namesE l).take i := by
 unfold namesE
 rw [List.map_take]
theorem not_in_take {α : Type} {l : List α} (h : l.Nodup) {i : Nat} (hi : i < l.length) : l[i] ∉ l.take i := by
 intro hm
 obtain ⟨j, hj, e⟩ := List.getElem_of_mem hm
 rw [List.length_take] at hj
 rw [List.getElem_take] at e
 rw [List.nodup_iff_pairwise_ne, List.pairwise_iff_getElem] at h
 exact h j i (by omega) hi (by omega) e
set_option maxHeartbeats 8000000 in
set_option maxRecDepth 100000 in
theorem load_c (qs : List Ee) (w : World) (r : Value) (h : EtAt w r qs) (hf : FewE (ensOf qs)) (hs : ∀ q ∈ qs, Smv q.e.a) : Calls Tryz.prog 12 #[r] w (LoadP (canE canD (ensOf qs)) w) := by
 have HC := Lib.hid (eCanon_c qs w r h hf hs)
 obtain ⟨c, res, hres⟩ : ∃ c res, canE canD (ensOf qs) = (c, res) := ⟨_, _, rfl⟩
 have HN0 := Lib.hid (show c = 0 → (namesE res).Nodup from fun h0 => by
  have h1 := canE_closed (f := canD) (l := ensOf qs) (by rw [hres]; exact h0)
  rw [hres] at h1
  exact rises_names h1.2.2)
 have HL0 := Lib.hid (show c = 0 → res.length ≤ 300 from fun h0 => by
  have h1 := canE_val (c := canD) (l := ensOf qs) (by rw [hres]; exact h0)
  rw [hres] at h1
  have h2 := uniq_len (c := cmpE) ((ensOf qs).map (oneE canD))
  rw [List.length_map] at h2
  have h3 := congrArg (fun x => x.2.length) h1
  have h4 := hf.1
  simp only at h3
  omega)
 rw [hres] at HC ⊢
 clear hres h hf hs
 go_enter Tryz.func12, Tryz.ntmps12
 go_wp2_with fail
 refine HC.out.mono ?_
 rintro e w1 ⟨v1, rfl, l1, rs, hrs, het⟩
 have L1 := Lib.hid l1
 have HRS := Lib.hid (show ensOf rs = res from hrs)
 have HET := Lib.hid het
 clear HC l1 hrs
 by_cases h0 : c = 0
 case neg =>
  have zc : (c != 0) = true := by simpa using h0
  have H0 := Lib.hid h0
  clear het h0
  show _
  go_wp2_with fail
  go_ret2
  exact .inl ⟨H0.out, rfl, L1.out⟩
 case pos =>
  subst h0
  have HN := Lib.hid (HN0.out rfl)
  have hlen : rs.length ≤ 300 := by have h1 := HL0.out rfl; rw [← HRS.out] at h1; simpa [ensOf] using h1
  obtain ⟨ao, cap, rfl, ⟨hc1, hc2⟩, hx⟩ := het.at
  have HX := Lib.hid hx
  have hmm := @run_makeMap Tryz.prog
  clear het HN0 HL0 hx
  obtain ⟨M0, hM0⟩ : ∃ W, W = ((w1.alloc (.map #[] 0)).alloc (.map #[] 0)).alloc (.cells #[.slice none 0 0, .map (some w1.heap.size), .map (some (w1.heap.size + 1))] 70) := ⟨_, rfl⟩
  have HM0 := Lib.hid hM0
  have L2 := Lib.hid (show Low w1 M0 by rw [hM0]; exact Low.alloc (Low.alloc (Low.alloc (Low.refl _) _) _) _)
  have BS := Lib.hid (show BoxAtv M0 (w1.heap.size + 1 + 1) [.slice none 0 0, .map (some w1.heap.size), .map (some (w1.heap.size + 1))] from BoxAtv.made hM0 (by simp) rfl)
  have ME := Lib.hid (show MapAt keyUs M0 w1.heap.size 0 (enF []) from ((MapAt.made keyUs w1).block (by rw [hM0]; exact (Low.alloc (Low.alloc (Low.refl (w1.alloc (.map #[] 0))) _) _).2.2.2 _ (by simp))).congr fun _ => rfl)
  have MA := Lib.hid (show MapAt keyUU M0 (w1.heap.size + 1) 0 (abF []) from by
   have h1 := MapAt.made keyUU (w1.alloc (.map #[] 0))
   rw [show (w1.alloc (.map #[] 0)).heap.size = w1.heap.size + 1 by simp] at h1
   rw [abF_nil]
   exact h1.block (by rw [hM0]; exact (Low.alloc (Low.refl ((w1.alloc (.map #[] 0)).alloc (.map #[] 0))) _).2.2.2 _ (by simp)))
  have HSZ := Lib.hid (show M0.heap.size = w1.heap.size + 3 by rw [hM0]; simp)
  clear hM0
  go_upto_region 5 with fail
  rw [← HM0.out]
  clear HM0 hmm
  obtain ⟨N, hN⟩ : ∃ N, N = rs.length := ⟨_, rfl⟩
  rw [← hN] at hc1 hlen ⊢
  have HNN := Lib.hid hN
  obtain ⟨B, hB⟩ : ∃ B, B = w1.heap.size := ⟨_, rfl⟩
  have HB := Lib.hid hB
  rw [← hB] at BS ME MA HSZ ⊢
  clear hN hB
  go_wp2_with fail
  go_loopg [23] N (fun gk vi wr => ∃ (i : Nat) (an : Option Addr) (cn : Nat), vi = .int .i64 (i : Int) ∧ i ≤ N ∧ N - i ≤ gk ∧ Hid (Low w1 wr) ∧ Hid (BoxAtv wr (B + 1 + 1) [.slice an i cn, .map (some B), .map (some (B + 1))]) ∧ Hid (OwnU (B + 3) wr (.slice an i cn) ((namesE res).take i)) ∧ Hid (MapAt keyUs wr B i (enF (rs.take i))) ∧ Hid (MapAt keyUU wr (B + 1) 0 (abF [])) ∧ B + 3 ≤ wr.heap.size)
  case atStart => exact ⟨0, none, 0, rfl, Nat.zero_le _, Nat.le_refl _, L2, BS, Lib.hid (OwnR.nil _ _ _ _ _), ME, MA, by have := HSZ.out; omega⟩
  case round =>
   clear L2 BS ME MA HSZ
   obtain ⟨i, an, cn, rfl, hi, hg, G, GB, GO, GE, GA, hsz⟩ := hrel
   by_cases hlt : i < N
   ·have zl : (i : Int) < (N : Int) := by omega
    have hir : i < rs.length := by rw [← HNN.out]; exact hlt
    obtain ⟨b, o, rfl, hcs⟩ := HX.out i hir
    obtain ⟨q, hq⟩ : ∃ q, rs[i] = q := ⟨_, rfl⟩
    rw [hq] at hcs
    obtain ⟨e0, e1, e2, e3, e4, e5, e6, e7, e8, e9, e10⟩ := ee11 (G.out.cells hcs)
    have hnl : i < (namesE res).length := by rw [← HRS.out, names_len]; simpa [ensOf] using hir
    have hqn : (namesE res)[i] = q.e.u := by
     have h2 : (namesE res)[i]? = some q.e.u := by rw [← HRS.out]; unfold namesE ensOf; simp [hir, hq]
     rw [List.getElem?_eq_getElem hnl] at h2
     exact Option.some.inj h2
    have HT := Lib.hid (show (namesE res).take (i + 1) = (namesE res).take i ++ [q.e.u] by rw [← hqn, List.take_succ_eq_append_getElem hnl])
    have HT2 := Lib.hid (show rs.take (i + 1) = rs.take i ++ [q] by rw [← hq, List.take_succ_eq_append_getElem hir])
    have HNI := Lib.hid (show q.e.u ∉ namesE (ensOf (rs.take i)) by
     rw [ens_take, HRS.out, names_take, ← hqn]
     exact not_in_take HN.out hnl)
    clear hq hcs hqn hnl
    obtain ⟨W1, hW1⟩ : ∃ W, W = wr.alloc (.cells #[.string q.e.u.t, .string q.e.u.i, .slice q.ap q.e.ps.length q.cp, .int .i64 q.e.a.h.k, .bool q.e.a.h.b, .int .i64 q.e.a.h.n, .string q.e.a.h.s, .string q.e.a.h.t, .string q.e.a.h.i, .slice q.ai q.e.a.l.length q.ci, .slice q.an q.e.a.ns.length q.cn] 72) := ⟨_, rfl⟩
    have HW1 := Lib.hid hW1
    have LW := Lib.hid (show Low wr W1.drew by rw [hW1]; exact (Low.alloc (Low.refl wr) _).trans (Low.drewN _ 1))
    have BE := Lib.hid (show BoxAtv W1.drew wr.heap.size [.string q.e.u.t, .string q.e.u.i, .slice q.ap q.e.ps.length q.cp, .int .i64 q.e.a.h.k, .bool q.e.a.h.b, .int .i64 q.e.a.h.n, .string q.e.a.h.s, .string q.e.a.h.t, .string q.e.a.h.i, .slice q.ai q.e.a.l.length q.ci, .slice q.an q.e.a.ns.length q.cn] from BoxAtv.low (BoxAtv.made hW1 rfl rfl) (Low.drewN _ 1))
    have LWa := Lib.hid (show Low wr W1 by rw [hW1]; exact Low.alloc (Low.refl wr) _)
    have BEa := Lib.hid (show BoxAtv W1 wr.heap.size [.string q.e.u.t, .string q.e.u.i, .slice q.ap q.e.ps.length q.cp, .int .i64 q.e.a.h.k, .bool q.e.a.h.b, .int .i64 q.e.a.h.n, .string q.e.a.h.s, .string q.e.a.h.t, .string q.e.a.h.i, .slice q.ai q.e.a.l.length q.ci, .slice q.an q.e.a.ns.length q.cn] from BoxAtv.made hW1 rfl rfl)
    have BS1 := Lib.hid (GB.out.low LW.out)
    have O1 := Lib.hid (OwnR.low GO.out LW.out)
    have HZ1 := Lib.hid (show W1.drew.heap.size = wr.heap.size + 1 by show W1.heap.size = _; rw [hW1]; simp)
    clear hW1
    go_upto_region 8 with fail
    rw [← HW1.out]
    clear HW1 e0 e1 e2 e3 e4 e5 e6 e7 e8 e9 e10
    have s0 := (GB.out.low LWa.out).at 0 _ rfl
    have s0X := fun X => (GB.out.low (LWa.out.trans (Low.alloc (Low.refl W1) X))).at 0 _ rfl
    have u0 := BEa.out.at 0 _ rfl
    have u1 := BEa.out.at 1 _ rfl
    have u0X := fun X => (BEa.out.low (Low.alloc (Low.refl W1) X)).at 0 _ rfl
    have u1X := fun X => (BEa.out.low (Low.alloc (Low.refl W1) X)).at 1 _ rfl
    have hil : ((namesE res).take i).length = i := by rw [List.length_take, Nat.min_eq_left]; have h1 := congrArg List.length HRS.out; simp [ensOf] at h1; rw [names_len, ← h1, ← HNN.out]; omega
    have HIL := Lib.hid hil
    clear hil
    have HLN := Lib.hid (show ((namesE res).take i).length ≤ 1000000 by rw [HIL.out]; omega)
    have HSB := Lib.hid (show B + 3 ≤ (W1.drew.alloc (.cells #[.string q.e.u.t, .string q.e.u.i] 23)).heap.size by have := HZ1.out; simp only [size_alloc']; omega)
    have OX := Lib.hid (OwnR.alloc O1.out (.cells #[.string q.e.u.t, .string q.e.u.i] 23))
    have HIL2 := Lib.hid (show (((namesE res).take i) ++ [q.e.u]).length = i + 1 by rw [List.length_append, HIL.out]; rfl)
    have LX := Lib.hid (Low.alloc (Low.refl W1.drew) (.cells #[.string q.e.u.t, .string q.e.u.i] 23))
    have HOW := Lib.hid (show ∀ g, (Value.slice an i cn).ownBlock = some g → g < wr.heap.size from fun g hg => (World.ownsRow.lt GO.out g hg).2)
    go_wp2_with fail
    go_region_law (first
     | (refine ownR_step2v rfl _ _ _ rfl Tryz.underlying48 u_info rfl (by decide) (by decide) encU_len encU_one (B + 3) (.slice an i cn) ((namesE res).take i) rfl OX.out q.e.u ⟨W1.heap.size, 0, none⟩ 1 rfl (fun j u hj => newcell_at _ _ _ _ _ rfl hj) HLN.out HSB.out ?_; intro v6 w6 O6 B6 K6 N6; obtain ⟨an6, cn6, hv6, -, -, -⟩ := OwnR.shape O6; rw [HIL2.out] at hv6; subst hv6; have HB6 := Lib.hid (show RowKit.Below (B + 3) (W1.drew.alloc (.cells #[.string q.e.u.t, .string q.e.u.i] 23)) w6 from B6); have HK6 := Lib.hid (show KeptButv (W1.drew.alloc (.cells #[.string q.e.u.t, .string q.e.u.i] 23)) w6 (Value.slice an i cn).ownBlock from ⟨B6.os, B6.output, B6.size, K6⟩); have HO6 := Lib.hid (show OwnU (B + 3) w6 _ _ from O6); have BS6 := Lib.hid ((BS1.out.low LX.out).below HB6.out (by omega)); have s0 := BS6.out.at 0 _ rfl; have z0 := BS6.out.open' 0; clear O6 B6 K6 N6))
    all_goals
     obtain ⟨W5, hW5⟩ : ∃ W, W = w6.setCell ⟨B + 1 + 1, 0, none⟩ (.slice an6 (i + 1) cn6) := ⟨_, rfl⟩
     have HW5 := Lib.hid hW5
     have K5 := Lib.hid (show KeptButv w6 W5 (some (B + 1 + 1)) from hW5 ▸ kept_setCellv _ _ _ _)
     have BS5 := Lib.hid (show BoxAtv W5 (B + 1 + 1) [.slice an6 (i + 1) cn6, .map (some B), .map (some (B + 1))] from hW5 ▸ BS6.out.set 0 _)
     have BE5 := Lib.hid (((BE.out.low LX.out).kept HK6.out (fun e => by have := HOW.out _ e.symm; omega)).kept K5.out (by simp; omega))
     have L5 := Lib.hid (show Low w1 W5 from (((G.out.trans LW.out).trans LX.out).trans_belowU HB6.out (by have := HB.out; omega)).kept K5.out fun g hg => by simp at hg; have := HB.out; omega)
     have hb5 : ∀ k, k < B + 3 → k ≠ B + 1 + 1 → W5.heap[k]? = wr.heap[k]? := fun k hk hne => ((K5.out.2.2.2 k (by have := HB6.out.size; have := HSB.out; omega) (by simp; omega)).trans (HB6.out.block k hk)).trans (((LX.out.2.2.2 k (by have := HZ1.out; omega))).trans (LW.out.2.2.2 k (by omega)))
     have ME5 := Lib.hid (GE.out.block (hb5 B (by omega) (by omega)))
     have MA5 := Lib.hid (GA.out.block (hb5 (B + 1) (by omega) (by omega)))
     have O5 := Lib.hid (show OwnU (B + 3) W5 (.slice an6 (i + 1) cn6) ((namesE res).take i ++ [q.e.u]) from HO6.out.to fun g hg => K5.out.2.2.2 g (World.ownsRow.lt HO6.out g hg).2 (by have := (World.ownsRow.lt HO6.out g hg).1; simp; omega))
     have hsz5 : B + 3 ≤ W5.heap.size := by have h1 := K5.out.2.2.1; have h2 := HB6.out.size; have h3 := HSB.out; omega
     have ED := Lib.hid (ME5.out.block (w' := W5.drew) rfl)
     obtain ⟨w8, hrun, m8, t8⟩ := ED.out.store keyedUs Tryz.underlying67 (by unfold maxLen; omega) q.e.u q.val
     simp only [keyUs, usV, Ee.val] at hrun
     have M8 := Lib.hid (show MapAt keyUs w8 B (i + 1) (enF (rs.take (i + 1))) by rw [HT2.out, enF_more HNI.out]; exact m8)
     have hb8 := Butv.of (Low.refl W5.drew) t8
     have L8 := Lib.hid (show Low w1 w8 from ((L5.out.trans (Gr.refl W5).drew.low).turned t8 (by have := HB.out; omega)))
     have BS8 := Lib.hid (show BoxAtv w8 (B + 1 + 1) [.slice an6 (i + 1) cn6, .map (some B), .map (some (B + 1))] from BoxAtv.kept (x := some B) BS5.out ⟨by have := L8.out.1; rw [this, L5.out.1], by rw [L8.out.2.1, L5.out.2.1], t8.grown.size, fun b hb hne => hb8 b hb (by simpa using hne)⟩ (by simp; omega))
     have MA8 := Lib.hid (MA5.out.block (hb8 (B + 1) (by show B + 1 < W5.heap.size; omega) (by omega)))
     have O8 := Lib.hid (show OwnU (B + 3) w8 (.slice an6 (i + 1) cn6) ((namesE res).take (i + 1)) by rw [HT.out]; exact O5.out.to fun g hg => hb8 g (World.ownsRow.lt O5.out g hg).2 (by have := (World.ownsRow.lt O5.out g hg).1; omega))
     have hsz8 : B + 3 ≤ w8.heap.size := Nat.le_trans hsz5 t8.grown.size
     have c1 := BS5.out.at 1 _ rfl
     obtain ⟨e0, e1, e2, e3, e4, e5, e6, e7, e8, e9, e10⟩ := BE5.out.at11
     rw [← hW5]
     clear hW5 HW5 m8 t8 hb8 hb5 z0 s0
     go_wp2_with fail
     go_region
     clear hrun c1 e0 e1 e2 e3 e4 e5 e6 e7 e8 e9 e10
     all_goals
      go_wp2_with fail
      go_roundg (N - (i + 1))
      case measure => omega
      case rel => exact ⟨i + 1, an6, cn6, by go_num, by omega, by omega, L8, BS8, O8, M8, MA8, hsz8⟩
   ·have zl : ¬ (i : Int) < (N : Int) := by omega
    obtain rfl : i = N := by omega
    have hnl : (namesE res).length = i := by rw [← HRS.out, names_len]; simp [ensOf]; exact HNN.out.symm
    go_wp2_with fail
    go_ret2
    refine .inr ⟨rfl, ⟨B + 1 + 1, B, B + 1, an, cn⟩, rs, rfl, L1.out.trans G.out, HRS.out, ⟨[], AbvOk.nil _, ?_⟩, by have := HB.out; have := L1.out.size; show w.heap.size ≤ B + 1; omega⟩
    have hNN := HNN.out
    have hrt : rs.take i = rs := by rw [hNN, List.take_length]
    exact {
     c0 := by have := GB.out.at 0 _ rfl; rw [← hNN]; exact this
     c1 := GB.out.at 1 _ rfl
     c2 := GB.out.at 2 _ rfl
     names := by
      have h1 := (OwnR.usIn (A := fun _ => True) GO.out fun _ _ => trivial).any
      rw [← hnl, List.take_length, hnl] at h1
      rw [← hNN, HRS.out]; exact h1
     ents := by have h1 := GE.out; rw [hrt] at h1; rw [← hNN]; exact h1
     abv := ⟨0, Nat.zero_le _, GA.out⟩
     ne := by show B ≠ B + 1; omega
     ok := fun q hq => (HET.out.2 q hq).low G.out }
end Go.Proofs.YtnchohglplobeaaGreat
namespace Go.Proofs.YtnchohglplobeaaGreat
open Go.RowKit Go.Sort
theorem canE_few {l : List En} (h : (canE canD l).1 = 0) (h20 : l.length ≤ 20) (hs : ∀ e ∈ l, Smv e.a ∧ e.ps.length ≤ 20) : (canE canD l).2.length ≤ 20 ∧ ∀ z ∈ (canE canD l).2, Smv z.a ∧ z.ps.length ≤ 20 := by
 obtain ⟨-, hn, he, -⟩ := canE_ok.1 h
 rw [canE_val h]
 have hn' : (namesE (l.map (oneE canD))).Nodup := by rw [names_one]; exact hn
 refine ⟨by have := uniq_len (c := cmpE) (l.map (oneE canD)); rw [List.length_map] at this; show (uniq cmpE _).length ≤ 20; omega, fun z hz => ?_⟩
 obtain ⟨e, hm, rfl⟩ := List.mem_map.1 ((mem_en hn').1 hz)
 have h0 := he e hm
 unfold errE at h0
 by_cases k1 : e.a.h.k ≠ 6
 ·rw [if_pos k1] at h0; exact absurd h0 (by decide)
 ·rw [if_neg k1] at h0
  by_cases k2 : (canD e.a).1 ≠ 0
  ·rw [if_pos k2] at h0; exact absurd h0 k2
  ·refine ⟨canD_sm (by omega) (hs e hm).1, ?_⟩
   have := uniq_len (c := cmpUs) e.ps
   have h2 := (hs e hm).2
   show (uniq cmpUs e.ps).length ≤ 20
   omega
end Go.Proofs.YtnchohglplobeaaGreat
namespace Go.Proofs.YtnchohglplobeaaGreat
open Go.RowKit Go.ChangeShapes Go.WideShapes Go.Deep
variable {H : Type} {enc : TypeId × Value → H} {w : World} {spare : Nat → Bool} {held : Bool}
theorem trod_val {base : Nat} (fuel : Nat) {cs : List Value} {x : DataW H × List MemPlace} (h : DataW.trod enc Tryz.prog w base spare held fuel 27 cs = some x) : ∃ (v : V) (it nm : Value), cs = hdc v.h it nm ∧ R w v it nm := by
 obtain ⟨v, it, nm, h1, h2, -⟩ := trod_valI fuel h
 exact ⟨v, it, nm, h1, h2⟩
end Go.Proofs.YtnchohglplobeaaGreat
namespace Go.Proofs.YtnchohglplobeaaGreat
open Go.RowKit Go.ChangeShapes Go.WideShapes Go.Deep
variable {H : Type} {enc : TypeId × Value → H} {w : World} {spare : Nat → Bool} {held : Bool}
theorem one_slice {a b : Option Addr} {n c n' c' : Nat} (h : (Value.cells (.slice a n c)).toList = [.slice b n' c']) : Value.slice a n c = .slice b n' c' := by
 have : (Value.cells (.slice a n c)).toList = [.slice a n c] := rfl
 rw [this] at h
 exact (List.cons.inj h).1
end Go.Proofs.YtnchohglplobeaaGreat
namespace Go.Proofs.YtnchohglplobeaaGreat
open Go.RowKit Go.ChangeShapes Go.WideShapes Go.Deep
variable {H : Type} {enc : TypeId × Value → H} {w : World} {spare : Nat → Bool} {held : Bool}
theorem cofE : Tryz.prog.cellsOf 72 = 11 := by kernel_rfl
theorem cofUs : Tryz.prog.cellsOf 48 = 1 := by kernel_rfl
theorem trod_uid {base fuel : Nat} {c0 c1 : Value} {x : DataW H × List MemPlace} (h : DataW.trod enc Tryz.prog w base spare held fuel 23 [c0, c1] = some x) : ∃ u : Us, [c0, c1] = u.cs := by
 obtain ⟨us, un, -, -, -, hul, huf⟩ := DataW.trod_struct Tryz.underlying23 h
 have hu2 : us.length = 2 := hul
 have u0 : DataW.trod enc Tryz.prog w base spare held un 9 (([c0, c1].drop 0).take (Tryz.prog.cellsOf 9)) = some _ := (huf 0 _ rfl).trans (List.getElem?_eq_getElem (by omega))
 have u1 : DataW.trod enc Tryz.prog w base spare held un 9 (([c0, c1].drop 1).take (Tryz.prog.cellsOf 9)) = some _ := (huf 1 _ rfl).trans (List.getElem?_eq_getElem (by omega))
 rw [cof9] at u0 u1
 obtain ⟨t, e4, -, ht⟩ := DataW.trod_string Tryz.underlying9 u0
 obtain ⟨i, e5, -, hi⟩ := DataW.trod_string Tryz.underlying9 u1
 simp at e4 e5
 subst e4 e5
 exact ⟨⟨t, i, ht, hi⟩, rfl⟩
theorem trod_uids {base fuel : Nat} {cs : List Value} {x : DataW H × List MemPlace} (h : DataW.trod enc Tryz.prog w base spare held fuel 48 cs = some x) : ∃ (l : List Us) (v : Value), cs = [v] ∧ UsIn (fun _ => True) w v l := by
 rcases DataW.trod_slice Tryz.underlying48 h with ⟨rfl, -⟩ | ⟨a, len, cap, elems, rest, n, -, rfl, -, -, hlc, hcm, hel, hall, -, -⟩
 ·exact ⟨[], _, rfl, none, 0, rfl, ⟨by simp, by simp⟩, fun j hj => by simp at hj⟩
 ·rw [cof23] at hall
  have hx : ∀ j, j < len → ∃ u : Us, ∀ c v, u.cs[c]? = some v → w.cell? (a.add (j * 2 + c)) = some v := fun j hj => by
   have h1 := hall j hj
   rw [List.getElem?_eq_getElem (by omega)] at h1
   obtain ⟨c, h2, h3⟩ := Option.bind_eq_some_iff.1 h1
   obtain ⟨-, hl, hat⟩ := World.cells?_some h2
   match c, hl with
   | [c0, c1], _ =>
    obtain ⟨u, hu⟩ := trod_uid h3
    refine ⟨u, fun c v hv => ?_⟩
    have h8 : c < 2 := by have := (List.getElem?_eq_some_iff.1 hv).1; simpa [Us.cs] using this
    have := hat c h8
    rw [add_add] at this
    rw [this, hu]; exact hv
  haveI : Inhabited Us := ⟨⟨⟨#[]⟩, ⟨#[]⟩, Nat.zero_le _, Nat.zero_le _⟩⟩
  obtain ⟨f, hf⟩ := choose_lt hx
  refine ⟨(List.range len).map f, _, rfl, some a, cap, by simp, ⟨by simp; exact hlc, by unfold maxLen at hcm; exact hcm⟩, fun j hj => ?_⟩
  have hj' : j < len := by simpa using hj
  obtain ⟨b, o, rfl⟩ := addr_plainv (hf 0 (by omega) 0 _ rfl)
  refine ⟨b, o, rfl, trivial, fun c v hv => ?_⟩
  have hg : ((List.range len).map f)[j] = f j := by simp
  rw [hg] at hv
  have := hf j hj' c v hv
  rw [Addr.add_lit] at this
  rw [Nat.add_assoc]; exact this
set_option maxRecDepth 100000 in
theorem trod_ent {base fuel : Nat} {cs : List Value} {x : DataW H × List MemPlace} (h : DataW.trod enc Tryz.prog w base spare held fuel 72 cs = some x) : ∃ q : Ee, cs = q.sh.cs ∧ EeOk (fun _ => True) w q := by
 obtain ⟨xs, n, rfl, -, hlen, hxl, hf⟩ := DataW.trod_struct Tryz.underlying72 h
 rw [cofE] at hlen
 have hx3 : xs.length = 3 := hxl
 match cs, hlen with
 | [c0, c1, c2, c3, c4, c5, c6, c7, c8, c9, c10], _ =>
  have f0 : DataW.trod enc Tryz.prog w base spare held n 23 (([c0, c1, c2, c3, c4, c5, c6, c7, c8, c9, c10].drop 0).take (Tryz.prog.cellsOf 23)) = some _ := (hf 0 _ rfl).trans (List.getElem?_eq_getElem (by omega))
  have f1 : DataW.trod enc Tryz.prog w base spare held n 48 (([c0, c1, c2, c3, c4, c5, c6, c7, c8, c9, c10].drop 2).take (Tryz.prog.cellsOf 48)) = some _ := (hf 1 _ rfl).trans (List.getElem?_eq_getElem (by omega))
  have f2 : DataW.trod enc Tryz.prog w base spare held n 27 (([c0, c1, c2, c3, c4, c5, c6, c7, c8, c9, c10].drop 3).take (Tryz.prog.cellsOf 27)) = some _ := (hf 2 _ rfl).trans (List.getElem?_eq_getElem (by omega))
  rw [cof23] at f0
  rw [cofUs] at f1
  rw [cof27] at f2
  obtain ⟨u, hu⟩ := trod_uid f0
  obtain ⟨ps, pv, hp, hps⟩ := trod_uids f1
  obtain ⟨v, it, nm, hv, hr⟩ := trod_val n f2
  obtain ⟨ai, ci, an, cn, rfl, rfl⟩ := r_slices hr
  obtain ⟨ap, cp, rfl, hc, hx⟩ := hps
  simp [Us.cs] at hu
  simp at hp
  simp [hdc] at hv
  obtain ⟨rfl, rfl⟩ := hu
  obtain ⟨rfl, rfl, rfl, rfl, rfl, rfl, rfl, rfl⟩ := hv
  subst hp
  exact ⟨⟨⟨u, ps, v⟩, ap, cp, ai, ci, an, cn⟩, rfl, ⟨ap, cp, rfl, hc, hx⟩, hr⟩
set_option maxRecDepth 100000 in
theorem open_ents {r : Reach} {base : Nat} {v : Value} {d : DataW H} {p : List MemPlace} (hv : Value.okWide Tryz.prog w r base 33 v) (h : DataW.Trod enc Tryz.prog w 0 spare held 33 v d p) : ∃ qs : List Ee, EtAt w v qs := by
 obtain ⟨ao, n, c, rfl⟩ := okWide_slice Tryz.underlying33 hv
 obtain ⟨fuel, hf⟩ := h
 rcases DataW.trod_slice Tryz.underlying33 hf with ⟨e6, -⟩ | ⟨a, len, cap, elems, rest, n2, hn2, e6, -, -, hlc, hcm, hel, hall, -, -⟩
 ·rw [one_slice e6]
  exact ⟨[], ⟨none, 0, rfl, ⟨by simp, by simp⟩, fun j hj => by simp at hj⟩, fun q hq => by simp at hq⟩
 ·rw [one_slice e6]
  rw [cofE] at hall
  have hx : ∀ j, j < len → ∃ q : Ee, (∀ c u, q.sh.cs[c]? = some u → w.cell? (a.add (j * 11 + c)) = some u) ∧ EeOk (fun _ => True) w q := fun j hj => by
   have h1 := hall j hj
   rw [List.getElem?_eq_getElem (by omega)] at h1
   obtain ⟨c, h2, h3⟩ := Option.bind_eq_some_iff.1 h1
   obtain ⟨q, rfl, hq⟩ := trod_ent h3
   obtain ⟨-, -, hat⟩ := World.cells?_some h2
   refine ⟨q, fun c u hu => ?_, hq⟩
   have h8 : c < 11 := by have := (List.getElem?_eq_some_iff.1 hu).1; simpa [Sh.cs] using this
   have := hat c h8
   rw [add_add] at this
   rw [this]; exact hu
  haveI : Inhabited Ee := ⟨⟨⟨⟨⟨#[]⟩, ⟨#[]⟩, Nat.zero_le _, Nat.zero_le _⟩, [], V0⟩, none, 0, none, 0, none, 0⟩⟩
  obtain ⟨f, hfz⟩ := choose_lt hx
  refine ⟨(List.range len).map f, ⟨some a, cap, by simp, ⟨by simp; exact hlc, by unfold maxLen at hcm; exact hcm⟩, fun j hj => ?_⟩, fun q hq => ?_⟩
  ·have hj' : j < len := by simpa using hj
   obtain ⟨bb, oo, rfl⟩ := addr_plainv ((hfz 0 (by omega)).1 0 _ rfl)
   refine ⟨bb, oo, rfl, fun c u hu => ?_⟩
   have hg : (((List.range len).map f).map Ee.sh)[j] = (f j).sh := by simp
   rw [hg] at hu
   have := (hfz j hj').1 c u hu
   rw [Addr.add_lit] at this
   rw [Nat.add_assoc]; exact this
  ·obtain ⟨j, hj, rfl⟩ := List.mem_map.1 hq
   exact (hfz j (List.mem_range.1 hj)).2
end Go.Proofs.YtnchohglplobeaaGreat
namespace Go.Proofs.YtnchohglplobeaaGreat
open Go.RowKit Go.Sort Go.Maps
theorem good_can {l : List En} (h : (canE canD l).1 = 0) (h20 : l.length ≤ 20) (hs : ∀ e ∈ l, SmE e) : GoodC (canE canD l).2 := by
 obtain ⟨h1, h2, h3⟩ := canE_closed h
 obtain ⟨f1, f2⟩ := canE_few h h20 fun e he => ⟨(hs e he).1, (hs e he).2.2⟩
 exact ⟨h1, h2, h3, by omega, fun e he => by have := (f2 e he).2; omega, fun e he => (f2 e he).1⟩
end Go.Proofs.YtnchohglplobeaaGreat
