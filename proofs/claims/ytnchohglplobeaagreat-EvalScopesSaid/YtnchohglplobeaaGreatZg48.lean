/- The reference's Above and In. Condition: the list is as it must be, of no more than 300 entities. Holds: whether a scope takes a name. No condition. A scope among the arguments lies in memory. No condition. The reference's Holds. Condition: the list is as it must be. EvalScopes. No condition. A name among a law's arguments. No condition. Whether any scope takes any entity's name is what the document says, or its error: eval.Holds answers what the document's answer does, at every scope, every name and all entities of which there are few. No condition. -/
import Derived.Test.YtnchohglplobeaaGreatZg47
import Derived.Test.YtnchohglplobeaaGreatZg38
import Derived.ShutString
import Derived.ChangeOld
import Derived.Below
import Derived.WideKeyArgs
set_option linter.unusedVariables false
set_option linter.unusedSimpArgs false
set_option linter.unnecessarySimpa false
namespace Go.Proofs.YtnchohglplobeaaGreat
open Go.RowKit Go.Sort Go.Maps
theorem findI_no {l : List Sh} {u : Us} (h : (fS l u).isSome = false) : findI l u = -1 := findI_none h
set_option maxHeartbeats 16000000 in
set_option maxRecDepth 100000 in
theorem rin_c (qs : List Ee) (w : World) (r : Value) (a b : Us) (h : EtAt w r qs) (hg : GoodC (ensOf qs)) : Calls Tryz.prog 38 #[r, .agg #[.string a.t, .string a.i], .agg #[.string b.t, .string b.i]] w fun e w' => e = .returned (.bool (inBh (ensOf qs) a b)) ∧ Low w w' := by
 obtain ⟨ao, c, rfl, ⟨hlc, hc9⟩, hx⟩ := h.at
 have mixed : Tryz.prog.follows .mixedOrders = true := by kernel_rfl
 have HX := Lib.hid hx
 have HE := Lib.hid h
 have HG := Lib.hid hg
 have hq3 : qs.length ≤ 300 := by have := hg.len; unfold ensOf at this; rwa [List.length_map] at this
 obtain ⟨U0, hU0⟩ : ∃ W, W = (w.alloc (.cells #[.string a.t, .string a.i] 23)).alloc (.cells #[.string b.t, .string b.i] 23) := ⟨_, rfl⟩
 have HU0 := Lib.hid hU0
 have L0 := Lib.hid (show Low w U0 by rw [hU0]; exact Low.alloc (Low.alloc (Low.refl w) _) _)
 have BA := Lib.hid (show BoxAtv U0 w.heap.size [.string a.t, .string a.i] from BoxAtv.low (BoxAtv.made (w := w) (W := w.alloc (.cells #[.string a.t, .string a.i] 23)) rfl rfl rfl) (show Low (w.alloc (.cells #[.string a.t, .string a.i] 23)) U0 by rw [hU0]; exact Low.alloc (Low.refl _) _))
 have BB := Lib.hid (show BoxAtv U0 (w.heap.size + 1) [.string b.t, .string b.i] from BoxAtv.made hU0 (by simp) rfl)
 clear hx h hg hU0
 obtain ⟨N, hN⟩ : ∃ N, N = qs.length := ⟨_, rfl⟩
 rw [← hN] at hlc hq3 ⊢
 have HN := Lib.hid hN
 clear hN
 have qE := fun W => us_eql a b W
 go_enter Tryz.func38, Tryz.ntmps38
 go_upto_region 1 with fail
 rw [← HU0.out]
 clear HU0
 obtain ⟨a0, a1⟩ := BA.out.at2
 obtain ⟨b0, b1⟩ := BB.out.at2
 obtain ⟨t, ht⟩ : ∃ t, t = decide (a = b) := ⟨_, rfl⟩
 rw [← ht] at qE
 have HT := Lib.hid ht
 clear ht
 cases t with
 | true =>
  go_wp2_with fail
  go_ret
  exact ⟨by rw [inB_iff.2 (.inl (by have := HT.out; simpa using this.symm))]; rfl, L0.out⟩
 | false =>
  have HAB := Lib.hid (show a ≠ b by have := HT.out; simpa using this.symm)
  have HSB := Lib.hid (show w.heap.size + 1 < U0.heap.size from BB.out.lt)
  obtain ⟨U1, hU1⟩ : ∃ W, W = U0.alloc (.cells #[.string a.t, .string a.i] 23) := ⟨_, rfl⟩
  have HU1 := Lib.hid hU1
  have L01 := Lib.hid (show Low U0 U1 by rw [hU1]; exact Low.alloc (Low.refl U0) _)
  have OW := Lib.hid (show OwnU U0.heap.size U1 (.slice (some ⟨U0.heap.size, 0, none⟩) 1 1) [a] from ownU_box a hU1 (Nat.le_refl _))
  have BB1 := Lib.hid (BB.out.low L01.out)
  have L1 := Lib.hid (L0.out.trans L01.out)
  clear hU1 HT BA
  go_upto_region 4 with fail
  rw [← HU1.out]
  clear HU1 a0 a1 b0 b1 BB L01 qE
  go_wp2_with fail
  go_loopg [7, 8] (N + 2) (fun gk vs vi wr => ∃ (vr : Value) (i : Nat) (R : List Us), vr = vs ∧ vi = .int .i64 (i : Int) ∧ i ≤ R.length ∧ R.length ≤ N + 1 ∧ N + 2 - i ≤ gk ∧ Hid (RIn (ensOf qs) a b R i 0) ∧ Hid (Low w wr) ∧ Hid (OwnU U0.heap.size wr vr R) ∧ Hid (BoxAtv wr (w.heap.size + 1) [.string b.t, .string b.i]) ∧ U0.heap.size ≤ wr.heap.size)
  case atStart => exact ⟨_, 0, [a], rfl, rfl, Nat.zero_le _, by simp, Nat.le_refl _, Lib.hid (RIn.start _ _ _), L1, OW, BB1, by have := OW.out.2; have := (World.ownsRow.lt OW.out U0.heap.size rfl).2; omega⟩
  case round =>
   clear L1 OW BB1
   obtain ⟨vr, i, R, rfl, rfl, hi, hR, hg, K, G, O, B, hsz⟩ := hrel
   obtain ⟨ar, cr, rfl, hr1, hr2, hro⟩ := OwnR.shape O.out
   by_cases hlt : i < R.length
   ·have zl : (i : Int) < (R.length : Int) := by omega
    rcases hro with h0 | ⟨g, rfl, hgB, hgs⟩
    ·rw [h0] at hlt; simp at hlt
    obtain ⟨r0, r1⟩ := ownU_cells O.out hlt
    obtain ⟨n, hn⟩ : ∃ n, n = R[i] := ⟨_, rfl⟩
    rw [← hn] at r0 r1
    have HNR := Lib.hid hn
    have hfind := (find_c (qs.map Ee.sh) n wr _ (HE.out.1.low G.out))
    rw [← HN.out] at hfind
    unfold usV at hfind
    clear hn
    by_cases hin : (fS (qs.map Ee.sh) n).isSome = true
    case neg =>
     have hno : (fS (qs.map Ee.sh) n).isSome = false := by simpa using hin
     rw [findI_no hno] at hfind
     have HF := Lib.hid hfind
     have HPE := Lib.hid (show PE (ensOf qs) R[i] = [] by
      rw [← HNR.out]
      unfold PE
      cases e : fstE (ensOf qs) n with
      | none => rfl
      | some q => exact absurd (fS_names.2 (fst_some.1 (by rw [e]; rfl))) hin)
     clear hin hno hfind
     go_wp2_with fail
     refine HF.out.mono ?_
     rintro e w5 ⟨rfl, l5⟩
     have L5 := Lib.hid l5
     clear l5 r0 r1 HF
     go_wp2_with fail
     go_roundg (N + 2 - (i + 1))
     case measure => omega
     case rel => exact ⟨_, i + 1, R, rfl, by go_num, by omega, by omega, by omega, Lib.hid (K.out.next hlt (by rw [HPE.out]; exact Nat.zero_le _)), Lib.hid (G.out.trans L5.out), Lib.hid (OwnR.low O.out L5.out), Lib.hid (B.out.low L5.out), Nat.le_trans hsz L5.out.size⟩
    case pos =>
     obtain ⟨at', hat⟩ : ∃ t, t = idxS (qs.map Ee.sh) n := ⟨_, rfl⟩
     rw [findI_idx hin, ← hat] at hfind
     obtain ⟨hat1, hat2⟩ := idx_lt hin
     simp only [← hat] at hat1 hat2
     have hatq : at' < qs.length := by simpa using hat1
     have HF := Lib.hid hfind
     have hau : qs[at'].e.u = n := by rw [List.getElem_map] at hat2; exact hat2
     obtain ⟨q, hq⟩ : ∃ q, q = qs[at'] := ⟨_, rfl⟩
     have HPE := Lib.hid (show q.e.ps = PE (ensOf qs) R[i] by
      rw [← HNR.out, ← hau, PE_of (rises_names HG.out.rises) (mem_ens hatq), hq])
     have HPQ := Lib.hid (show UsAt w (.slice q.ap q.e.ps.length q.cp) q.e.ps by rw [hq]; exact (HE.out.2 _ (List.getElem_mem hatq)).1.any)
     obtain ⟨bq, oq, rfl, hcs⟩ := HX.out at' hatq
     rw [← hq] at hcs
     have HCS := Lib.hid hcs
     clear hat hat1 hat2 hin hfind hau hq hcs
     have hatn : at' < N := by rw [HN.out]; exact hatq
     have zat : ¬ ((at' : Int) < 0) := by omega
     have zat2 : (at' : Int) < (N : Int) := by omega
     go_wp2_with fail
     refine HF.out.mono ?_
     rintro e w5 ⟨rfl, l5⟩
     have G5 := Lib.hid (G.out.trans l5)
     have O5 := Lib.hid (OwnR.low O.out l5)
     have B5 := Lib.hid (B.out.low l5)
     have hsz5 : U0.heap.size ≤ w5.heap.size := Nat.le_trans hsz l5.size
     clear l5 r0 r1 HF G O B
     obtain ⟨m, hm⟩ : ∃ m, m = q.e.ps.length := ⟨_, rfl⟩
     have HM := Lib.hid hm
     clear hm
     have HKN := Lib.hid (show ∃ h : i < R.length, R[i] = n from ⟨hlt, HNR.out.symm⟩)
     have hm20 : m ≤ 300 := by rw [HM.out, HPE.out]; exact HG.out.pe _
     have HPN := Lib.hid (show q.e.ps = PE (ensOf qs) n by rw [HPE.out, ← HNR.out])
     go_wp2_with fail
     go_loopg [7, 10] m (fun gj vs vj wi => ∃ (vr : Value) (j : Nat) (R' : List Us), vr = vs ∧ vj = .int .i64 (j : Int) ∧ j ≤ m ∧ m - j ≤ gj ∧ R'.length ≤ N + 1 ∧ i < R'.length ∧ Hid (∃ h : i < R'.length, R'[i] = n) ∧ Hid (RIn (ensOf qs) a b R' i j) ∧ Hid (Low w wi) ∧ Hid (OwnU U0.heap.size wi vr R') ∧ Hid (BoxAtv wi (w.heap.size + 1) [.string b.t, .string b.i]) ∧ U0.heap.size ≤ wi.heap.size)
     case atStart => exact ⟨_, 0, R, rfl, rfl, Nat.zero_le _, Nat.le_refl _, hR, hlt, HKN, K, G5, O5, B5, hsz5⟩
     case round =>
      clear HKN K G5 O5 B5 hsz5 HNR HPE
      obtain ⟨vr, j, R', rfl, rfl, hj, hgj, hR', hiR, KN, K, G, O, B, hszi⟩ := hrel
      obtain ⟨ar', cr', rfl, hr1', hr2', hro'⟩ := OwnR.shape O.out
      rcases hro' with h0 | ⟨g', rfl, hgB', hgs'⟩
      ·rw [h0] at hiR; simp at hiR
      obtain ⟨-, -, e2, -⟩ := ee11 (G.out.cells HCS.out)
      rw [← HM.out] at e2
      by_cases hjt : j < m
      ·have zj : (j : Int) < (m : Int) := by omega
       obtain ⟨ap, cp, hpv, -, hp3⟩ := HPQ.out
       obtain ⟨az, haz⟩ : ∃ x, x = q.ap := ⟨_, rfl⟩
       obtain ⟨cz, hcz⟩ : ∃ x, x = q.cp := ⟨_, rfl⟩
       rw [← haz, ← hcz] at hpv e2
       simp only [Value.slice.injEq, true_and] at hpv
       obtain ⟨rfl, rfl⟩ := hpv
       have hjp : j < q.e.ps.length := by rw [← HM.out]; exact hjt
       obtain ⟨pb, po, rfl, hpc⟩ := hp3 j hjp
       obtain ⟨d0, d1⟩ := cells2 (G.out.cells hpc)
       obtain ⟨p, hp⟩ : ∃ p, p = q.e.ps[j] := ⟨_, rfl⟩
       rw [← hp] at d0 d1
       have hPR : q.e.ps = PE (ensOf qs) (R'[i]'hiR) := by obtain ⟨_, e⟩ := KN.out; rw [e]; exact HPN.out
       have hjm : j < (PE (ensOf qs) (R'[i]'hiR)).length := by rw [← hPR]; exact hjp
       have HPJ := Lib.hid (show ∀ h, (PE (ensOf qs) (R'[i]'hiR))[j]'h = p from fun h => by rw [hp]; simp only [hPR])
       obtain ⟨W3, hW3⟩ : ∃ W, W = wr.alloc (.cells #[.string p.t, .string p.i] 23) := ⟨_, rfl⟩
       have HW3 := Lib.hid hW3
       have L3 := Lib.hid (show Low wr W3 by rw [hW3]; exact Low.alloc (Low.refl wr) _)
       have BP := Lib.hid (show BoxAtv W3 wr.heap.size [.string p.t, .string p.i] from BoxAtv.made hW3 rfl rfl)
       have B3 := Lib.hid (B.out.low L3.out)
       have O3 := Lib.hid (OwnR.low O.out L3.out)
       have G3 := Lib.hid (G.out.trans L3.out)
       have HZW := Lib.hid (show W3.heap.size = wr.heap.size + 1 by rw [hW3]; simp)
       have hsz3 : U0.heap.size ≤ W3.heap.size := Nat.le_trans hszi L3.out.size
       have qE := fun W => us_eql p b W
       obtain ⟨t, ht⟩ : ∃ t, t = decide (p = b) := ⟨_, rfl⟩
       rw [← ht] at qE
       have HT := Lib.hid ht
       clear hp hpc hPR haz hcz hp3 hW3 ht O B G
       go_upto_region 13 with fail
       rw [← HW3.out]
       clear HW3 d0 d1 e2
       obtain ⟨p0, p1⟩ := BP.out.at2
       obtain ⟨b0, b1⟩ := B3.out.at2
       cases t with
       | true =>
        go_wp2_with fail
        go_ret
        refine ⟨?_, G3.out⟩
        have hpb : p = b := by have := HT.out; simpa using this.symm
        have hw := K.out.step HG.out.closed hiR hjm
        rw [HPJ.out, hpb] at hw
        rw [inB_iff.2 (.inr hw)]; rfl
       | false =>
        have HPB := Lib.hid (show p ≠ b by have := HT.out; simpa using this.symm)
        clear HT
        obtain ⟨L, hL⟩ : ∃ L, L = R'.length := ⟨_, rfl⟩
        have HLL := Lib.hid hL
        have hLN : L ≤ N + 1 := by omega
        rw [← hL] at O3 hr1' hiR ⊢
        clear hL
        have BP3 := Lib.hid BP.out
        clear BP
        go_wp2_with fail
        clear p0 p1 b0 b1 qE
        go_loopg [12, 13] L (fun gz vx vy wz => ∃ (s : Bool) (k : Nat), vx = .bool s ∧ vy = .int .i64 (k : Int) ∧ k ≤ L ∧ L - k ≤ gz ∧ Hid (s = decide (p ∈ R'.take k)) ∧ Hid (Low W3 wz))
        case atStart => exact ⟨false, 0, rfl, rfl, Nat.zero_le _, Nat.le_refl _, Lib.hid (by simp), Lib.hid (Low.refl _)⟩
        case round =>
         obtain ⟨s, k, rfl, rfl, hk, hgz, HSS, GZ⟩ := hrel
         have OZ := Lib.hid (OwnR.low O3.out GZ.out)
         obtain ⟨p0, p1⟩ := (BP3.out.low GZ.out).at2
         by_cases hkt : k < L
         ·have zk : (k : Int) < (L : Int) := by omega
          have hkr : k < R'.length := by rw [← HLL.out]; exact hkt
          obtain ⟨r0, r1⟩ := ownU_cells OZ.out hkr
          obtain ⟨x, hx⟩ : ∃ x, x = R'[k] := ⟨_, rfl⟩
          rw [← hx] at r0 r1
          have HTK := Lib.hid (show R'.take (k + 1) = R'.take k ++ [x] by rw [hx, List.take_succ_eq_append_getElem hkr])
          clear hx
          cases s with
          | true =>
           go_wp2_with fail
           go_quiet (fail)
           have LQ := Lib.hid (Low.drewN wr nq)
           obtain ⟨WQ, hWQ⟩ : ∃ Y, Y = wr.drewN nq := ⟨_, rfl⟩
           rw [← hWQ] at LQ ⊢
           clear hWQ r0 r1 p0 p1
           go_wp2_with fail
           go_roundg (L - (k + 1))
           case measure => omega
           case rel =>
            refine ⟨true, k + 1, rfl, by go_num, by omega, by omega, Lib.hid ?_, Lib.hid (GZ.out.trans LQ.out)⟩
            have h1 : p ∈ R'.take k := by have := HSS.out; simpa using this.symm
            rw [HTK.out, decide_eq_true (List.mem_append.2 (.inl h1))]
          | false =>
           have qE := fun W => us_eql x p W
           obtain ⟨t, ht⟩ : ∃ t, t = decide (x = p) := ⟨_, rfl⟩
           rw [← ht] at qE
           have HT := Lib.hid ht
           clear ht
           go_wp2_with fail
           go_quiet (fail)
           have LQ := Lib.hid (Low.drewN wr nq)
           obtain ⟨WQ, hWQ⟩ : ∃ Y, Y = wr.drewN nq := ⟨_, rfl⟩
           rw [← hWQ] at LQ ⊢
           clear hWQ r0 r1 p0 p1 qE
           go_wp2_with fail
           go_roundg (L - (k + 1))
           case measure => omega
           case rel =>
            refine ⟨t, k + 1, rfl, by go_num, by omega, by omega, Lib.hid ?_, Lib.hid (GZ.out.trans LQ.out)⟩
            have h1 : p ∉ R'.take k := by have := HSS.out; simpa using this.symm
            rw [HTK.out, HT.out]
            have : (x = p) ↔ (p ∈ R'.take k ++ [x]) := by
             rw [List.mem_append, List.mem_singleton]
             exact ⟨fun e => .inr e.symm, fun e => e.elim (fun e => absurd e h1) fun e => e.symm⟩
            simp only [this]
         ·have zk : ¬ (k : Int) < (L : Int) := by omega
          have HSR := Lib.hid (show s = decide (p ∈ R') by
           have h1 := HSS.out
           rwa [show k = R'.length by have := HLL.out; omega, List.take_length] at h1)
          have GG := Lib.hid (G3.out.trans GZ.out)
          have BZ := Lib.hid (B3.out.low GZ.out)
          have hszz : U0.heap.size ≤ wr.heap.size := Nat.le_trans hsz3 GZ.out.size
          have hiR2 : i < R'.length := by rw [← HLL.out]; exact hiR
          cases s with
          | true =>
           have HIN := Lib.hid (show p ∈ R' by have := HSR.out; simpa using this.symm)
           clear p0 p1
           go_wp2_with fail
           go_roundg (m - (j + 1))
           case measure => omega
           case rel => exact ⟨_, j + 1, R', rfl, by go_num, by omega, by omega, by have := HLL.out; omega, hiR2, KN, Lib.hid (K.out.old hiR2 hjm (by rw [HPJ.out]; exact HIN.out) (by rw [HPJ.out]; exact HPB.out)), GG, OZ, BZ, hszz⟩
          | false =>
           have HIN := Lib.hid (show p ∉ R' by have := HSR.out; simpa using this.symm)
           have HNEW := Lib.hid (show RIn (ensOf qs) a b (R' ++ [p]) i (j + 1) by
            have h1 := K.out.new HG.out.closed hiR2 hjm (by rw [HPJ.out]; exact HIN.out) (by rw [HPJ.out]; exact HPB.out)
            rwa [HPJ.out] at h1)
           have hlen : (R' ++ [p]).length ≤ N + 1 := by have h1 := HNEW.out.len; rw [HN.out]; simpa [ensOf] using h1
           have hL6 : R'.length ≤ 1000000 := by have := HLL.out; omega
           have HKN2 := Lib.hid (show ∃ h : i < (R' ++ [p]).length, (R' ++ [p])[i] = n by
            obtain ⟨h1, h2⟩ := KN.out
            exact ⟨by rw [List.length_append]; omega, by rw [List.getElem_append_left h1]; exact h2⟩)
           go_wp2_with (first
            | (at_builtin; go_loud (refine appR rfl _ _ _ rfl Tryz.underlying48 u_info rfl (by decide) (by decide) encU_len encU_one U0.heap.size _ R' rfl (OwnR.alloc OZ.out _) p ⟨wr.heap.size, 0, none⟩ 1 rfl (fun j u hj => newcell_at _ _ _ _ _ rfl hj) hL6 (by show U0.heap.size ≤ (wr.alloc _).heap.size; rw [size_alloc9]; omega) ?_); intro v6 w6 O6 B6 K6 N6))
           have hal := Low.alloc (Low.refl wr) (.cells #[.string p.t, .string p.i] 23)
           have O6' := Lib.hid O6
           have G6 := Lib.hid (show Low w w6 from (GG.out.trans hal).trans_belowU B6 L0.out.size)
           have BZ6 := Lib.hid ((BZ.out.low hal).below B6 HSB.out)
           have hsz6 : U0.heap.size ≤ w6.heap.size := Nat.le_trans (Nat.le_trans hszz hal.size) B6.size
           clear O6 B6 K6 N6 hal p0 p1
           go_roundg (m - (j + 1))
           case measure => omega
           case rel => exact ⟨_, j + 1, R' ++ [p], rfl, by go_num, by omega, by omega, hlen, by rw [List.length_append]; omega, HKN2, HNEW, G6, O6', BZ6, hsz6⟩
      ·have zj : ¬ (j : Int) < (m : Int) := by omega
       go_wp2_with fail
       go_roundg (N + 2 - (i + 1))
       case measure => omega
       case rel => exact ⟨_, i + 1, R', rfl, by go_num, by omega, by omega, by omega, Lib.hid (K.out.next hiR (by obtain ⟨_, e⟩ := KN.out; rw [e, ← HPN.out, ← HM.out]; omega)), G, O, B, hszi⟩
   ·have zl : ¬ (i : Int) < (R.length : Int) := by omega
    go_wp2_with fail
    go_ret
    refine ⟨?_, G.out⟩
    have : inBh (ensOf qs) a b = false := by
     rw [Bool.eq_false_iff]
     intro hb
     rcases inB_iff.1 hb with hb | hb
     ·exact HAB.out hb
     ·exact K.out.fin (by omega) hb
    rw [this]; rfl
end Go.Proofs.YtnchohglplobeaaGreat
namespace Go.Proofs.YtnchohglplobeaaGreat
open Go.RowKit Go.Sort Go.Maps
structure Sc where
 k : Int
 t : ByteArray
 u : Us
 s : Bool
 l : List Us
def holdsS (f : Us → Us → Bool) (c : Sc) (x : Us) : Int × Bool :=
 if c.s = true ∧ (c.k = 1 ∨ c.k = 2 ∨ c.k = 4) then (32, false)
 else if c.k = 0 then (0, true)
 else if c.k = 1 then (0, decide (x = c.u))
 else if c.k = 2 then (0, f x c.u)
 else if c.k = 3 then (0, decide (x.t = c.t))
 else if c.k = 4 then (0, decide (x.t = c.t) && f x c.u)
 else if c.k = 5 then (0, c.l.any fun y => f x y)
 else (1, false)
theorem BoxAtv.at6 {w : World} {n : Nat} {c0 c1 c2 c3 c4 c5 : Value} (h : BoxAtv w n [c0, c1, c2, c3, c4, c5]) : w.cell? ⟨n, 0, none⟩ = some c0 ∧ w.cell? ⟨n, 1, none⟩ = some c1 ∧ w.cell? ⟨n, 2, none⟩ = some c2 ∧ w.cell? ⟨n, 3, none⟩ = some c3 ∧ w.cell? ⟨n, 4, none⟩ = some c4 ∧ w.cell? ⟨n, 5, none⟩ = some c5 := ⟨h.at 0 _ rfl, h.at 1 _ rfl, h.at 2 _ rfl, h.at 3 _ rfl, h.at 4 _ rfl, h.at 5 _ rfl⟩
theorem retHo {p : Int × Bool} {k : Int} {b : Bool} (h : p = (k, b)) : Ending.returned (.tuple #[.bool b, .int .i64 k]) = .returned (.tuple #[.bool p.2, .int .i64 p.1]) := by rw [h]
def HoP (X : Sx) (p : Int × Bool) (w : World) (e : Ending) (w' : World) : Prop := e = .returned (.tuple #[.bool p.2, .int .i64 p.1]) ∧ Go X w w'
set_option maxRecDepth 100000 in
set_option maxHeartbeats 4000000 in
theorem holds14_c {X : Sx} (c : Sc) (x : Us) (w : World) (p : Option Addr) (m : Nat) (hl : UsAt w (.slice p c.l.length m) c.l) (hX : X.at w) : Calls Tryz.prog 19 #[.agg #[.int .i64 c.k, .string c.t, .string c.u.t, .string c.u.i, .bool c.s, .slice p c.l.length m], .agg #[.string x.t, .string x.i], X.v] w (HoP X (holdsS X.isIn c x) w) := by
 have HXX := Lib.hid hX
 have HIN := Lib.hid fun W (h : Low w W) => inX_c W (Sx.low hX h) x c.u
 have HON := Lib.hid fun W (h : Low w W) => inOneOf_c x c.l W (Sx.low hX h) (.slice p c.l.length m) (hl.low h)
 obtain ⟨xp, hxp⟩ := Sx.ptr X
 simp only [hxp] at HIN HON ⊢
 obtain ⟨r, hr⟩ : ∃ r, r = holdsS X.isIn c x := ⟨_, rfl⟩
 rw [← hr]
 obtain ⟨q, hq⟩ : ∃ q, q = X.isIn x c.u := ⟨_, rfl⟩
 rw [← hq] at HIN
 obtain ⟨q5, hq5⟩ : ∃ q5, q5 = c.l.any fun u => X.isIn x u := ⟨_, rfl⟩
 rw [← hq5] at HON
 rcases (show c.s = true ∨ c.s = false by cases c.s <;> simp) with hs | hs
 ·skip
  by_cases hk : c.k = 0
  ·skip
   have HR := Lib.hid (show r = (0, true) by rw [hr]; unfold holdsS; simp [hk, hs, hq, hq5])
   have HS := Lib.hid hs
   have HK := Lib.hid hk
   clear hr hk hs hq hq5 hl hX HIN HON
   obtain ⟨U, HU, LU, ZU, BS, BU⟩ := boxes2 w [.int .i64 c.k, .string c.t, .string c.u.t, .string c.u.i, .bool c.s, .slice p c.l.length m] 50 [.string x.t, .string x.i] 23
   go_enter Tryz.func19, Tryz.ntmps19
   go_upto_region 1 with fail
   rw [← HU.out]
   clear HU
   obtain ⟨s0, s1, s2, s3, s4, s5⟩ := BS.out.at6
   obtain ⟨u0, u1⟩ := BU.out.at2
   rw [HS.out] at s4
   rw [HK.out] at s0
   go_wp2_with fail
   go_ret2
   exact ⟨retHo HR.out, Go.of HXX.out LU.out⟩
  have h0 := hk
  clear hk
  by_cases hk : c.k = 1
  ·skip
   have HR := Lib.hid (show r = (32, false) by rw [hr]; unfold holdsS; simp [hk, hs, hq, hq5])
   have HS := Lib.hid hs
   have HK := Lib.hid hk
   clear hr hk hs hq hq5 hl hX HIN HON
   obtain ⟨U, HU, LU, ZU, BS, BU⟩ := boxes2 w [.int .i64 c.k, .string c.t, .string c.u.t, .string c.u.i, .bool c.s, .slice p c.l.length m] 50 [.string x.t, .string x.i] 23
   go_enter Tryz.func19, Tryz.ntmps19
   go_upto_region 1 with fail
   rw [← HU.out]
   clear HU
   obtain ⟨s0, s1, s2, s3, s4, s5⟩ := BS.out.at6
   obtain ⟨u0, u1⟩ := BU.out.at2
   rw [HS.out] at s4
   rw [HK.out] at s0
   go_wp2_with fail
   go_ret2
   exact ⟨retHo HR.out, Go.of HXX.out LU.out⟩
  have h1 := hk
  clear hk
  by_cases hk : c.k = 2
  ·skip
   have HR := Lib.hid (show r = (32, false) by rw [hr]; unfold holdsS; simp [hk, hs, hq, hq5])
   have HS := Lib.hid hs
   have HK := Lib.hid hk
   clear hr hk hs hq hq5 hl hX HIN HON
   obtain ⟨U, HU, LU, ZU, BS, BU⟩ := boxes2 w [.int .i64 c.k, .string c.t, .string c.u.t, .string c.u.i, .bool c.s, .slice p c.l.length m] 50 [.string x.t, .string x.i] 23
   go_enter Tryz.func19, Tryz.ntmps19
   go_upto_region 1 with fail
   rw [← HU.out]
   clear HU
   obtain ⟨s0, s1, s2, s3, s4, s5⟩ := BS.out.at6
   obtain ⟨u0, u1⟩ := BU.out.at2
   rw [HS.out] at s4
   rw [HK.out] at s0
   go_wp2_with fail
   go_ret2
   exact ⟨retHo HR.out, Go.of HXX.out LU.out⟩
  have h2 := hk
  clear hk
  by_cases hk : c.k = 3
  ·skip
   have HR := Lib.hid (show r = (0, (decide (x.t = c.t))) by rw [hr]; unfold holdsS; simp [hk, hs, hq, hq5])
   have HS := Lib.hid hs
   have HK := Lib.hid hk
   have hst := str_beq x.t c.t
   clear hr hk hs hq hq5 hl hX HIN HON
   obtain ⟨U, HU, LU, ZU, BS, BU⟩ := boxes2 w [.int .i64 c.k, .string c.t, .string c.u.t, .string c.u.i, .bool c.s, .slice p c.l.length m] 50 [.string x.t, .string x.i] 23
   go_enter Tryz.func19, Tryz.ntmps19
   go_upto_region 1 with fail
   rw [← HU.out]
   clear HU
   obtain ⟨s0, s1, s2, s3, s4, s5⟩ := BS.out.at6
   obtain ⟨u0, u1⟩ := BU.out.at2
   rw [HS.out] at s4
   rw [HK.out] at s0
   go_wp2_with fail
   go_ret2
   exact ⟨retHo (by rw [HR.out, ← hst]), Go.of HXX.out LU.out⟩
  have h3 := hk
  clear hk
  by_cases hk : c.k = 4
  ·skip
   have HR := Lib.hid (show r = (32, false) by rw [hr]; unfold holdsS; simp [hk, hs, hq, hq5])
   have HS := Lib.hid hs
   have HK := Lib.hid hk
   clear hr hk hs hq hq5 hl hX HIN HON
   obtain ⟨U, HU, LU, ZU, BS, BU⟩ := boxes2 w [.int .i64 c.k, .string c.t, .string c.u.t, .string c.u.i, .bool c.s, .slice p c.l.length m] 50 [.string x.t, .string x.i] 23
   go_enter Tryz.func19, Tryz.ntmps19
   go_upto_region 1 with fail
   rw [← HU.out]
   clear HU
   obtain ⟨s0, s1, s2, s3, s4, s5⟩ := BS.out.at6
   obtain ⟨u0, u1⟩ := BU.out.at2
   rw [HS.out] at s4
   rw [HK.out] at s0
   go_wp2_with fail
   go_ret2
   exact ⟨retHo HR.out, Go.of HXX.out LU.out⟩
  have h4 := hk
  clear hk
  by_cases hk : c.k = 5
  ·skip
   have HR := Lib.hid (show r = (0, q5) by rw [hr]; unfold holdsS; simp [hk, hs, hq, hq5])
   have HS := Lib.hid hs
   have HK := Lib.hid hk
   clear hr hk hs hq hq5 hl hX HIN
   obtain ⟨U, HU, LU, ZU, BS, BU⟩ := boxes2 w [.int .i64 c.k, .string c.t, .string c.u.t, .string c.u.i, .bool c.s, .slice p c.l.length m] 50 [.string x.t, .string x.i] 23
   go_enter Tryz.func19, Tryz.ntmps19
   go_upto_region 1 with fail
   rw [← HU.out]
   clear HU
   obtain ⟨s0, s1, s2, s3, s4, s5⟩ := BS.out.at6
   obtain ⟨u0, u1⟩ := BU.out.at2
   rw [HS.out] at s4
   rw [HK.out] at s0
   go_wp2_with fail
   refine (HON.out _ LU.out).mono ?_
   rintro e w1 ⟨rfl, g⟩
   have HG := Lib.hid g
   clear g HON
   go_wp2_with fail
   go_ret2
   exact ⟨retHo HR.out, (Go.of HXX.out LU.out).trans HG.out⟩
  have h5 := hk
  clear hk
  have b0 : (c.k == 0) = false := by simpa using h0
  have b1 : (c.k == 1) = false := by simpa using h1
  have b2 : (c.k == 2) = false := by simpa using h2
  have b3 : (c.k == 3) = false := by simpa using h3
  have b4 : (c.k == 4) = false := by simpa using h4
  have b5 : (c.k == 5) = false := by simpa using h5
  have HR := Lib.hid (show r = (1, false) by rw [hr]; unfold holdsS; simp [h0, h1, h2, h3, h4, h5, hs])
  have HS := Lib.hid hs
  clear hr h0 h1 h2 h3 h4 h5 hs hq hq5 hl hX HIN HON
  obtain ⟨U, HU, LU, ZU, BS, BU⟩ := boxes2 w [.int .i64 c.k, .string c.t, .string c.u.t, .string c.u.i, .bool c.s, .slice p c.l.length m] 50 [.string x.t, .string x.i] 23
  go_enter Tryz.func19, Tryz.ntmps19
  go_upto_region 1 with fail
  rw [← HU.out]
  clear HU
  obtain ⟨s0, s1, s2, s3, s4, s5⟩ := BS.out.at6
  obtain ⟨u0, u1⟩ := BU.out.at2
  rw [HS.out] at s4
  go_wp2_with fail
  go_ret2
  exact ⟨retHo HR.out, Go.of HXX.out LU.out⟩
 ·skip
  by_cases hk : c.k = 0
  ·skip
   have HR := Lib.hid (show r = (0, true) by rw [hr]; unfold holdsS; simp [hk, hs, hq, hq5])
   have HS := Lib.hid hs
   have HK := Lib.hid hk
   clear hr hk hs hq hq5 hl hX HIN HON
   obtain ⟨U, HU, LU, ZU, BS, BU⟩ := boxes2 w [.int .i64 c.k, .string c.t, .string c.u.t, .string c.u.i, .bool c.s, .slice p c.l.length m] 50 [.string x.t, .string x.i] 23
   go_enter Tryz.func19, Tryz.ntmps19
   go_upto_region 1 with fail
   rw [← HU.out]
   clear HU
   obtain ⟨s0, s1, s2, s3, s4, s5⟩ := BS.out.at6
   obtain ⟨u0, u1⟩ := BU.out.at2
   rw [HS.out] at s4
   rw [HK.out] at s0
   go_wp2_with fail
   go_ret2
   exact ⟨retHo HR.out, Go.of HXX.out LU.out⟩
  have h0 := hk
  clear hk
  by_cases hk : c.k = 1
  ·skip
   have HR := Lib.hid (show r = (0, (decide (x = c.u))) by rw [hr]; unfold holdsS; simp [hk, hs, hq, hq5])
   have HS := Lib.hid hs
   have HK := Lib.hid hk
   have hue := us_eql x c.u
   clear hr hk hs hq hq5 hl hX HIN HON
   obtain ⟨U, HU, LU, ZU, BS, BU⟩ := boxes2 w [.int .i64 c.k, .string c.t, .string c.u.t, .string c.u.i, .bool c.s, .slice p c.l.length m] 50 [.string x.t, .string x.i] 23
   go_enter Tryz.func19, Tryz.ntmps19
   go_upto_region 1 with fail
   rw [← HU.out]
   clear HU
   obtain ⟨s0, s1, s2, s3, s4, s5⟩ := BS.out.at6
   obtain ⟨u0, u1⟩ := BU.out.at2
   rw [HS.out] at s4
   rw [HK.out] at s0
   go_wp2_with fail
   go_ret2
   exact ⟨retHo HR.out, Go.of HXX.out LU.out⟩
  have h1 := hk
  clear hk
  by_cases hk : c.k = 2
  ·skip
   have HR := Lib.hid (show r = (0, q) by rw [hr]; unfold holdsS; simp [hk, hs, hq, hq5])
   have HS := Lib.hid hs
   have HK := Lib.hid hk
   clear hr hk hs hq hq5 hl hX HON
   obtain ⟨U, HU, LU, ZU, BS, BU⟩ := boxes2 w [.int .i64 c.k, .string c.t, .string c.u.t, .string c.u.i, .bool c.s, .slice p c.l.length m] 50 [.string x.t, .string x.i] 23
   go_enter Tryz.func19, Tryz.ntmps19
   go_upto_region 1 with fail
   rw [← HU.out]
   clear HU
   obtain ⟨s0, s1, s2, s3, s4, s5⟩ := BS.out.at6
   obtain ⟨u0, u1⟩ := BU.out.at2
   rw [HS.out] at s4
   rw [HK.out] at s0
   go_wp2_with fail
   refine (HIN.out _ LU.out).mono ?_
   rintro e w1 ⟨rfl, g⟩
   have HG := Lib.hid g
   clear g HIN
   go_wp2_with fail
   go_ret2
   exact ⟨retHo HR.out, (Go.of HXX.out LU.out).trans HG.out⟩
  have h2 := hk
  clear hk
  by_cases hk : c.k = 3
  ·skip
   have HR := Lib.hid (show r = (0, (decide (x.t = c.t))) by rw [hr]; unfold holdsS; simp [hk, hs, hq, hq5])
   have HS := Lib.hid hs
   have HK := Lib.hid hk
   have hst := str_beq x.t c.t
   clear hr hk hs hq hq5 hl hX HIN HON
   obtain ⟨U, HU, LU, ZU, BS, BU⟩ := boxes2 w [.int .i64 c.k, .string c.t, .string c.u.t, .string c.u.i, .bool c.s, .slice p c.l.length m] 50 [.string x.t, .string x.i] 23
   go_enter Tryz.func19, Tryz.ntmps19
   go_upto_region 1 with fail
   rw [← HU.out]
   clear HU
   obtain ⟨s0, s1, s2, s3, s4, s5⟩ := BS.out.at6
   obtain ⟨u0, u1⟩ := BU.out.at2
   rw [HS.out] at s4
   rw [HK.out] at s0
   go_wp2_with fail
   go_ret2
   exact ⟨retHo (by rw [HR.out, ← hst]), Go.of HXX.out LU.out⟩
  have h3 := hk
  clear hk
  by_cases hk : c.k = 4
  ·skip
   have HR := Lib.hid (show r = (0, (decide (x.t = c.t) && q)) by rw [hr]; unfold holdsS; simp [hk, hs, hq, hq5])
   have HS := Lib.hid hs
   have HK := Lib.hid hk
   have hst := str_beq x.t c.t
   clear hr hk hs hq hq5 hl hX HON
   obtain ⟨U, HU, LU, ZU, BS, BU⟩ := boxes2 w [.int .i64 c.k, .string c.t, .string c.u.t, .string c.u.i, .bool c.s, .slice p c.l.length m] 50 [.string x.t, .string x.i] 23
   go_enter Tryz.func19, Tryz.ntmps19
   go_upto_region 1 with fail
   rw [← HU.out]
   clear HU
   obtain ⟨s0, s1, s2, s3, s4, s5⟩ := BS.out.at6
   obtain ⟨u0, u1⟩ := BU.out.at2
   rw [HS.out] at s4
   rw [HK.out] at s0
   by_cases ht : x.t = c.t
   ·have ht2 : (x.t.toList == c.t.toList) = true := by rw [hst]; exact decide_eq_true ht
    have HR2 := Lib.hid (show r = (0, q) by rw [HR.out, decide_eq_true ht]; rfl)
    clear ht hst
    go_wp2_with fail
    refine (HIN.out _ LU.out).mono ?_
    rintro e w1 ⟨rfl, g⟩
    have HG := Lib.hid g
    clear g HIN
    go_wp2_with fail
    go_ret2
    exact ⟨retHo HR2.out, (Go.of HXX.out LU.out).trans HG.out⟩
   ·have ht2 : (x.t.toList == c.t.toList) = false := by rw [hst]; exact decide_eq_false ht
    have HR2 := Lib.hid (show r = (0, false) by rw [HR.out, decide_eq_false ht]; rfl)
    clear ht hst
    go_wp2_with fail
    go_ret2
    exact ⟨retHo HR2.out, Go.of HXX.out LU.out⟩
  have h4 := hk
  clear hk
  by_cases hk : c.k = 5
  ·skip
   have HR := Lib.hid (show r = (0, q5) by rw [hr]; unfold holdsS; simp [hk, hs, hq, hq5])
   have HS := Lib.hid hs
   have HK := Lib.hid hk
   clear hr hk hs hq hq5 hl hX HIN
   obtain ⟨U, HU, LU, ZU, BS, BU⟩ := boxes2 w [.int .i64 c.k, .string c.t, .string c.u.t, .string c.u.i, .bool c.s, .slice p c.l.length m] 50 [.string x.t, .string x.i] 23
   go_enter Tryz.func19, Tryz.ntmps19
   go_upto_region 1 with fail
   rw [← HU.out]
   clear HU
   obtain ⟨s0, s1, s2, s3, s4, s5⟩ := BS.out.at6
   obtain ⟨u0, u1⟩ := BU.out.at2
   rw [HS.out] at s4
   rw [HK.out] at s0
   go_wp2_with fail
   refine (HON.out _ LU.out).mono ?_
   rintro e w1 ⟨rfl, g⟩
   have HG := Lib.hid g
   clear g HON
   go_wp2_with fail
   go_ret2
   exact ⟨retHo HR.out, (Go.of HXX.out LU.out).trans HG.out⟩
  have h5 := hk
  clear hk
  have b0 : (c.k == 0) = false := by simpa using h0
  have b1 : (c.k == 1) = false := by simpa using h1
  have b2 : (c.k == 2) = false := by simpa using h2
  have b3 : (c.k == 3) = false := by simpa using h3
  have b4 : (c.k == 4) = false := by simpa using h4
  have b5 : (c.k == 5) = false := by simpa using h5
  have HR := Lib.hid (show r = (1, false) by rw [hr]; unfold holdsS; simp [h0, h1, h2, h3, h4, h5, hs])
  have HS := Lib.hid hs
  clear hr h0 h1 h2 h3 h4 h5 hs hq hq5 hl hX HIN HON
  obtain ⟨U, HU, LU, ZU, BS, BU⟩ := boxes2 w [.int .i64 c.k, .string c.t, .string c.u.t, .string c.u.i, .bool c.s, .slice p c.l.length m] 50 [.string x.t, .string x.i] 23
  go_enter Tryz.func19, Tryz.ntmps19
  go_upto_region 1 with fail
  rw [← HU.out]
  clear HU
  obtain ⟨s0, s1, s2, s3, s4, s5⟩ := BS.out.at6
  obtain ⟨u0, u1⟩ := BU.out.at2
  rw [HS.out] at s4
  go_wp2_with fail
  go_ret2
  exact ⟨retHo HR.out, Go.of HXX.out LU.out⟩
end Go.Proofs.YtnchohglplobeaaGreat
namespace Go.Proofs.YtnchohglplobeaaGreat
open Go.RowKit Go.ChangeShapes Go.WideShapes Go.Deep Go.Maps
variable {H : Type} {enc : TypeId × Value → H} {w : World} {spare : Nat → Bool} {held : Bool}
set_option maxRecDepth 100000 in
theorem cofSc : Tryz.prog.cellsOf 50 = 6 := by kernel_rfl
theorem cofI14 : Tryz.prog.cellsOf 3 = 1 := by kernel_rfl
theorem cofB14 : Tryz.prog.cellsOf 4 = 1 := by kernel_rfl
theorem cofS14 : Tryz.prog.cellsOf 9 = 1 := by kernel_rfl
theorem cofUs14 : Tryz.prog.cellsOf 48 = 1 := by kernel_rfl
set_option maxRecDepth 100000 in
theorem trod_scope {base fuel : Nat} {cs : List Value} {x : DataW H × List MemPlace} (h : DataW.trod enc Tryz.prog w base spare held fuel 50 cs = some x) : ∃ (c : Sc) (p : Option Addr) (m : Nat), cs = [.int .i64 c.k, .string c.t, .string c.u.t, .string c.u.i, .bool c.s, .slice p c.l.length m] ∧ UsAt w (.slice p c.l.length m) c.l := by
 obtain ⟨xs, n, rfl, -, hlen, hxl, hf⟩ := DataW.trod_struct Tryz.underlying50 h
 rw [cofSc] at hlen
 have hx5 : xs.length = 5 := hxl
 match cs, hlen with
 | [c0, c1, c2, c3, c4, c5], _ =>
  have f0 : DataW.trod enc Tryz.prog w base spare held n 3 (([c0, c1, c2, c3, c4, c5].drop 0).take (Tryz.prog.cellsOf 3)) = some _ := (hf 0 _ rfl).trans (List.getElem?_eq_getElem (by omega))
  have f1 : DataW.trod enc Tryz.prog w base spare held n 9 (([c0, c1, c2, c3, c4, c5].drop 1).take (Tryz.prog.cellsOf 9)) = some _ := (hf 1 _ rfl).trans (List.getElem?_eq_getElem (by omega))
  have f2 : DataW.trod enc Tryz.prog w base spare held n 23 (([c0, c1, c2, c3, c4, c5].drop 2).take (Tryz.prog.cellsOf 23)) = some _ := (hf 2 _ rfl).trans (List.getElem?_eq_getElem (by omega))
  have f3 : DataW.trod enc Tryz.prog w base spare held n 4 (([c0, c1, c2, c3, c4, c5].drop 4).take (Tryz.prog.cellsOf 4)) = some _ := (hf 3 _ rfl).trans (List.getElem?_eq_getElem (by omega))
  have f4 : DataW.trod enc Tryz.prog w base spare held n 48 (([c0, c1, c2, c3, c4, c5].drop 5).take (Tryz.prog.cellsOf 48)) = some _ := (hf 4 _ rfl).trans (List.getElem?_eq_getElem (by omega))
  rw [cofI14] at f0
  rw [cofS14] at f1
  rw [cof23] at f2
  rw [cofB14] at f3
  rw [cofUs14] at f4
  obtain ⟨k, e0, -, hk⟩ := DataW.trod_int Tryz.underlying3 f0
  obtain ⟨t, e1, -, ht⟩ := DataW.trod_string Tryz.underlying9 f1
  obtain ⟨u, e2⟩ := trod_uid f2
  obtain ⟨b, e3, -⟩ := DataW.trod_bool Tryz.underlying4 f3
  obtain ⟨l, v, e4, hl⟩ := trod_uids f4
  simp at e0 e1 e3 e4
  simp [Us.cs] at e2
  obtain ⟨rfl, rfl⟩ := e2
  subst e0 e1 e3 e4
  have hu := UsIn.any hl
  obtain ⟨ao, m, rfl, -⟩ := id hu
  exact ⟨⟨k, t, u, b, l⟩, ao, m, rfl, hu⟩
set_option maxRecDepth 100000 in
theorem open_scope {r : Reach} {base : Nat} {v : Value} {d : DataW H} {p : List MemPlace} (hv : Value.okWide Tryz.prog w r base 50 v) (h : DataW.Trod enc Tryz.prog w 0 spare held 50 v d p) : ∃ (c : Sc) (q : Option Addr) (m : Nat), v = .agg #[.int .i64 c.k, .string c.t, .string c.u.t, .string c.u.i, .bool c.s, .slice q c.l.length m] ∧ UsAt w (.slice q c.l.length m) c.l := by
 obtain ⟨cs, rfl, -⟩ := okWide_struct Tryz.underlying50 hv
 obtain ⟨fuel, hf⟩ := h
 obtain ⟨c, q, m, he, hr⟩ := trod_scope hf
 refine ⟨c, q, m, ?_, hr⟩
 have : cs = #[.int .i64 c.k, .string c.t, .string c.u.t, .string c.u.i, .bool c.s, .slice q c.l.length m] := by
  have h2 : cs.toList = [.int .i64 c.k, .string c.t, .string c.u.t, .string c.u.i, .bool c.s, .slice q c.l.length m] := by rw [← he]; simp [Value.cells]
  exact Array.toList_inj.1 h2
 rw [this]
end Go.Proofs.YtnchohglplobeaaGreat
namespace Go.Proofs.YtnchohglplobeaaGreat
open Go.RowKit Go.Sort Go.Maps
set_option maxRecDepth 100000 in
set_option maxHeartbeats 4000000 in
theorem rholds14_c (qs : List Ee) (c : Sc) (x : Us) (w : World) (p : Option Addr) (m : Nat) (r0 : Value) (hl : UsAt w (.slice p c.l.length m) c.l) (hq0 : EtAt w r0 qs) (hg : GoodC (ensOf qs)) : Calls Tryz.prog 20 #[.agg #[.int .i64 c.k, .string c.t, .string c.u.t, .string c.u.i, .bool c.s, .slice p c.l.length m], .agg #[.string x.t, .string x.i], r0] w fun e w' => e = .returned (.tuple #[.bool (holdsS (inBh (ensOf qs)) c x).2, .int .i64 (holdsS (inBh (ensOf qs)) c x).1]) ∧ Low w w' := by
 have HIN := Lib.hid fun W (h : Low w W) => rin_c qs W r0 x c.u (hq0.low h) hg
 have HIA := Lib.hid fun (u : Us) W (h : Low w W) => rin_c qs W r0 x u (hq0.low h) hg
 have HUL := Lib.hid hl
 obtain ⟨_, _, _, ⟨z1, z2⟩, _⟩ := id hl
 obtain ⟨r, hr⟩ : ∃ r, r = holdsS (inBh (ensOf qs)) c x := ⟨_, rfl⟩
 rw [← hr]
 obtain ⟨f, hf⟩ : ∃ f, f = fun u => inBh (ensOf qs) x u := ⟨_, rfl⟩
 have hf1 : ∀ u, inBh (ensOf qs) x u = f u := fun u => by rw [hf]
 simp only [hf1] at HIN HIA
 obtain ⟨q, hq⟩ : ∃ q, q = f c.u := ⟨_, rfl⟩
 rw [← hq] at HIN
 have HR0 := Lib.hid (show r = if c.s = true ∧ (c.k = 1 ∨ c.k = 2 ∨ c.k = 4) then (32, false) else if c.k = 0 then (0, true) else if c.k = 1 then (0, decide (x = c.u)) else if c.k = 2 then (0, q) else if c.k = 3 then (0, decide (x.t = c.t)) else if c.k = 4 then (0, decide (x.t = c.t) && q) else if c.k = 5 then (0, c.l.any f) else (1, false) by rw [hr, hq, ← hf1]; unfold holdsS; simp only [hf1])
 clear hl hq0 hg hr hf hf1 hq
 by_cases hn : c.k < 0
 ·skip
  have HR := Lib.hid (show r = (1, false) by rw [HR0.out, if_neg (by omega), if_neg (by omega), if_neg (by omega), if_neg (by omega), if_neg (by omega), if_neg (by omega), if_neg (by omega)])
  clear HR0 HIN HIA HUL
  obtain ⟨U, HU, LU, ZU, BS, BU⟩ := boxes2 w [.int .i64 c.k, .string c.t, .string c.u.t, .string c.u.i, .bool c.s, .slice p c.l.length m] 50 [.string x.t, .string x.i] 23
  go_enter Tryz.func20, Tryz.ntmps20
  go_upto_region 1 with fail
  rw [← HU.out]
  clear HU
  obtain ⟨s0, s1, s2, s3, s4, s5⟩ := BS.out.at6
  go_wp2_with fail
  go_ret2
  exact ⟨retHo HR.out, LU.out⟩
 by_cases hp5 : 5 < c.k
 ·skip
  have HR := Lib.hid (show r = (1, false) by rw [HR0.out, if_neg (by omega), if_neg (by omega), if_neg (by omega), if_neg (by omega), if_neg (by omega), if_neg (by omega), if_neg (by omega)])
  clear HR0 HIN HIA HUL
  obtain ⟨U, HU, LU, ZU, BS, BU⟩ := boxes2 w [.int .i64 c.k, .string c.t, .string c.u.t, .string c.u.i, .bool c.s, .slice p c.l.length m] 50 [.string x.t, .string x.i] 23
  go_enter Tryz.func20, Tryz.ntmps20
  go_upto_region 1 with fail
  rw [← HU.out]
  clear HU
  obtain ⟨s0, s1, s2, s3, s4, s5⟩ := BS.out.at6
  go_wp2_with fail
  go_ret2
  exact ⟨retHo HR.out, LU.out⟩
 rcases (show c.s = true ∨ c.s = false by cases c.s <;> simp) with hs | hs
 ·rcases (show c.k = 0 ∨ c.k = 1 ∨ c.k = 2 ∨ c.k = 3 ∨ c.k = 4 ∨ c.k = 5 by omega) with hk | hk | hk | hk | hk | hk
  ·clear hn hp5
   have HR := Lib.hid (show r = (0, true) by rw [HR0.out]; simp [hk, hs])
   have HS := Lib.hid hs
   have HK := Lib.hid hk
   clear hk hs HR0 HIA HUL
   obtain ⟨U, HU, LU, ZU, BS, BU⟩ := boxes2 w [.int .i64 c.k, .string c.t, .string c.u.t, .string c.u.i, .bool c.s, .slice p c.l.length m] 50 [.string x.t, .string x.i] 23
   go_enter Tryz.func20, Tryz.ntmps20
   go_upto_region 1 with fail
   rw [← HU.out]
   clear HU
   obtain ⟨s0, s1, s2, s3, s4, s5⟩ := BS.out.at6
   obtain ⟨u0, u1⟩ := BU.out.at2
   rw [HS.out] at s4
   rw [HK.out] at s0
   go_wp2_with fail
   refine (HIN.out _ LU.out).mono ?_
   rintro e w1 ⟨rfl, l1⟩
   have L1 := Lib.hid (LU.out.trans l1)
   have BS1 := Lib.hid (BS.out.low l1)
   have BU1 := Lib.hid (BU.out.low l1)
   clear l1 HIN s0 s1 s2 s3 s4 s5 u0 u1
   obtain ⟨s0, s1, s2, s3, s4, s5⟩ := BS1.out.at6
   obtain ⟨u0, u1⟩ := BU1.out.at2
   rw [HS.out] at s4
   rw [HK.out] at s0
   go_wp2_with fail
   go_ret2
   exact ⟨retHo HR.out, L1.out⟩
  ·clear hn hp5
   have HR := Lib.hid (show r = (32, false) by rw [HR0.out]; simp [hk, hs])
   have HS := Lib.hid hs
   have HK := Lib.hid hk
   clear hk hs HR0 HIA HUL HIN
   obtain ⟨U, HU, LU, ZU, BS, BU⟩ := boxes2 w [.int .i64 c.k, .string c.t, .string c.u.t, .string c.u.i, .bool c.s, .slice p c.l.length m] 50 [.string x.t, .string x.i] 23
   go_enter Tryz.func20, Tryz.ntmps20
   go_upto_region 1 with fail
   rw [← HU.out]
   clear HU
   obtain ⟨s0, s1, s2, s3, s4, s5⟩ := BS.out.at6
   obtain ⟨u0, u1⟩ := BU.out.at2
   rw [HS.out] at s4
   rw [HK.out] at s0
   go_wp2_with fail
   go_ret2
   exact ⟨retHo HR.out, LU.out⟩
  ·clear hn hp5
   have HR := Lib.hid (show r = (32, false) by rw [HR0.out]; simp [hk, hs])
   have HS := Lib.hid hs
   have HK := Lib.hid hk
   clear hk hs HR0 HIA HUL HIN
   obtain ⟨U, HU, LU, ZU, BS, BU⟩ := boxes2 w [.int .i64 c.k, .string c.t, .string c.u.t, .string c.u.i, .bool c.s, .slice p c.l.length m] 50 [.string x.t, .string x.i] 23
   go_enter Tryz.func20, Tryz.ntmps20
   go_upto_region 1 with fail
   rw [← HU.out]
   clear HU
   obtain ⟨s0, s1, s2, s3, s4, s5⟩ := BS.out.at6
   obtain ⟨u0, u1⟩ := BU.out.at2
   rw [HS.out] at s4
   rw [HK.out] at s0
   go_wp2_with fail
   go_ret2
   exact ⟨retHo HR.out, LU.out⟩
  ·clear hn hp5
   have HR := Lib.hid (show r = (0, (decide (x.t = c.t))) by rw [HR0.out]; simp [hk, hs])
   have HS := Lib.hid hs
   have HK := Lib.hid hk
   have hst := str_beq x.t c.t
   clear hk hs HR0 HIA HUL
   obtain ⟨U, HU, LU, ZU, BS, BU⟩ := boxes2 w [.int .i64 c.k, .string c.t, .string c.u.t, .string c.u.i, .bool c.s, .slice p c.l.length m] 50 [.string x.t, .string x.i] 23
   go_enter Tryz.func20, Tryz.ntmps20
   go_upto_region 1 with fail
   rw [← HU.out]
   clear HU
   obtain ⟨s0, s1, s2, s3, s4, s5⟩ := BS.out.at6
   obtain ⟨u0, u1⟩ := BU.out.at2
   rw [HS.out] at s4
   rw [HK.out] at s0
   go_wp2_with fail
   refine (HIN.out _ LU.out).mono ?_
   rintro e w1 ⟨rfl, l1⟩
   have L1 := Lib.hid (LU.out.trans l1)
   have BS1 := Lib.hid (BS.out.low l1)
   have BU1 := Lib.hid (BU.out.low l1)
   clear l1 HIN s0 s1 s2 s3 s4 s5 u0 u1
   obtain ⟨s0, s1, s2, s3, s4, s5⟩ := BS1.out.at6
   obtain ⟨u0, u1⟩ := BU1.out.at2
   rw [HS.out] at s4
   rw [HK.out] at s0
   go_wp2_with fail
   go_ret2
   exact ⟨retHo (by rw [HR.out, ← hst]), L1.out⟩
  ·clear hn hp5
   have HR := Lib.hid (show r = (32, false) by rw [HR0.out]; simp [hk, hs])
   have HS := Lib.hid hs
   have HK := Lib.hid hk
   clear hk hs HR0 HIA HUL HIN
   obtain ⟨U, HU, LU, ZU, BS, BU⟩ := boxes2 w [.int .i64 c.k, .string c.t, .string c.u.t, .string c.u.i, .bool c.s, .slice p c.l.length m] 50 [.string x.t, .string x.i] 23
   go_enter Tryz.func20, Tryz.ntmps20
   go_upto_region 1 with fail
   rw [← HU.out]
   clear HU
   obtain ⟨s0, s1, s2, s3, s4, s5⟩ := BS.out.at6
   obtain ⟨u0, u1⟩ := BU.out.at2
   rw [HS.out] at s4
   rw [HK.out] at s0
   go_wp2_with fail
   go_ret2
   exact ⟨retHo HR.out, LU.out⟩
  ·clear hn hp5
   have HR := Lib.hid (show r = (0, (c.l.any f)) by rw [HR0.out]; simp [hk, hs])
   have HS := Lib.hid hs
   have HK := Lib.hid hk
   clear hk hs HR0
   obtain ⟨U, HU, LU, ZU, BS, BU⟩ := boxes2 w [.int .i64 c.k, .string c.t, .string c.u.t, .string c.u.i, .bool c.s, .slice p c.l.length m] 50 [.string x.t, .string x.i] 23
   go_enter Tryz.func20, Tryz.ntmps20
   go_upto_region 1 with fail
   rw [← HU.out]
   clear HU
   obtain ⟨s0, s1, s2, s3, s4, s5⟩ := BS.out.at6
   obtain ⟨u0, u1⟩ := BU.out.at2
   rw [HS.out] at s4
   rw [HK.out] at s0
   go_wp2_with fail
   refine (HIN.out _ LU.out).mono ?_
   rintro e w1 ⟨rfl, l1⟩
   have L1 := Lib.hid (LU.out.trans l1)
   have BS1 := Lib.hid (BS.out.low l1)
   have BU1 := Lib.hid (BU.out.low l1)
   clear l1 HIN s0 s1 s2 s3 s4 s5 u0 u1
   obtain ⟨s0, s1, s2, s3, s4, s5⟩ := BS1.out.at6
   obtain ⟨u0, u1⟩ := BU1.out.at2
   rw [HS.out] at s4
   rw [HK.out] at s0
   go_wp2_with fail
   clear s0 s1 s2 s3 s4 s5 u0 u1
   go_loopg [9] c.l.length (fun gk vi wr => ∃ i : Nat, vi = .int .i64 (i : Int) ∧ i ≤ c.l.length ∧ c.l.length - i ≤ gk ∧ Hid (Low w1 wr) ∧ Hid (c.l.any f = (c.l.drop i).any f))
   case atStart => exact ⟨0, rfl, Nat.zero_le _, Nat.le_refl _, Lib.hid (Low.refl _), rfl⟩
   case round =>
    obtain ⟨i, rfl, hi, hgk, G, K⟩ := hrel
    by_cases hlt : i < c.l.length
    ·have zl : (i : Int) < (c.l.length : Int) := by omega
     obtain ⟨b, o, rfl, hcs⟩ := us_at14 (UsAt.low HUL.out (L1.out.trans (G.out.trans (low_drew (Low.refl wr))))) hlt
     obtain ⟨e0, e1⟩ := cells2 hcs
     have hcs2 := cells2 ((us_at14 (UsAt.low HUL.out (L1.out.trans G.out)) hlt).elim fun b2 h => h.elim fun o2 h => by obtain ⟨h1, h2⟩ := h; simp only [Option.some.injEq, Addr.mk.injEq] at h1; obtain ⟨rfl, rfl, -⟩ := h1; exact h2)
     obtain ⟨e2, e3⟩ := hcs2
     have hst : c.l.any f = (f c.l[i] || (c.l.drop (i + 1)).any f) := by rw [K.out, List.drop_eq_getElem_cons hlt, List.any_cons]
     have HC := Lib.hid (HIA.out c.l[i] wr.drew (L1.out.trans (G.out.trans (low_drew (Low.refl wr)))))
     obtain ⟨t, ht⟩ : ∃ t, t = f c.l[i] := ⟨_, rfl⟩
     rw [← ht] at HC hst
     have HST := Lib.hid hst
     clear ht hst hcs
     have BS2 := Lib.hid (BS1.out.low G.out)
     have BU2 := Lib.hid (BU1.out.low G.out)
     obtain ⟨s0, s1, s2, s3, s4, s5⟩ := BS2.out.at6
     obtain ⟨u0, u1⟩ := BU2.out.at2
     obtain ⟨t0, t1, t2, t3, t4, t5⟩ := (BS2.out.low (low_drew (Low.refl wr))).at6
     obtain ⟨v0, v1⟩ := (BU2.out.low (low_drew (Low.refl wr))).at2
     go_upto_region 19 with fail
     go_cut [10] from 78 to 85 (fun v10 wx => v10 = .bool t ∧ Hid (Low wr wx))
     case first =>
      go_region_with (go_at_call 38; refine HC.out.mono ?_; rintro e w3 ⟨rfl, l3⟩; have L3 := Lib.hid (show Low wr w3 from (low_drew (Low.refl wr)).trans l3); clear l3 HC)
      all_goals
       go_wp2_with fail
       go_meet
       exact ⟨rfl, L3⟩
     case rest =>
      obtain ⟨rfl, LX⟩ := hcut
      rename World => wx
      clear s0 s1 s2 s3 s4 s5 u0 u1 t0 t1 t2 t3 t4 t5 v0 v1 e0 e1 e2 e3 HC
      cases t with
      | true =>
       have HR2 := Lib.hid (show r = (0, true) by rw [HR.out, HST.out]; rfl)
       go_wp2_with fail
       go_ret2
       exact ⟨retHo HR2.out, L1.out.trans (G.out.trans LX.out)⟩
      | false =>
       have HK2 := Lib.hid (show c.l.any f = (c.l.drop (i + 1)).any f by rw [HST.out]; rfl)
       go_wp2_with fail
       go_roundg (c.l.length - (i + 1))
       case measure => omega
       case rel => exact ⟨i + 1, by go_num, by omega, by omega, Lib.hid (G.out.trans LX.out), HK2⟩
    ·have zl : ¬ (i : Int) < (c.l.length : Int) := by omega
     have HR2 := Lib.hid (show r = (0, false) by rw [HR.out, K.out, List.drop_eq_nil_of_le (by omega)]; rfl)
     obtain ⟨s0, s1, s2, s3, s4, s5⟩ := (BS1.out.low G.out).at6
     go_wp2_with fail
     go_ret2
     exact ⟨retHo HR2.out, L1.out.trans G.out⟩
 ·rcases (show c.k = 0 ∨ c.k = 1 ∨ c.k = 2 ∨ c.k = 3 ∨ c.k = 4 ∨ c.k = 5 by omega) with hk | hk | hk | hk | hk | hk
  ·clear hn hp5
   have HR := Lib.hid (show r = (0, true) by rw [HR0.out]; simp [hk, hs])
   have HS := Lib.hid hs
   have HK := Lib.hid hk
   clear hk hs HR0 HIA HUL
   obtain ⟨U, HU, LU, ZU, BS, BU⟩ := boxes2 w [.int .i64 c.k, .string c.t, .string c.u.t, .string c.u.i, .bool c.s, .slice p c.l.length m] 50 [.string x.t, .string x.i] 23
   go_enter Tryz.func20, Tryz.ntmps20
   go_upto_region 1 with fail
   rw [← HU.out]
   clear HU
   obtain ⟨s0, s1, s2, s3, s4, s5⟩ := BS.out.at6
   obtain ⟨u0, u1⟩ := BU.out.at2
   rw [HS.out] at s4
   rw [HK.out] at s0
   go_wp2_with fail
   refine (HIN.out _ LU.out).mono ?_
   rintro e w1 ⟨rfl, l1⟩
   have L1 := Lib.hid (LU.out.trans l1)
   have BS1 := Lib.hid (BS.out.low l1)
   have BU1 := Lib.hid (BU.out.low l1)
   clear l1 HIN s0 s1 s2 s3 s4 s5 u0 u1
   obtain ⟨s0, s1, s2, s3, s4, s5⟩ := BS1.out.at6
   obtain ⟨u0, u1⟩ := BU1.out.at2
   rw [HS.out] at s4
   rw [HK.out] at s0
   go_wp2_with fail
   go_ret2
   exact ⟨retHo HR.out, L1.out⟩
  ·clear hn hp5
   have HR := Lib.hid (show r = (0, (decide (x = c.u))) by rw [HR0.out]; simp [hk, hs])
   have HS := Lib.hid hs
   have HK := Lib.hid hk
   have hue := us_eql x c.u
   clear hk hs HR0 HIA HUL
   obtain ⟨U, HU, LU, ZU, BS, BU⟩ := boxes2 w [.int .i64 c.k, .string c.t, .string c.u.t, .string c.u.i, .bool c.s, .slice p c.l.length m] 50 [.string x.t, .string x.i] 23
   go_enter Tryz.func20, Tryz.ntmps20
   go_upto_region 1 with fail
   rw [← HU.out]
   clear HU
   obtain ⟨s0, s1, s2, s3, s4, s5⟩ := BS.out.at6
   obtain ⟨u0, u1⟩ := BU.out.at2
   rw [HS.out] at s4
   rw [HK.out] at s0
   go_wp2_with fail
   refine (HIN.out _ LU.out).mono ?_
   rintro e w1 ⟨rfl, l1⟩
   have L1 := Lib.hid (LU.out.trans l1)
   have BS1 := Lib.hid (BS.out.low l1)
   have BU1 := Lib.hid (BU.out.low l1)
   clear l1 HIN s0 s1 s2 s3 s4 s5 u0 u1
   obtain ⟨s0, s1, s2, s3, s4, s5⟩ := BS1.out.at6
   obtain ⟨u0, u1⟩ := BU1.out.at2
   rw [HS.out] at s4
   rw [HK.out] at s0
   go_wp2_with fail
   go_ret2
   exact ⟨retHo HR.out, L1.out⟩
  ·clear hn hp5
   have HR := Lib.hid (show r = (0, q) by rw [HR0.out]; simp [hk, hs])
   have HS := Lib.hid hs
   have HK := Lib.hid hk
   clear hk hs HR0 HIA HUL
   obtain ⟨U, HU, LU, ZU, BS, BU⟩ := boxes2 w [.int .i64 c.k, .string c.t, .string c.u.t, .string c.u.i, .bool c.s, .slice p c.l.length m] 50 [.string x.t, .string x.i] 23
   go_enter Tryz.func20, Tryz.ntmps20
   go_upto_region 1 with fail
   rw [← HU.out]
   clear HU
   obtain ⟨s0, s1, s2, s3, s4, s5⟩ := BS.out.at6
   obtain ⟨u0, u1⟩ := BU.out.at2
   rw [HS.out] at s4
   rw [HK.out] at s0
   go_wp2_with fail
   refine (HIN.out _ LU.out).mono ?_
   rintro e w1 ⟨rfl, l1⟩
   have L1 := Lib.hid (LU.out.trans l1)
   have BS1 := Lib.hid (BS.out.low l1)
   have BU1 := Lib.hid (BU.out.low l1)
   clear l1 HIN s0 s1 s2 s3 s4 s5 u0 u1
   obtain ⟨s0, s1, s2, s3, s4, s5⟩ := BS1.out.at6
   obtain ⟨u0, u1⟩ := BU1.out.at2
   rw [HS.out] at s4
   rw [HK.out] at s0
   go_wp2_with fail
   go_ret2
   exact ⟨retHo HR.out, L1.out⟩
  ·clear hn hp5
   have HR := Lib.hid (show r = (0, (decide (x.t = c.t))) by rw [HR0.out]; simp [hk, hs])
   have HS := Lib.hid hs
   have HK := Lib.hid hk
   have hst := str_beq x.t c.t
   clear hk hs HR0 HIA HUL
   obtain ⟨U, HU, LU, ZU, BS, BU⟩ := boxes2 w [.int .i64 c.k, .string c.t, .string c.u.t, .string c.u.i, .bool c.s, .slice p c.l.length m] 50 [.string x.t, .string x.i] 23
   go_enter Tryz.func20, Tryz.ntmps20
   go_upto_region 1 with fail
   rw [← HU.out]
   clear HU
   obtain ⟨s0, s1, s2, s3, s4, s5⟩ := BS.out.at6
   obtain ⟨u0, u1⟩ := BU.out.at2
   rw [HS.out] at s4
   rw [HK.out] at s0
   go_wp2_with fail
   refine (HIN.out _ LU.out).mono ?_
   rintro e w1 ⟨rfl, l1⟩
   have L1 := Lib.hid (LU.out.trans l1)
   have BS1 := Lib.hid (BS.out.low l1)
   have BU1 := Lib.hid (BU.out.low l1)
   clear l1 HIN s0 s1 s2 s3 s4 s5 u0 u1
   obtain ⟨s0, s1, s2, s3, s4, s5⟩ := BS1.out.at6
   obtain ⟨u0, u1⟩ := BU1.out.at2
   rw [HS.out] at s4
   rw [HK.out] at s0
   go_wp2_with fail
   go_ret2
   exact ⟨retHo (by rw [HR.out, ← hst]), L1.out⟩
  ·clear hn hp5
   have HR := Lib.hid (show r = (0, (decide (x.t = c.t) && q)) by rw [HR0.out]; simp [hk, hs])
   have HS := Lib.hid hs
   have HK := Lib.hid hk
   have hst := str_beq x.t c.t
   clear hk hs HR0 HIA HUL
   obtain ⟨U, HU, LU, ZU, BS, BU⟩ := boxes2 w [.int .i64 c.k, .string c.t, .string c.u.t, .string c.u.i, .bool c.s, .slice p c.l.length m] 50 [.string x.t, .string x.i] 23
   go_enter Tryz.func20, Tryz.ntmps20
   go_upto_region 1 with fail
   rw [← HU.out]
   clear HU
   obtain ⟨s0, s1, s2, s3, s4, s5⟩ := BS.out.at6
   obtain ⟨u0, u1⟩ := BU.out.at2
   rw [HS.out] at s4
   rw [HK.out] at s0
   go_wp2_with fail
   refine (HIN.out _ LU.out).mono ?_
   rintro e w1 ⟨rfl, l1⟩
   have L1 := Lib.hid (LU.out.trans l1)
   have BS1 := Lib.hid (BS.out.low l1)
   have BU1 := Lib.hid (BU.out.low l1)
   clear l1 HIN s0 s1 s2 s3 s4 s5 u0 u1
   obtain ⟨s0, s1, s2, s3, s4, s5⟩ := BS1.out.at6
   obtain ⟨u0, u1⟩ := BU1.out.at2
   rw [HS.out] at s4
   rw [HK.out] at s0
   by_cases ht : x.t = c.t
   ·have ht2 : (x.t.toList == c.t.toList) = true := by rw [hst]; exact decide_eq_true ht
    have HR2 := Lib.hid (show r = (0, q) by rw [HR.out, decide_eq_true ht]; rfl)
    clear ht hst
    go_wp2_with fail
    go_ret2
    exact ⟨retHo HR2.out, L1.out⟩
   ·have ht2 : (x.t.toList == c.t.toList) = false := by rw [hst]; exact decide_eq_false ht
    have HR2 := Lib.hid (show r = (0, false) by rw [HR.out, decide_eq_false ht]; rfl)
    clear ht hst
    go_wp2_with fail
    go_ret2
    exact ⟨retHo HR2.out, L1.out⟩
  ·clear hn hp5
   have HR := Lib.hid (show r = (0, (c.l.any f)) by rw [HR0.out]; simp [hk, hs])
   have HS := Lib.hid hs
   have HK := Lib.hid hk
   clear hk hs HR0
   obtain ⟨U, HU, LU, ZU, BS, BU⟩ := boxes2 w [.int .i64 c.k, .string c.t, .string c.u.t, .string c.u.i, .bool c.s, .slice p c.l.length m] 50 [.string x.t, .string x.i] 23
   go_enter Tryz.func20, Tryz.ntmps20
   go_upto_region 1 with fail
   rw [← HU.out]
   clear HU
   obtain ⟨s0, s1, s2, s3, s4, s5⟩ := BS.out.at6
   obtain ⟨u0, u1⟩ := BU.out.at2
   rw [HS.out] at s4
   rw [HK.out] at s0
   go_wp2_with fail
   refine (HIN.out _ LU.out).mono ?_
   rintro e w1 ⟨rfl, l1⟩
   have L1 := Lib.hid (LU.out.trans l1)
   have BS1 := Lib.hid (BS.out.low l1)
   have BU1 := Lib.hid (BU.out.low l1)
   clear l1 HIN s0 s1 s2 s3 s4 s5 u0 u1
   obtain ⟨s0, s1, s2, s3, s4, s5⟩ := BS1.out.at6
   obtain ⟨u0, u1⟩ := BU1.out.at2
   rw [HS.out] at s4
   rw [HK.out] at s0
   go_wp2_with fail
   clear s0 s1 s2 s3 s4 s5 u0 u1
   go_loopg [9] c.l.length (fun gk vi wr => ∃ i : Nat, vi = .int .i64 (i : Int) ∧ i ≤ c.l.length ∧ c.l.length - i ≤ gk ∧ Hid (Low w1 wr) ∧ Hid (c.l.any f = (c.l.drop i).any f))
   case atStart => exact ⟨0, rfl, Nat.zero_le _, Nat.le_refl _, Lib.hid (Low.refl _), rfl⟩
   case round =>
    obtain ⟨i, rfl, hi, hgk, G, K⟩ := hrel
    by_cases hlt : i < c.l.length
    ·have zl : (i : Int) < (c.l.length : Int) := by omega
     obtain ⟨b, o, rfl, hcs⟩ := us_at14 (UsAt.low HUL.out (L1.out.trans (G.out.trans (low_drew (Low.refl wr))))) hlt
     obtain ⟨e0, e1⟩ := cells2 hcs
     have hcs2 := cells2 ((us_at14 (UsAt.low HUL.out (L1.out.trans G.out)) hlt).elim fun b2 h => h.elim fun o2 h => by obtain ⟨h1, h2⟩ := h; simp only [Option.some.injEq, Addr.mk.injEq] at h1; obtain ⟨rfl, rfl, -⟩ := h1; exact h2)
     obtain ⟨e2, e3⟩ := hcs2
     have hst : c.l.any f = (f c.l[i] || (c.l.drop (i + 1)).any f) := by rw [K.out, List.drop_eq_getElem_cons hlt, List.any_cons]
     have HC := Lib.hid (HIA.out c.l[i] wr.drew (L1.out.trans (G.out.trans (low_drew (Low.refl wr)))))
     obtain ⟨t, ht⟩ : ∃ t, t = f c.l[i] := ⟨_, rfl⟩
     rw [← ht] at HC hst
     have HST := Lib.hid hst
     clear ht hst hcs
     have BS2 := Lib.hid (BS1.out.low G.out)
     have BU2 := Lib.hid (BU1.out.low G.out)
     obtain ⟨s0, s1, s2, s3, s4, s5⟩ := BS2.out.at6
     obtain ⟨u0, u1⟩ := BU2.out.at2
     obtain ⟨t0, t1, t2, t3, t4, t5⟩ := (BS2.out.low (low_drew (Low.refl wr))).at6
     obtain ⟨v0, v1⟩ := (BU2.out.low (low_drew (Low.refl wr))).at2
     go_upto_region 19 with fail
     go_cut [10] from 78 to 85 (fun v10 wx => v10 = .bool t ∧ Hid (Low wr wx))
     case first =>
      go_region_with (go_at_call 38; refine HC.out.mono ?_; rintro e w3 ⟨rfl, l3⟩; have L3 := Lib.hid (show Low wr w3 from (low_drew (Low.refl wr)).trans l3); clear l3 HC)
      all_goals
       go_wp2_with fail
       go_meet
       exact ⟨rfl, L3⟩
     case rest =>
      obtain ⟨rfl, LX⟩ := hcut
      rename World => wx
      clear s0 s1 s2 s3 s4 s5 u0 u1 t0 t1 t2 t3 t4 t5 v0 v1 e0 e1 e2 e3 HC
      cases t with
      | true =>
       have HR2 := Lib.hid (show r = (0, true) by rw [HR.out, HST.out]; rfl)
       go_wp2_with fail
       go_ret2
       exact ⟨retHo HR2.out, L1.out.trans (G.out.trans LX.out)⟩
      | false =>
       have HK2 := Lib.hid (show c.l.any f = (c.l.drop (i + 1)).any f by rw [HST.out]; rfl)
       go_wp2_with fail
       go_roundg (c.l.length - (i + 1))
       case measure => omega
       case rel => exact ⟨i + 1, by go_num, by omega, by omega, Lib.hid (G.out.trans LX.out), HK2⟩
    ·have zl : ¬ (i : Int) < (c.l.length : Int) := by omega
     have HR2 := Lib.hid (show r = (0, false) by rw [HR.out, K.out, List.drop_eq_nil_of_le (by omega)]; rfl)
     obtain ⟨s0, s1, s2, s3, s4, s5⟩ := (BS1.out.low G.out).at6
     go_wp2_with fail
     go_ret2
     exact ⟨retHo HR2.out, L1.out.trans G.out⟩
end Go.Proofs.YtnchohglplobeaaGreat
namespace Go.Proofs.YtnchohglplobeaaGreat
open Go.RowKit Go.Sort Go.Maps
theorem few_sm14 {l : List En} (h20 : l.length ≤ 20) (h : ∀ e ∈ l, SmE9 e) : FewE l := ⟨by omega, fun e he => by have := (h e he).2.2; omega⟩
theorem inBh_nil (a b : Us) : inBh [] a b = decide (a = b) := by
 have h : inBh [] a b = true ↔ a = b := by
  rw [inB_iff]
  refine ⟨fun h => ?_, fun h => .inl h⟩
  rcases h with h | h
  ·exact h
  ·exfalso
   cases h with
   | one h => exact absurd h.1 (by simp [namesE])
   | more _ h => exact absurd h.1 (by simp [namesE])
 by_cases e : a = b
 ·rw [decide_eq_true e]; exact h.2 e
 ·rw [decide_eq_false e]
  cases q : inBh [] a b with
  | true => exact absurd (h.1 q) e
  | false => rfl
theorem good_nil : GoodC ([] : List En) where
 closed := by intro e he; cases he
 ring := fun ⟨x, h⟩ => by
  cases h with
  | one h => exact absurd h.1 (by simp [namesE])
  | more _ h => exact absurd h.1 (by simp [namesE])
 rises := by simp [Rises]
 len := by simp
 few := fun e he => by cases he
 sm := fun e he => by cases he
set_option maxRecDepth 100000 in
set_option maxHeartbeats 4000000 in
theorem evalScopes_v (c : Sc) (x : Us) (qs : List Ee) (w : World) (p : Option Addr) (m : Nat) (r0 : Value) (hl : UsAt w (.slice p c.l.length m) c.l) (hq : EtAt w r0 qs) : Calls Tryz.prog 5 #[.agg #[.int .i64 c.k, .string c.t, .string c.u.t, .string c.u.i, .bool c.s, .slice p c.l.length m], .agg #[.string x.t, .string x.i], r0] w fun e w' => e = .returned (.bool true) ∧ Low w w' := by
 have HE := Lib.hid hq
 have HL := Lib.hid hl
 obtain ⟨ra, rc, rfl, -, -⟩ := EtAt.at hq
 obtain ⟨_, _, _, ⟨z1, z2⟩, _⟩ := id hl
 clear hl hq
 obtain ⟨U, HU, LU, ZU, BS, BU⟩ := boxes2 w [.int .i64 c.k, .string c.t, .string c.u.t, .string c.u.i, .bool c.s, .slice p c.l.length m] 50 [.string x.t, .string x.i] 23
 go_enter Tryz.func5, Tryz.ntmps5
 go_upto_region 1 with fail
 rw [← HU.out]
 clear HU
 go_wp2_with fail
 refine (awake14_c _).mono ?_
 rintro e w1 ⟨rfl, l1⟩
 have L1 := Lib.hid (LU.out.trans l1)
 have BS1 := Lib.hid (BS.out.low l1)
 have BU1 := Lib.hid (BU.out.low l1)
 have CR := Lib.hid (crowd_c qs w1 _ (HE.out.low L1.out))
 clear l1 BS BU
 go_wp2_with fail
 refine CR.out.mono ?_
 rintro e w2 ⟨b, rfl, hb, g⟩
 have L2 := Lib.hid (L1.out.trans g.low)
 have BS2 := Lib.hid (BS1.out.low g.low)
 have BU2 := Lib.hid (BU1.out.low g.low)
 have HP := Lib.hid hb
 clear hb g CR BS1 BU1
 obtain ⟨s0, s1, s2, s3, s4, s5⟩ := BS2.out.at6
 rcases b with _ | _
 ·go_wp2_with fail
  go_ret
  exact ⟨rfl, L2.out⟩
 by_cases h20 : (20 : Int) < (c.l.length : Int)
 ·go_wp2_with fail
  go_ret
  exact ⟨rfl, L2.out⟩
 have hq20 := (HP.out rfl).1
 have hsm := (HP.out rfl).2
 have HSM := Lib.hid (show ∀ e ∈ ensOf qs, SmE9 e from fun e he => by unfold ensOf at he; obtain ⟨q, hq, rfl⟩ := List.mem_map.1 he; exact hsm q hq)
 have H20 := Lib.hid (show (ensOf qs).length ≤ 20 by unfold ensOf; rwa [List.length_map])
 have HDP := Lib.hid (show ∀ q ∈ qs, Smv q.e.a ∧ dep q.e.a ≤ 1000000 from fun q hq => ⟨(hsm q hq).1, by have := (hsm q hq).2.1; omega⟩)
 have CC := Lib.hid (load_c qs w2 _ (HE.out.low L2.out) (few_sm14 H20.out HSM.out) fun q hq => (hsm q hq).1)
 clear HP hsm hq20
 obtain ⟨c1, res1, hres⟩ : ∃ c1 res1, canE canD (ensOf qs) = (c1, res1) := ⟨_, _, rfl⟩
 rw [hres] at CC
 have HR1 := Lib.hid hres
 have HRC := Lib.hid fun W (l : Low w W) => rcanE_c qs W _ (HE.out.low l) (few_sm14 H20.out HSM.out) (fun q hq => (HDP.out q hq).1) (fun q hq => (HDP.out q hq).2)
 rw [hres] at HRC
 clear hres
 go_wp2_with fail
 refine CC.out.mono ?_
 rintro e w3 (⟨h0, rfl, l3⟩ | ⟨h0, z, rs, rfl, l3, hrs, hs, hma⟩)
 ·have L3 := Lib.hid (L2.out.trans l3)
  have BS3 := Lib.hid (BS2.out.low l3)
  have BU3 := Lib.hid (BU2.out.low l3)
  have HZ := Lib.hid (show res1 = [] by
   have h2 : canE canD (ensOf qs) = (c1, res1) := HR1.out
   unfold canE at h2
   by_cases k1 : 4096 < (ensOf qs).length
   ·rw [if_pos k1] at h2; exact (Prod.mk.inj h2).2.symm
   ·rw [if_neg k1] at h2
    by_cases k2 : (namesE (ensOf qs)).Nodup
    ·rw [if_pos k2] at h2
     by_cases k3 : errL canD (namesE (ensOf qs)) (ensOf qs) = 0
     ·rw [if_pos k3] at h2
      by_cases k4 : RoundE (ensOf qs)
      ·rw [if_pos k4] at h2; exact (Prod.mk.inj h2).2.symm
      ·rw [if_neg k4] at h2; exact absurd (Prod.mk.inj h2).1.symm h0
     ·rw [if_neg k3] at h2; exact (Prod.mk.inj h2).2.symm
    ·rw [if_neg k2] at h2; exact (Prod.mk.inj h2).2.symm)
  have RC := Lib.hid (HRC.out w3 L3.out)
  clear CC l3 h0 HRC BS2 BU2 s0 s1 s2 s3 s4 s5
  go_wp2_with fail
  refine RC.out.mono ?_
  rintro e w4 ⟨v4, rfl, l4, ws, hws, het⟩
  have hws0 : ensOf ws = [] := by rw [show ensOf ws = res1 from hws]; exact HZ.out
  have L4 := Lib.hid (L3.out.trans l4)
  have BS4 := Lib.hid (BS3.out.low l4)
  have BU4 := Lib.hid (BU3.out.low l4)
  have HH := Lib.hid (holds14_c (X := none) c x w4 p m (HL.out.low L4.out) trivial)
  have HRH := Lib.hid fun W (l : Low w4 W) => rholds14_c ws c x W p m v4 (HL.out.low (L4.out.trans l)) (het.low l) (by rw [hws0]; exact good_nil)
  have hfn : (fun a b : Us => inBh (ensOf ws) a b) = Sx.isIn none := by funext a b; rw [hws0, inBh_nil]; rfl
  rw [show inBh (ensOf ws) = Sx.isIn none from hfn] at HRH
  unfold HoP at HH
  generalize holdsS (Sx.isIn none) c x = r at HH HRH
  clear l4 hws het hws0 hfn RC BS3 BU3
  obtain ⟨s0, s1, s2, s3, s4, s5⟩ := BS4.out.at6
  obtain ⟨u0, u1⟩ := BU4.out.at2
  go_wp2_with fail
  refine HH.out.mono ?_
  rintro e w5 ⟨rfl, g5⟩
  have L5 := Lib.hid (show Low w4 w5 from g5.lo)
  have HR5 := Lib.hid (HRH.out w5 L5.out)
  clear s0 s1 s2 s3 s4 s5 u0 u1 g5 HH HRH
  obtain ⟨s0, s1, s2, s3, s4, s5⟩ := (BS4.out.low L5.out).at6
  obtain ⟨u0, u1⟩ := (BU4.out.low L5.out).at2
  go_wp2_with fail
  refine HR5.out.mono ?_
  rintro e w6 ⟨rfl, l6⟩
  have L6 := Lib.hid l6
  clear l6 HR5 s0 s1 s2 s3 s4 s5 u0 u1
  go_wp2_with fail
  go_ret
  exact ⟨by simp, L4.out.trans (L5.out.trans L6.out)⟩
 ·have L3 := Lib.hid (L2.out.trans l3)
  have BS3 := Lib.hid (BS2.out.low l3)
  have BU3 := Lib.hid (BU2.out.low l3)
  have HG := Lib.hid (show GoodC res1 by
   have h1 := good_can (l := ensOf qs) (by rw [HR1.out]; exact h0) H20.out HSM.out
   rwa [HR1.out] at h1)
  have HRS := Lib.hid hrs
  have HS := Lib.hid hs
  have HMA := Lib.hid (Nat.le_trans L2.out.size hma)
  have RC := Lib.hid (HRC.out w3 L3.out)
  clear CC l3 h0 HRC BS2 BU2 s0 s1 s2 s3 s4 s5 hrs hs hma
  go_wp2_with fail
  refine RC.out.mono ?_
  rintro e w4 ⟨v4, rfl, l4, ws, hws, het⟩
  have hws0 : ensOf ws = ensOf rs := by rw [show ensOf ws = res1 from hws, show ensOf rs = res1 from HRS.out]
  have hgr : GoodC (ensOf rs) := by rw [show ensOf rs = res1 from HRS.out]; exact HG.out
  have L4 := Lib.hid (L3.out.trans l4)
  have BS4 := Lib.hid (BS3.out.low l4)
  have BU4 := Lib.hid (BU3.out.low l4)
  have hX4 : Sx.at (some (z, rs)) w4 := ⟨HS.out.low l4, hgr⟩
  have HH := Lib.hid (holds14_c (X := some (z, rs)) c x w4 p m (HL.out.low L4.out) hX4)
  have HRH := Lib.hid fun W (l : Lo (some z.ma) w4 W) (hw : Low w W) => rholds14_c ws c x W p m v4 (HL.out.low hw) (EtAt.lw l het) (by rw [hws0]; exact hgr)
  rw [hws0] at HRH
  unfold HoP at HH
  have hfn : Sx.isIn (some (z, rs)) = inBh (ensOf rs) := rfl
  rw [hfn] at HH
  generalize holdsS (inBh (ensOf rs)) c x = r at HH HRH
  clear l4 hws het hws0 hfn RC BS3 BU3 hX4 hgr
  obtain ⟨s0, s1, s2, s3, s4, s5⟩ := BS4.out.at6
  obtain ⟨u0, u1⟩ := BU4.out.at2
  go_wp2_with fail
  refine HH.out.mono ?_
  rintro e w5 ⟨rfl, g5⟩
  have LX := Lib.hid g5.lo
  have L5 := Lib.hid (show Low w w5 from Lw.low L4.out g5.lo HMA.out)
  have HR5 := Lib.hid (HRH.out w5 g5.lo L5.out)
  clear s0 s1 s2 s3 s4 s5 u0 u1 g5 HH HRH
  obtain ⟨s0, s1, s2, s3, s4, s5⟩ := (BS4.out.lo LX.out (by simp)).at6
  obtain ⟨u0, u1⟩ := (BU4.out.lo LX.out (by simp)).at2
  go_wp2_with fail
  refine HR5.out.mono ?_
  rintro e w6 ⟨rfl, l6⟩
  have L6 := Lib.hid l6
  clear l6 HR5 s0 s1 s2 s3 s4 s5 u0 u1
  go_wp2_with fail
  go_ret
  exact ⟨by simp, L5.out.trans L6.out⟩
end Go.Proofs.YtnchohglplobeaaGreat
namespace Go.Proofs.YtnchohglplobeaaGreat
open Go.RowKit Go.ChangeShapes Go.WideShapes Go.Deep
variable {H : Type} {enc : TypeId × Value → H} {w : World} {spare : Nat → Bool} {held : Bool}
set_option maxRecDepth 100000 in
theorem open_uid {r : Reach} {base : Nat} {v : Value} {d : DataW H} {p : List MemPlace} (hv : Value.okWide Tryz.prog w r base 23 v) (h : DataW.Trod enc Tryz.prog w 0 spare held 23 v d p) : ∃ u : Us, v = .agg #[.string u.t, .string u.i] := by
 obtain ⟨cs, rfl, -⟩ := okWide_struct Tryz.underlying23 hv
 obtain ⟨fuel, hf⟩ := h
 obtain ⟨xs, n, -, -, hlen, -, -⟩ := DataW.trod_struct Tryz.underlying23 hf
 rw [cof23] at hlen
 have hl : cs.toList.length = 2 := by simpa [Value.cells] using hlen
 have hf2 : DataW.trod enc Tryz.prog w 0 spare held fuel 23 cs.toList = some (d, p) := by simpa [Value.cells] using hf
 match hcs : cs.toList, hl with
 | [c0, c1], _ =>
  rw [hcs] at hf2
  obtain ⟨u, hu⟩ := trod_uid hf2
  refine ⟨u, ?_⟩
  have : cs = u.cs.toArray := by rw [← hu, ← hcs]
  rw [this]; rfl
end Go.Proofs.YtnchohglplobeaaGreat
namespace Go.Proofs.YtnchohglplobeaaGreat.evalScopes
open Go.ChangeShapes Go.WideShapes Go.ChangeAt Go.RowKit
open Go.ChangeMaps (open_string shut_string)
theorem own : ownKnob Tryz.prog.godebug = none := by kernel_rfl
theorem laidOut : laidOutB Tryz.prog = true := by kernel_rfl
set_option maxRecDepth 100000 in
theorem lifted (os : Os) (started : os.Started) (H : Type) (enc : TypeId × Value → H) :
  ReturnsInHanded {} Tryz.checked os 5 .any (Rows.evalScopesSpec.pre6 enc Tryz.prog Tryz.f5 Rows.evalScopesRow.domain false) (Rows.evalScopesSpec.post enc Tryz.prog Tryz.f5 false true false false) := by
 refine returnsInHanded_of_change (C := Tryz.checked) own started (by kernel_rfl) Tryz.func5
  (ChangeSpec.witness6 (enc := enc) (C := Tryz.checked) false ⟨#[], #[.agg #[.int .i64 0, .string ByteArray.empty, .string ByteArray.empty, .string ByteArray.empty, .bool false, .slice none 0 0], .agg #[.string ByteArray.empty, .string ByteArray.empty], .slice none 0 0], []⟩ 8 (by kernel_rfl) (by kernel_rfl) (by kernel_rfl) (by kernel_rfl)) ?_
 intro W base args ds gs before hval0 hW hcnd _
 have hval : ∀ (j : Nat) t v, Tryz.f5.params[j]? = some t → args[j]? = some v → Value.okWide Tryz.prog W .any base t v := hval0
 have hW' := hW
 obtain ⟨p, q, hA0, hV, rfl, hfz, hnd⟩ := hW
 have hA : DataW.TrodAll enc Tryz.prog W 0 (fun _ => true) true Tryz.f5.params.toList args.toList ds p := hA0
 rw [Tryz.params5] at hA hval
 obtain ⟨v0, vs0, d0, ds0, p0, q0, hargs, rfl, rfl, h0, r0⟩ := trodAll_cons hA
 obtain ⟨v1, vs1, d1, ds1, p1, q1, rfl, rfl, rfl, h1, r1⟩ := trodAll_cons r0
 obtain ⟨v2, vs2, d2, ds2, p2, q2, rfl, rfl, rfl, h2, r2⟩ := trodAll_cons r1
 obtain ⟨rfl, rfl, rfl⟩ := trodAll_nil r2
 obtain rfl : args = #[v0, v1, v2] := by cases args; simp_all
 obtain ⟨rfl, rfl⟩ := trodVars_none hV
 have k0 := h0
 have k1 := h1
 have k2 := h2
 obtain ⟨c0, e0, m0, rfl, w0⟩ := open_scope (hval 0 50 v0 rfl rfl) h0
 obtain ⟨u1, rfl⟩ := open_uid (hval 1 23 v1 rfl rfl) h1
 obtain ⟨x2, w2⟩ := open_ents (hval 2 33 v2 rfl rfl) h2
 clear hA0 hval0
 refine (evalScopes_v c0 u1 x2 W e0 m0 v2 w0 w2).mono fun e W' ⟨he, hg⟩ => ?_
 subst he
 have hlt := hW'.lt
 exact ⟨_, rfl, post_of_low (pv := []) hW' (fun _ _ _ => (trodAll_cons_mk (shut_bool Tryz.underlying4 _) trodAll_mk0)) (fun sp hs => (trodAll_cons_mk (WideElems.Trod_stays laidOut (by kernel_rfl) (of_decide_eq_true (by kernel_rfl)) k0 (fun x hx => hg.same (hlt x (by simp [hx]))) (fun x hx => hs x (by simp [hx]))) (trodAll_cons_mk (WideElems.Trod_stays laidOut (by kernel_rfl) (of_decide_eq_true (by kernel_rfl)) k1 (fun x hx => hg.same (hlt x (by simp [hx]))) (fun x hx => hs x (by simp [hx]))) (trodAll_cons_mk (WideElems.Trod_stays laidOut (by kernel_rfl) (of_decide_eq_true (by kernel_rfl)) k2 (fun x hx => hg.same (hlt x (by simp [hx]))) (fun x hx => hs x (by simp [hx]))) trodAll_mk0)))) (fun _ _ => rfl) rfl
  hg (ok_one (by kernel_rfl) rfl (okWide_bool_mk Tryz.underlying4 _))⟩
theorem over : Rows.evalScopesRow.holds Tryz.pinned (OpenSpec.ofChange Rows.evalScopesSpec) :=
 OpenClaim.holds_of_wide 5 Tryz.f5 rfl rfl rfl rfl rfl rfl rfl ⟨rfl, rfl, rfl, rfl, rfl⟩ rfl rfl rfl rfl rfl (by kernel_rfl) Tryz.func5 (by kernel_rfl)
  (of_decide_eq_true (by kernel_rfl)) (by unfold Func.isWrapper; first | (rw [if_pos (by decide +kernel)]; kernel_rfl) | (rw [if_neg (by decide +kernel)]; exact ⟨rfl, rfl⟩))
  (fun os started H enc _ => lifted os started H enc)
theorem proved : Rows.EvalScopesSaid := over
#print axioms proved
end Go.Proofs.YtnchohglplobeaaGreat.evalScopes
