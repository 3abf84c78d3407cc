/- A record has just the attributes that it was given: one half. No condition. -/
import Derived.Test.YtdblkjcimegoeaaRecsH
namespace Go.Proofs.Ytdblkjcimegoeaa
open Go.RowKit Go.Sort
set_option maxHeartbeats 8000000 in
set_option maxRecDepth 100000 in
theorem valueRecords_z (ns : List ByteArray) (zs : List Int) (w : World) (v0 v1 : Value) (hn : Na w ns v0) (hz : Nu w zs v1) (hcmp : (zs.length : Int) < (ns.length : Int)) :
    Calls Try.prog 3 #[v0, v1] w fun e w' => e = .returned (.bool true) ∧ Low w w' := by
  obtain ⟨nao, ncap, rfl, hn1, hn2, hn3⟩ := hn
  obtain ⟨zao, zcap, rfl, hz1, hz2, hz3⟩ := hz
  have HN2 := Lib.hid hn2
  have HN3 := Lib.hid hn3
  have HZ2 := Lib.hid hz2
  have HZ3 := Lib.hid hz3
  clear hn2 hn3 hz2 hz3
  go_enter Try.func3, Try.ntmps3
  go_wp2_with fail
  refine (awake_c _).mono ?_
  rintro e w1 ⟨rfl, l1⟩
  have L1 := Lib.hid l1
  clear l1
  by_cases h15 : (15 : Int) < (zs.length : Int)
  · go_wp2_with fail
    go_ret
    exact ⟨rfl, L1.out⟩
  have hm15 : zs.length ≤ 15 := by omega
  obtain ⟨W0, hW0⟩ : ∃ W, W = w1.alloc (.cells #[.int .i64 6, .bool false, .int .i64 0, .string ⟨#[]⟩, .string ⟨#[]⟩, .string ⟨#[]⟩, .slice none 0 0, .slice none 0 0] 29) := ⟨_, rfl⟩
  have RS0 : Hid (RSt W0 w1.heap.size W0 (.slice none 0 0) (.slice none 0 0) [] []) := Lib.hid ⟨by rw [hW0]; exact rec_new w1 _, OwnR.nil _ _ _ _ _, OwnR.nil _ _ _ _ _, by rw [hW0]; simp, KeptBut.refl _ _⟩
  have L0 : Hid (Low w1 W0) := Lib.hid (hW0 ▸ Low.alloc (Low.refl w1) _)
  go_wp2_with fail
  rw [← hW0]
  clear hW0
  go_loopg [8, 9] (zs.length) (fun gk vt vi wr => ∃ (i : Nat) (a b : Value), vt = .bool (dupB ns i) ∧ vi = .int .i64 (i : Int) ∧ i ≤ zs.length ∧ zs.length - i ≤ gk ∧ Hid (RSt W0 w1.heap.size wr a b ((zs.take i).map elZ) (ns.take i)))
  case atStart => exact ⟨0, _, _, by rw [dupB_zero], rfl, Nat.zero_le _, Nat.le_refl _, RS0⟩
  case round =>
    obtain ⟨i, a, b, rfl, rfl, hi, hg, RS⟩ := hrel
    by_cases hlt : i < zs.length
    · have z1 : (i : Int) < (zs.length : Int) := by omega
      have hin : i < ns.length := by omega
      have hiz : i < zs.length := by omega
      rcases HN3.out with hn0 | ⟨nb, no, rfl, -, hnc⟩
      · rw [hn0] at hin; simp at hin
      rcases HZ3.out with hz0 | ⟨zb, zo, rfl, hzc⟩
      · rw [hz0] at hiz; simp at hiz
      have zin : (i : Int) < (ns.length : Int) := by omega
      have ziz : (i : Int) < (zs.length : Int) := by omega
      obtain ⟨nx, hnx⟩ : ∃ nx, nx = ns[i] := ⟨_, rfl⟩
      obtain ⟨z, hzx⟩ : ∃ z, z = zs[i] := ⟨_, rfl⟩
      have HNX := Lib.hid hnx
      have HZX := Lib.hid hzx
      have LK : Hid (KeptBut w wr (some w1.heap.size)) := Lib.hid ((KeptBut.of_low (L1.out.trans L0.out)).trans RS.out.kept)
      have wlt : ∀ {c} {o : Nat} {u : Value}, w.cell? ⟨c, o, none⟩ = some u → some c ≠ some w1.heap.size := fun {c o u} h e => by
        have h1 := L1.out.size
        have h2 : c < w.heap.size := by
          unfold World.cell? at h
          by_cases h3 : c < w.heap.size
          · exact h3
          · have : w.heap[c]? = none := Array.getElem?_eq_none (by omega)
            simp [this] at h
        simp at e
        omega
      have NC := Lib.hid (fun j (hj : j < ns.length) => LK.out.cellAt (hnc j hj) (wlt (hnc j hj)))
      have ZC := Lib.hid (fun j (hj : j < zs.length) => LK.out.cellAt (hzc j hj) (wlt (hzc j hj)))
      have ZG := Lib.hid (fun W (K : KeptBut W0 W (some w1.heap.size)) => (by have h := ((KeptBut.of_low (L1.out.trans L0.out)).trans K).cellAt (hzc i hiz) (wlt (hzc i hiz)); rwa [← hzx] at h : W.cell? ⟨zb, zo + i, none⟩ = some (.int .i64 z)))
      clear hnx hzx hnc hzc wlt
      go_wp2_with fail
      go_loopg [8, 10] i (fun gk vt vk wr2 => ∃ k : Nat, vt = .bool (dupB ns i || (ns.take k).any fun y => decide (y = nx)) ∧ vk = .int .i64 (k : Int) ∧ k ≤ i ∧ i - k ≤ gk ∧ Hid (Low wr wr2))
      case atStart => exact ⟨0, by simp, rfl, Nat.zero_le _, Nat.le_refl _, Lib.hid (Low.refl _)⟩
      case round =>
        obtain ⟨k, rfl, rfl, hk, hkg, LR⟩ := hrel
        have cni : wr.cell? ⟨nb, no + i, none⟩ = some (.string nx) := by have h := LR.out.keep (NC.out i hin); rwa [← HNX.out] at h
        by_cases hki : k < i
        · have z2 : (k : Int) < (i : Int) := by omega
          have hkn : k < ns.length := by omega
          have zkn : (k : Int) < (ns.length : Int) := by omega
          have hat := any_take hkn nx
          generalize ((ns.take k).any fun y => decide (y = nx)) = tk at hat ⊢
          obtain ⟨q, hq⟩ : ∃ q, q = ns[k] := ⟨_, rfl⟩
          have cnk : wr.cell? ⟨nb, no + k, none⟩ = some (.string q) := by have h := LR.out.keep (NC.out k hkn); rwa [← hq] at h
          rw [← hq] at hat
          have HAT := Lib.hid hat
          clear hat hq
          cases hd : (dupB ns i || tk) with
          | true =>
            have HD := Lib.hid hd
            clear hd
            go_wp2_with fail
            go_quiet (fail)
            go_wp2_with fail
            go_roundg (i - (k + 1))
            case measure => omega
            case rel => exact ⟨k + 1, by rw [HAT.out, ← Bool.or_assoc, HD.out]; rfl, by go_num, by omega, by omega, Lib.hid (LR.out.trans (Low.drewN _ _))⟩
          | false =>
            have HD := Lib.hid hd
            clear hd
            by_cases he : q = nx
            · subst he
              go_wp2_with fail
              go_quiet (fail)
              go_wp2_with fail
              go_roundg (i - (k + 1))
              case measure => omega
              case rel => exact ⟨k + 1, by rw [HAT.out, ← Bool.or_assoc, HD.out]; simp, by go_num, by omega, by omega, Lib.hid (LR.out.trans (Low.drewN _ _))⟩
            · have hnt : ¬ q.toList = nx.toList := fun h => he (tl_inj.1 h)
              have hnb : (q.toList == nx.toList) = false := by simpa using hnt
              have heb : decide (q = nx) = false := decide_eq_false he
              have HEB := Lib.hid heb
              clear he heb hnt
              go_wp2_with fail
              go_quiet (fail)
              go_wp2_with fail
              go_roundg (i - (k + 1))
              case measure => omega
              case rel => exact ⟨k + 1, by rw [HAT.out, ← Bool.or_assoc, HD.out, HEB.out]; rfl, by go_num, by omega, by omega, Lib.hid (LR.out.trans (Low.drewN _ _))⟩
        · have z2 : ¬ (k : Int) < (i : Int) := by omega
          have hki2 : i = k := by omega
          subst hki2
          have hds := dupB_succ hin
          rw [← HNX.out] at hds
          rw [← hds]
          have RS2 := Lib.hid (RS.out.grow LR.out)
          clear RS hds
          have hxz : (zs.take (i + 1)).map elZ = (zs.take i).map elZ ++ [elZ z] := by rw [List.take_succ_eq_append_getElem hiz, List.map_append, ← HZX.out]; rfl
          have hyz : ns.take (i + 1) = ns.take i ++ [nx] := by rw [List.take_succ_eq_append_getElem hin, ← HNX.out]
          have HXZ := Lib.hid hxz
          have HYZ := Lib.hid hyz
          have zxl : ((zs.take i).map elZ).length ≤ 20 := by rw [List.length_map, List.length_take]; omega
          have zyl : (ns.take i).length ≤ 20 := by rw [List.length_take]; omega
          have ZXL := Lib.hid zxl
          have ZYL := Lib.hid zyl
          have czi : wr.cell? ⟨zb, zo + i, none⟩ = some (.int .i64 z) := by have h := LR.out.keep (ZC.out i hiz); rwa [← HZX.out] at h
          have CZI := Lib.hid czi
          have c7 : wr.cell? ⟨w1.heap.size, 7, none⟩ = some b := RS2.out.rec'.facts.1.2.2.2.2.2.2.2
          have c7b : ∀ X, (wr.alloc X).cell? ⟨w1.heap.size, 7, none⟩ = some b := fun X => (RS2.out.grow (Low.alloc (Low.refl _) X)).rec'.facts.1.2.2.2.2.2.2.2
          have zsz : W0.heap.size ≤ wr.heap.size := RS2.out.kept.2.2.1
          have ZSZ := Lib.hid zsz
          clear hxz hyz zxl zyl czi zsz
          go_wp2_with fail
          go_region_law (refine ownR_step rfl _ _ _ rfl Try.underlying22 n_info rfl (by decide) (by decide) encN_len encN_one W0.heap.size b (ns.take i) rfl (RS2.out.grow (Gr.drew (Gr.alloc (Gr.refl wr) _)).low).nms nx ⟨wr.heap.size, 0, none⟩ 1 rfl (fun j u hj => newcell_at _ _ _ _ _ rfl hj) (by have := ZYL.out; omega) (by have := ZSZ.out; simp; omega) ?_; intro b2 w2 h2 bl k2; obtain ⟨ao2, cp2, hv2, -, -, -⟩ := OwnR.shape h2; obtain ⟨n2, hn2⟩ : ∃ n, n = (ns.take i ++ [nx]).length := ⟨_, rfl⟩; rw [← hn2] at hv2; clear hn2; subst hv2; obtain ⟨r2, st2⟩ := names_put (RS2.out.grow (Gr.drew (Gr.alloc (Gr.refl wr) _)).low) h2 bl k2; have f7 := r2.facts.1.2.2.2.2.2.2.2; have fz7 := r2.facts.2.2; have ST2 := Lib.hid st2; clear h2 bl k2 r2 st2)
          all_goals
            obtain ⟨WN, hWN⟩ : ∃ W, W = w2.setCell ⟨w1.heap.size, 7, none⟩ (.slice ao2 n2 cp2) := ⟨_, rfl⟩
            rw [← hWN] at ST2 ⊢
            clear hWN c7 c7b f7 fz7 cni
            have c6 : WN.cell? ⟨w1.heap.size, 6, none⟩ = some a := ST2.out.rec'.facts.1.2.2.2.2.2.2.1
            have czi := ZG.out WN ST2.out.kept
            have HC6 := Lib.hid c6
            go_wp2_with fail
            go_region_law (first
              | (refine ownR_step rfl _ _ _ rfl Try.underlying27 v_info rfl (by decide) (by decide) encV_len encV_one W0.heap.size a ((zs.take i).map elZ) rfl (ST3.out.grow (Low.alloc (Low.refl w3) _)).its (elZ z) ⟨w3.heap.size, 0, none⟩ 1 rfl (fun j u hj => newcell_at _ _ _ _ _ rfl hj) (by have := ZXL.out; omega) (by have := ZS3.out; simp; omega) ?_; intro a2 w4 h2 bl k2; obtain ⟨ao4, cp4, hv4, -, -, -⟩ := OwnR.shape h2; obtain ⟨n4, hn4⟩ : ∃ n, n = ((zs.take i).map elZ ++ [elZ z]).length := ⟨_, rfl⟩; rw [← hn4] at hv4; clear hn4; subst hv4; obtain ⟨r4, st4⟩ := items_put (ST3.out.grow (Low.alloc (Low.refl w3) _)) h2 bl k2; have f6 := r4.facts.1.2.2.2.2.2.2.1; have fz6 := r4.facts.2.1; have ST4 := Lib.hid st4; clear h2 bl k2 r4 st4)
              | (go_simp; go_at_call 5; refine (num_c z _).mono ?_; rintro e w3 ⟨rfl, g⟩; have ST3 := Lib.hid (ST2.out.grow ((Gr.drew (Gr.refl WN)).low.trans g.low)); have ZS3 := Lib.hid ST3.out.kept.2.2.1; have c63 : w3.cell? ⟨w1.heap.size, 6, none⟩ = some a := ST3.out.rec'.facts.1.2.2.2.2.2.2.1; have c64 : ∀ X, (w3.alloc X).cell? ⟨w1.heap.size, 6, none⟩ = some a := fun X => (ST3.out.grow (Low.alloc (Low.refl w3) X)).rec'.facts.1.2.2.2.2.2.2.1; clear g))
            all_goals
              go_wp2_with fail
              go_roundg (zs.length - (i + 1))
              case measure => omega
              case rel => exact ⟨i + 1, _, _, rfl, by go_num, by omega, by omega, Lib.hid (by rw [HXZ.out, HYZ.out]; exact ST4.out)⟩
    · have z1 : ¬ (i : Int) < (zs.length : Int) := by omega
      have hie : i = zs.length := by omega
      subst hie
      have LW := Lib.hid ((L1.out.trans L0.out).kept RS.out.kept fun g hg => by have := L1.out.size; simp at hg; omega)
      obtain ⟨ns', hns'⟩ : ∃ l, l = ns.take (zs.length) := ⟨_, rfl⟩
      obtain ⟨zs', hzs'⟩ : ∃ l, l = zs.take (zs.length) := ⟨_, rfl⟩
      have hnl : ns'.length = zs.length := by rw [hns', List.length_take]; omega
      have hzl : zs'.length = zs.length := by rw [hzs', List.length_take]; omega
      have hdup : dupB ns (zs.length) = !decide ns'.Nodup := by rw [hns']; rfl
      have hrec : R wr (recV ns' zs') a b := by
        rw [hns', hzs']
        exact r_rec RS.out.its RS.out.nms fun x hx => HN2.out x (List.mem_of_mem_take hx)
      have hsm : Sm (recV ns' zs') := by
        rw [sm_v]
        refine ⟨by show (zs'.map nV).length ≤ 70000; rw [List.length_map]; omega, by show ns'.length ≤ 70000; omega, fun x hx => ?_⟩
        obtain ⟨z, -, rfl⟩ := List.mem_map.1 (show x ∈ zs'.map nV from hx)
        simp [nV, Sm, SmL]
      have CN := Canon_c (recV ns' zs') wr a b hrec hsm
      rw [canD_rec (by omega) (by omega)] at CN
      have HNL := Lib.hid hnl
      have HZL := Lib.hid hzl
      have HNS := Lib.hid hns'
      have HZS := Lib.hid hzs'
      obtain ⟨c0, c1, c2, c3, c4, c5, c6, c7⟩ := RS.out.rec'.facts.1
      rw [hdup]
      clear hrec hsm hnl hzl hns' hzs' hdup
      by_cases hnd : ns'.Nodup
      · have hdt : decide ns'.Nodup = true := decide_eq_true hnd
        obtain ⟨fs, hfc, hfl, hfr, hfm⟩ := rec_is hnd (show ns'.length = zs'.length by rw [HNL.out, HZL.out])
        rw [hfc] at CN
        obtain ⟨cv, hcv⟩ : ∃ cv, cv = V.mk { hd0 with k := 6 } (fs.map (·.2)) (fs.map (·.1)) := ⟨_, rfl⟩
        rw [← hcv] at CN
        change Calls _ _ _ _ (CanPost cv 0 _) at CN
        have hne : ((cv.ns.length : Int) != (zs.length : Int)) = false := by
          have h1 : cv.ns.length = zs.length := by rw [hcv]; show (fs.map (·.1)).length = _; rw [List.length_map, hfl, HNL.out]
          simp
          omega
        have HCV := Lib.hid hcv
        have HFR := Lib.hid hfr
        have HFM := Lib.hid hfm
        have HFL := Lib.hid hfl
        have HCN := Lib.hid CN
        rw [hdt]
        clear hfc hcv hfr hfm hfl hdt hnd CN
        go_wp2_with fail
        refine HCN.out.mono ?_
        rintro e w5 ⟨cai, cci, can, ccn, rfl, hrep, g⟩
        obtain ⟨WC, hWC⟩ : ∃ W, W = w5.alloc (.cells #[.int .i64 cv.h.k, .bool cv.h.b, .int .i64 cv.h.n, .string cv.h.s, .string cv.h.t, .string cv.h.i, .slice cai cv.l.length cci, .slice can cv.ns.length ccn] 29) := ⟨_, rfl⟩
        have LC : Hid (Low (w5.alloc (.cells #[.int .i64 cv.h.k, .bool cv.h.b, .int .i64 cv.h.n, .string cv.h.s, .string cv.h.t, .string cv.h.i, .slice cai cv.l.length cci, .slice can cv.ns.length ccn] 29)) WC) := Lib.hid (hWC ▸ Low.refl _)
        have LWC : Hid (Low w WC) := Lib.hid ((LW.out.trans g).trans (hWC ▸ Low.alloc (Low.refl w5) _))
        have RC : Hid (R WC cv (.slice cai cv.l.length cci) (.slice can cv.ns.length ccn)) := Lib.hid (hrep.any.low (hWC ▸ Low.alloc (Low.refl w5) _))
        clear hrep g HCN c0 c1 c2 c3 c4 c5 c6 c7
        go_wp2_with fail
        rw [← hWC]
        clear hWC hne
        go_loopg [13] (zs.length) (fun gk vi wr => ∃ i : Nat, vi = .int .i64 (i : Int) ∧ i ≤ zs.length ∧ zs.length - i ≤ gk ∧ Hid (Low WC wr))
        case atStart => exact ⟨0, rfl, Nat.zero_le _, Nat.le_refl _, Lib.hid (Low.refl _)⟩
        case round =>
          obtain ⟨i, rfl, hi, hg, LR⟩ := hrel
          by_cases hlt : i < zs.length
          · have z1 : (i : Int) < (zs.length : Int) := by omega
            have hin : i < ns.length := by omega
            have hiz : i < zs.length := by omega
            rcases HN3.out with hn0 | ⟨nb, no, rfl, -, hnc⟩
            · rw [hn0] at hin; simp at hin
            rcases HZ3.out with hz0 | ⟨zb, zo, rfl, hzc⟩
            · rw [hz0] at hiz; simp at hiz
            have zin : (i : Int) < (ns.length : Int) := by omega
            have ziz : (i : Int) < (zs.length : Int) := by omega
            obtain ⟨nx, hnx⟩ : ∃ nx, nx = ns[i] := ⟨_, rfl⟩
            obtain ⟨z, hzx⟩ : ∃ z, z = zs[i] := ⟨_, rfl⟩
            obtain ⟨j, hj, hfj⟩ := HFM.out i (by rw [HNL.out]; exact hlt) (by rw [HZL.out]; exact hlt)
            have hen : ns'[i]'(by rw [HNL.out]; exact hlt) = nx := by rw [hnx]; simp [HNS.out]
            have hez : zs'[i]'(by rw [HZL.out]; exact hlt) = z := by rw [hzx]; simp [HZS.out]
            rw [hen, hez] at hfj
            obtain ⟨hgi, hgv⟩ := get_rec HFR.out hj hfj
            rw [← HCV.out] at hgi hgv
            have hgb : decide (0 ≤ getI cv nx) = true := decide_eq_true (by omega)
            have RCW := Lib.hid (RC.out.low LR.out)
            have GC := Lib.hid (fun W (h : R W cv (.slice cai cv.l.length cci) (.slice can cv.ns.length ccn)) => (by
              have q := get_c cv nx W _ _ h
              rw [hgv, hgb] at q
              exact q.mono fun e w' ⟨it, nm, he, hr, g⟩ => by
                obtain ⟨xa, xc, xb, xd, rfl, rfl⟩ := r_slices hr
                exact ⟨xa, xc, xb, xd, he, g⟩ : Calls Try.prog 7 #[.agg #[.int .i64 cv.h.k, .bool cv.h.b, .int .i64 cv.h.n, .string cv.h.s, .string cv.h.t, .string cv.h.i, .slice cai cv.l.length cci, .slice can cv.ns.length ccn], .string nx] W fun e w' => ∃ xa xc xb xd, e = .returned (.tuple #[.agg #[.int .i64 2, .bool false, .int .i64 z, .string ⟨#[]⟩, .string ⟨#[]⟩, .string ⟨#[]⟩, .slice xa 0 xc, .slice xb 0 xd], .bool true]) ∧ Gr W w'))
            have LWR := Lib.hid (LWC.out.trans LR.out)
            have cni : wr.cell? ⟨nb, no + i, none⟩ = some (.string nx) := by have h := LWR.out.keep (hnc i hin); rwa [← hnx] at h
            have cnb : ∀ X, (wr.alloc X).cell? ⟨nb, no + i, none⟩ = some (.string nx) := fun X => (Gr.alloc (Gr.refl wr) X).cell cni
            obtain ⟨cx0, cx1, cx2, cx3, cx4, cx5, cx6, cx7⟩ := low_boxN w5.heap.size (LC.out.trans LR.out) rfl
            obtain ⟨cy0, cy1, cy2, cy3, cy4, cy5, cy6, cy7⟩ := low_boxB w5.heap.size (LC.out.trans LR.out) rfl
            have hnw : ∀ q (hq : q < cv.ns.length), ∃ cb co, can = some ⟨cb, co, none⟩ ∧ ∀ q (hq : q < cv.ns.length), WC.cell? ⟨cb, co + q, none⟩ = some (.string cv.ns[q]) := fun q hq => by
              obtain ⟨r1, r2, r3, -, -, r4⟩ := (rep_v.1 RC.out).2.1
              simp only [Value.slice.injEq] at r3
              obtain ⟨rfl, -, rfl⟩ := r3
              rcases r4 with h0 | ⟨cb, co, h1, -, h2⟩
              · rw [h0] at hq; exact absurd hq (Nat.not_lt_zero _)
              · exact ⟨cb, co, h1, h2⟩
            have hcl : cv.ns.length = zs.length := by rw [HCV.out]; show (fs.map (·.1)).length = _; rw [List.length_map, HFL.out, HNL.out]
            obtain ⟨cb, co, rfl, hcc⟩ := hnw i (by omega)
            have HCC := Lib.hid hcc
            have HCL := Lib.hid hcl
            have zcl : (i : Int) < (cv.ns.length : Int) := by omega
            have HRI := Lib.hid (fun (q : Nat) (hq : q + 1 < cv.ns.length) => (by
              have h1 : cv.ns = fs.map (·.1) := by rw [HCV.out]; rfl
              have h2 : q + 1 < fs.length := by rw [h1, List.length_map] at hq; exact hq
              have h3 := rises_names HFR.out h2 (Nat.lt_succ_self q)
              simp only [h1, List.getElem_map]
              exact h3 : cmpT (cv.ns[q]'(by omega)) cv.ns[q + 1] < 0))
            have HZN := Lib.hid (fun W (h : Low w W) => (by have q := h.keep (hzc i hiz); rwa [← hzx] at q : W.cell? ⟨zb, zo + i, none⟩ = some (.int .i64 z)))
            clear hgi hgv hgb hen hez hfj hnc hzc hnx hzx hnw hcc hcl
            go_wp2_with fail
            go_region_law (first
              | (go_simp; go_at_call 7; with_reducible refine (GC.out _ (RCW.out.low (Gr.drew (Gr.alloc (Gr.refl wr) (.cells #[.int .i64 0, .bool false, .int .i64 0, .string ⟨#[]⟩, .string ⟨#[]⟩, .string ⟨#[]⟩, .slice none 0 0, .slice none 0 0] 29))).low)).mono ?_; rintro e w6 ⟨xa, xc, xb, xd, rfl, g⟩; have RZ := Lib.hid ((res_new wr 29).low ((Gr.drew (Gr.refl _)).low.trans g.low)); have G6 := Lib.hid ((Gr.drew (Gr.alloc (Gr.refl wr) (.cells #[.int .i64 0, .bool false, .int .i64 0, .string ⟨#[]⟩, .string ⟨#[]⟩, .string ⟨#[]⟩, .slice none 0 0, .slice none 0 0] 29))).trans g); obtain ⟨⟨t0, t1, t2, t3, t4, t5, t6, t7⟩, tf0, tf1, tf2, tf3, tf4, tf5, tf6, tf7⟩ := RZ.out.facts; clear g)
              | (go_simp; go_at_call 7; with_reducible refine (GC.out _ (RCW.out.low (Gr.drew (Gr.refl wr)).low)).mono ?_; rintro e w6 ⟨xa, xc, xb, xd, rfl, g⟩; have G6 := Lib.hid ((Gr.drew (Gr.refl wr)).trans g); clear g))
            all_goals
              first
                | (obtain ⟨W9, hW9⟩ : ∃ W, W = w6.alloc (.cells #[.int .i64 2, .bool false, .int .i64 z, .string ⟨#[]⟩, .string ⟨#[]⟩, .string ⟨#[]⟩, .slice xa 0 xc, .slice xb 0 xd] 29) := ⟨_, rfl⟩
                   rw [← hW9]
                   have L9 : Low wr W9 := hW9 ▸ Low.alloc G6.out.low _
                   have X2 : W9.cell? ⟨w6.heap.size, 2, none⟩ = some (.int .i64 z) := by rw [hW9, World.cell?_alloc_mark]; rfl
                   clear hW9)
                | (obtain ⟨W9, hW9⟩ : ∃ W, W = ((((((((w6.setCell ⟨wr.heap.size, 0, none⟩ (.int .i64 2)).setCell ⟨wr.heap.size, 1, none⟩ (.bool false)).setCell ⟨wr.heap.size, 2, none⟩ (.int .i64 z)).setCell ⟨wr.heap.size, 3, none⟩ (.string ⟨#[]⟩)).setCell ⟨wr.heap.size, 4, none⟩ (.string ⟨#[]⟩)).setCell ⟨wr.heap.size, 5, none⟩ (.string ⟨#[]⟩)).setCell ⟨wr.heap.size, 6, none⟩ (.slice xa 0 xc)).setCell ⟨wr.heap.size, 7, none⟩ (.slice xb 0 xd)) := ⟨_, rfl⟩
                   rw [← hW9]
                   have L9 : Low wr W9 := hW9 ▸ G6.out.low.kept (kept8 w6 wr.heap.size _ _ _ _ _ _ _ _) (fun g hg => by simp at hg; omega)
                   have X2 : W9.cell? ⟨wr.heap.size, 2, none⟩ = some (.int .i64 z) := hW9 ▸ (put8r RZ.out.facts.1).2.2.1
                   clear hW9 t0 t1 t2 t3 t4 t5 t6 t7 tf0 tf1 tf2 tf3 tf4 tf5 tf6 tf7)
              have C7 := (low_boxN w5.heap.size ((LC.out.trans LR.out).trans L9) rfl).2.2.2.2.2.2.2
              have CZ := HZN.out W9 (LWR.out.trans L9)
              have CQ := Lib.hid (fun q (hq : q < cv.ns.length) => (LR.out.trans L9).keep (HCC.out q hq))
              have LF := Lib.hid (LR.out.trans L9)
              clear cni cnb cx0 cx1 cx2 cx3 cx4 cx5 cx6 cx7 cy0 cy1 cy2 cy3 cy4 cy5 cy6 cy7 L9 G6
              by_cases hi0 : i = 0
              · have zi0 : decide ((0 : Int) < (i : Int)) = false := decide_eq_false (by omega)
                have zi1 : ¬ (0 : Int) < (i : Int) := by omega
                have zi2 : (i : Int) ≤ 0 := by omega
                have ZI := Lib.hid (show ¬ 0 < i by omega)
                clear hi0
                go_wp2_with fail
                refine wp_region_quiet_lit (by kernel_rfl) (by kernel_rfl) ?_
                repeat (refine wpQuiet_step (fun K hK => ?_); go_simp; (try rw [if_neg ZI.out]); with_reducible refine hK _ ?_; clear hK K)
                refine wpQuiet_nil ?_
                intro _ hw'
                obtain ⟨nq, hw2⟩ := hw'
                subst hw2
                go_wp2_with fail
                go_roundg (zs.length - (i + 1))
                case measure => omega
                case rel => exact ⟨i + 1, by go_num, by omega, by omega, Lib.hid (LF.out.trans (Low.drewN _ _))⟩
              · obtain ⟨p, rfl⟩ : ∃ p, i = p + 1 := ⟨i - 1, by omega⟩
                have cq1 := CQ.out p (by have := HCL.out; omega)
                have cq2 := CQ.out (p + 1) (by have := HCL.out; omega)
                have hri := HRI.out p (by have := HCL.out; omega)
                obtain ⟨s1, hs1⟩ : ∃ s1, s1 = cv.ns[p]'(by have := HCL.out; omega) := ⟨_, rfl⟩
                obtain ⟨s2, hs2⟩ : ∃ s2, s2 = cv.ns[p + 1]'(by have := HCL.out; omega) := ⟨_, rfl⟩
                rw [← hs1] at cq1 hri
                rw [← hs2] at cq2 hri
                have HRR := Lib.hid hri
                have zp0 : IntKind.i64.wrap (p : Int) = (p : Int) := by rw [IntKind.wrap_i64]; omega
                have zp1 : (0 : Int) < (p : Int) + 1 := by omega
                have zp2 : (p : Int) < (cv.ns.length : Int) := by have := HCL.out; omega
                have zp3 : (p : Int) + 1 < (cv.ns.length : Int) := by have := HCL.out; omega
                have zp4 : (p : Int) + 1 < (zs.length : Int) := by omega
                have zp6 : (0 : Int) ≤ (p : Int) + 1 := by omega
                have zp5 : (p : Int) + 1 < (ns.length : Int) := by omega
                have hgeq := geq_no HRR.out 9
                clear hs1 hs2 hri hi0
                go_wp2_with fail
                refine wp_region_quiet_lit (by kernel_rfl) (by kernel_rfl) ?_
                repeat (refine wpQuiet_step (fun K hK => ?_); go_simp; with_reducible refine hK _ ?_; clear hK K)
                refine wpQuiet_nil ?_
                intro _ hw'
                obtain ⟨nq, hw2⟩ := hw'
                subst hw2
                go_wp2_with fail
                go_roundg (zs.length - (p + 1 + 1))
                case measure => omega
                case rel => exact ⟨p + 1 + 1, by go_num, by omega, by omega, Lib.hid (LF.out.trans (Low.drewN _ _))⟩
          · have z1 : ¬ (i : Int) < (zs.length : Int) := by omega
            go_wp2_with fail
            go_ret
            exact ⟨rfl, LWC.out.trans LR.out⟩
      · have hdt : decide ns'.Nodup = false := decide_eq_false hnd
        have hq : recC ns' (zs'.map nV) = (13, V0) := by unfold recC; rw [if_neg hnd]
        rw [hq] at CN
        change Calls _ _ _ _ (CanPost V0 13 _) at CN
        have HCN := Lib.hid CN
        have hv0 : V0.l.length = 0 := rfl
        rw [hdt]
        clear hq hdt hnd CN
        go_wp2_with fail
        refine HCN.out.mono ?_
        rintro e w5 ⟨cai, cci, can, ccn, rfl, hrep, g⟩
        have L5 := Lib.hid (LW.out.trans g)
        clear hrep g HCN c0 c1 c2 c3 c4 c5 c6 c7
        go_wp2_with fail
        go_ret
        exact ⟨rfl, L5.out.alloc _⟩
end Go.Proofs.Ytdblkjcimegoeaa
