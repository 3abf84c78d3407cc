/- Being in goes over three; two that are in one another are the same; what is told is new memory. No condition. -/
import Derived.Test.YtmkillbanmbafaaGreatWrtL
namespace Go.Proofs.YtmkillbanmbafaaGreat
open Go.RowKit Go.Sort Go.Maps
set_option maxHeartbeats 32000000 in
set_option maxRecDepth 100000 in
theorem familyLaws_v (qs : List Ee) (a b c : Us) (w : World) (r : Value) (h : EtAt w r qs) : Calls Tryz.prog 5 #[r, .agg #[.string a.t, .string a.i], .agg #[.string b.t, .string b.i], .agg #[.string c.t, .string c.i]] w fun e w' => e = .returned (.bool true) ∧ Low w w' := by
  obtain ⟨ao, cq, rfl, ⟨hlc, hc9⟩, hx⟩ := h.at
  have mixed : Tryz.prog.follows .mixedOrders = true := by kernel_rfl
  have HE := Lib.hid h
  obtain ⟨U0, hU0⟩ : ∃ W, W = (((w.alloc (.cells #[.string a.t, .string a.i] 24)).alloc (.cells #[.string b.t, .string b.i] 24)).alloc (.cells #[.string c.t, .string c.i] 24)) := ⟨_, rfl⟩
  have HU0 := Lib.hid hU0
  have L0 := Lib.hid (show Low w U0 by rw [hU0]; exact Low.alloc (Low.alloc (Low.alloc (Low.refl w) _) _) _)
  have BA0 := Lib.hid (show BoxAt U0 w.heap.size [.string a.t, .string a.i] from BoxAt.low (BoxAt.made (w := w) (W := (w.alloc (.cells #[.string a.t, .string a.i] 24))) rfl rfl rfl) (by rw [hU0]; exact Low.alloc (Low.alloc (Low.refl _) _) _))
  have BB0 := Lib.hid (show BoxAt U0 (w.heap.size + 1) [.string b.t, .string b.i] from BoxAt.low (BoxAt.made (w := (w.alloc (.cells #[.string a.t, .string a.i] 24))) (W := ((w.alloc (.cells #[.string a.t, .string a.i] 24)).alloc (.cells #[.string b.t, .string b.i] 24))) rfl (by simp) rfl) (by rw [hU0]; exact Low.alloc (Low.refl _) _))
  have BD0 := Lib.hid (show BoxAt U0 (w.heap.size + 1 + 1) [.string c.t, .string c.i] from BoxAt.made hU0 (by simp) rfl)
  clear h hx hU0
  go_enter Tryz.func5, Tryz.ntmps5
  go_upto_region 1 with fail
  rw [← HU0.out]
  clear HU0
  go_wp2_with fail
  refine (awake6_c _).mono ?_
  rintro e w1 ⟨rfl, l1⟩
  have L1 := Lib.hid (L0.out.trans l1)
  have BA1 := Lib.hid (BA0.out.low l1)
  have BB1 := Lib.hid (BB0.out.low l1)
  have BD1 := Lib.hid (BD0.out.low l1)
  clear l1 BA0 BB0 BD0 L0
  have SC := Lib.hid (small_c qs w1 _ (HE.out.low L1.out))
  go_wp2_with fail
  refine SC.out.mono ?_
  rintro e w2 ⟨p, rfl, hp, g⟩
  have L2 := Lib.hid (L1.out.trans g.low)
  have BA2 := Lib.hid (BA1.out.low g.low)
  have BB2 := Lib.hid (BB1.out.low g.low)
  have BD2 := Lib.hid (BD1.out.low g.low)
  have HP := Lib.hid hp
  clear hp g SC BA1 BB1 BD1 L1
  rcases p with _ | _
  · go_wp2_with fail
    go_ret
    exact ⟨rfl, L2.out⟩
  obtain ⟨h20, hsm⟩ := HP.out rfl
  have HSM := Lib.hid (show ∀ e ∈ ensOf qs, SmE e from fun e he => by unfold ensOf at he; obtain ⟨q, hq, rfl⟩ := List.mem_map.1 he; exact hsm q hq)
  have H20 := Lib.hid (show (ensOf qs).length ≤ 20 by unfold ensOf; rwa [List.length_map])
  have CC := Lib.hid (load_c qs w2 _ (HE.out.low L2.out) (few_sm H20.out HSM.out) fun q hq => (hsm q hq).1)
  clear HP hsm
  obtain ⟨c1, res1, hres⟩ : ∃ c1 res1, canE canD (ensOf qs) = (c1, res1) := ⟨_, _, rfl⟩
  rw [hres] at CC
  have HR1 := Lib.hid hres
  clear hres
  go_wp2_with fail
  refine CC.out.mono ?_
  rintro e w3 (⟨h0, rfl, l3⟩ | ⟨h0, z, rs, rfl, l3, hrs, hs, hma⟩)
  · have L3 := Lib.hid (L2.out.trans l3)
    have BA := Lib.hid (BA2.out.low l3)
    have BB := Lib.hid (BB2.out.low l3)
    have zc : (c1 != 0) = true := by simpa using h0
    clear CC l3 h0 BA2 BB2 BD2 L2
    obtain ⟨t, ht⟩ : ∃ t, t = decide (a = b) := ⟨_, rfl⟩
    have qE := fun W => us_eql a b W
    rw [← ht] at qE
    have HI1 := Lib.hid (show ∀ p : InC (Low w3), Calls Tryz.prog 18 #[.pointer none, .agg #[.string a.t, .string a.i], .agg #[.string a.t, .string a.i]] p.w fun e w'' => e = .returned (.bool true) ∧ ∃ p' : InC (Low w3), w'' = p'.w from fun p => Calls.cls p ((in_nil p.w a a).mono fun e w' ⟨h1, h2⟩ => ⟨by rw [h1, decide_eq_true rfl], p.ok.trans h2⟩))
    have HI2 := Lib.hid (show ∀ p : InC (Low w3), Calls Tryz.prog 18 #[.pointer none, .agg #[.string a.t, .string a.i], .agg #[.string b.t, .string b.i]] p.w fun e w'' => e = .returned (.bool t) ∧ ∃ p' : InC (Low w3), w'' = p'.w from fun p => Calls.cls p ((in_nil p.w a b).mono fun e w' ⟨h1, h2⟩ => ⟨by rw [h1, ht], p.ok.trans h2⟩))
    have HI3 := Lib.hid (show ∀ p : InC (Low w3), Calls Tryz.prog 16 #[.pointer none, .agg #[.string a.t, .string a.i]] p.w fun e w'' => e = .returned (.slice none 0 0) ∧ ∃ p' : InC (Low w3), w'' = p'.w from fun p => Calls.cls p ((above_nil p.w a).mono fun e w' ⟨h1, h2⟩ => ⟨h1, p.ok.trans h2⟩))
    have HI4 := Lib.hid (show ∀ p : InC (Low w3), Calls Tryz.prog 15 #[.pointer none] p.w fun e w'' => e = .returned (.slice none 0 0) ∧ ∃ p' : InC (Low w3), w'' = p'.w from fun p => Calls.cls p ((all_nil p.w).mono fun e w' ⟨h1, h2⟩ => ⟨h1, p.ok.trans h2⟩))
    clear ht
    obtain ⟨a0, a1⟩ := BA.out.at2
    obtain ⟨b0, b1⟩ := BB.out.at2
    have a0 := fun p => cls_low_cell a0 p
    have a1 := fun p => cls_low_cell a1 p
    have b0 := fun p => cls_low_cell b0 p
    have b1 := fun p => cls_low_cell b1 p
    go_wp2_with fail
    haveI : Nonempty (InC (Low w3)) := ⟨⟨w3.drew, (Gr.refl w3).drew.low⟩⟩
    refine wp_region_cls (Low w3) mixed (by kernel_rfl) (Gr.refl w3).drew.low ?_
    repeat (quiet_step ((first | (with_reducible exact HI1.out _) | (with_reducible exact HI2.out _) | (with_reducible exact HI3.out _) | (with_reducible exact HI4.out _))))
    refine wpQuiet_nil ?_
    rintro W9 ⟨p9, hW9⟩
    have L9 := Lib.hid (show Low w3 W9 by rw [hW9]; exact p9.ok)
    clear hW9 p9 a0 a1 b0 b1 HI1 HI2 HI3 HI4
    go_wp2_with fail
    go_ret
    exact ⟨by simp, L3.out.trans L9.out⟩
  · obtain rfl : c1 = 0 := h0
    have H0 := Lib.hid (show (canE canD (ensOf qs)).1 = 0 by rw [HR1.out])
    have HRS := Lib.hid (show ensOf rs = (canE canD (ensOf qs)).2 by rw [HR1.out]; exact hrs)
    have HG := Lib.hid (show GoodC (ensOf rs) by rw [HRS.out]; exact good_can H0.out H20.out HSM.out)
    have HLE := Lib.hid (show ∀ e ∈ ensOf rs, e.a.ns.length = e.a.l.length by rw [HRS.out]; exact can_lens H0.out)
    have L3 := Lib.hid (L2.out.trans l3)
    have BA := Lib.hid (BA2.out.low l3)
    have BB := Lib.hid (BB2.out.low l3)
    have BD := Lib.hid (BD2.out.low l3)
    have HMA := Lib.hid (show w.heap.size ≤ z.ma from Nat.le_trans L2.out.size hma)
    have HS := Lib.hid hs
    have HLW := Lib.hid (Lw.refl (m := z.ma) (w := w3) hs.isMap)
    clear CC l3 hrs hs hma L2 BA2 BB2 BD2 HE HR1 H20 HSM H0
    go_upto_region 10 with fail
    go_cut [96] from 63 to 95 (fun s96 wx => s96 = .bool false ∧ Hid (Sto wx z rs) ∧ Hid (Lw z.ma w3 wx))
    case first =>
      cases hP : inB (ensOf rs) a b with
      | false =>
        obtain ⟨a0, a1⟩ := BA.out.at2
        obtain ⟨b0, b1⟩ := BB.out.at2
        obtain ⟨d0, d1⟩ := BD.out.at2
        have HI := Lib.hid (in_c w3 z rs a b HS.out HG.out)
        rw [hP] at HI
        go_wp2_with fail
        refine HI.out.mono ?_
        rintro e v0 ⟨rfl, hs0, l0⟩
        have LL0 := Lib.hid (HLW.out.trans l0)
        clear HI a0 a1 b0 b1 d0 d1
        obtain ⟨a0, a1⟩ := (BA.out.lwc LL0.out).at2
        obtain ⟨b0, b1⟩ := (BB.out.lwc LL0.out).at2
        obtain ⟨d0, d1⟩ := (BD.out.lwc LL0.out).at2
        have HI := Lib.hid (in_c v0 z rs a b hs0 HG.out)
        rw [hP] at HI
        go_wp2_with fail
        refine HI.out.mono ?_
        rintro e v1 ⟨rfl, hs1, l1⟩
        have LL1 := Lib.hid (LL0.out.trans l1)
        clear HI a0 a1 b0 b1 d0 d1
        obtain ⟨a0, a1⟩ := (BA.out.lwc LL1.out).at2
        obtain ⟨b0, b1⟩ := (BB.out.lwc LL1.out).at2
        obtain ⟨d0, d1⟩ := (BD.out.lwc LL1.out).at2
        go_wp2_with fail
        go_meet
        case rel => exact ⟨rfl, Lib.hid hs1, LL1⟩

      | true =>
        cases hQ : inB (ensOf rs) b c with
        | true =>
          have hR := in_trans hP hQ
          cases hT : inB (ensOf rs) b a with
          | true =>
            have hab := in_anti HG.out.ring hP hT
            have qN : ∀ W, (binOp .neq 24 (.agg #[.string a.t, .string a.i]) (.agg #[.string b.t, .string b.i])).run Tryz.prog W = .ok (.bool false) W := fun W => by rw [us_neq, decide_eq_true hab]; rfl
            clear hab
            obtain ⟨a0, a1⟩ := BA.out.at2
            obtain ⟨b0, b1⟩ := BB.out.at2
            obtain ⟨d0, d1⟩ := BD.out.at2
            have HI := Lib.hid (in_c w3 z rs a b HS.out HG.out)
            rw [hP] at HI
            go_wp2_with fail
            refine HI.out.mono ?_
            rintro e v0 ⟨rfl, hs0, l0⟩
            have LL0 := Lib.hid (HLW.out.trans l0)
            clear HI a0 a1 b0 b1 d0 d1
            obtain ⟨a0, a1⟩ := (BA.out.lwc LL0.out).at2
            obtain ⟨b0, b1⟩ := (BB.out.lwc LL0.out).at2
            obtain ⟨d0, d1⟩ := (BD.out.lwc LL0.out).at2
            have HI := Lib.hid (in_c v0 z rs b c hs0 HG.out)
            rw [hQ] at HI
            go_wp2_with fail
            refine HI.out.mono ?_
            rintro e v1 ⟨rfl, hs1, l1⟩
            have LL1 := Lib.hid (LL0.out.trans l1)
            clear HI a0 a1 b0 b1 d0 d1
            obtain ⟨a0, a1⟩ := (BA.out.lwc LL1.out).at2
            obtain ⟨b0, b1⟩ := (BB.out.lwc LL1.out).at2
            obtain ⟨d0, d1⟩ := (BD.out.lwc LL1.out).at2
            have HI := Lib.hid (in_c v1 z rs a c hs1 HG.out)
            rw [hR] at HI
            go_wp2_with fail
            refine HI.out.mono ?_
            rintro e v2 ⟨rfl, hs2, l2⟩
            have LL2 := Lib.hid (LL1.out.trans l2)
            clear HI a0 a1 b0 b1 d0 d1
            obtain ⟨a0, a1⟩ := (BA.out.lwc LL2.out).at2
            obtain ⟨b0, b1⟩ := (BB.out.lwc LL2.out).at2
            obtain ⟨d0, d1⟩ := (BD.out.lwc LL2.out).at2
            have HI := Lib.hid (in_c v2 z rs a b hs2 HG.out)
            rw [hP] at HI
            go_wp2_with fail
            refine HI.out.mono ?_
            rintro e v3 ⟨rfl, hs3, l3⟩
            have LL3 := Lib.hid (LL2.out.trans l3)
            clear HI a0 a1 b0 b1 d0 d1
            obtain ⟨a0, a1⟩ := (BA.out.lwc LL3.out).at2
            obtain ⟨b0, b1⟩ := (BB.out.lwc LL3.out).at2
            obtain ⟨d0, d1⟩ := (BD.out.lwc LL3.out).at2
            have HI := Lib.hid (in_c v3 z rs b a hs3 HG.out)
            rw [hT] at HI
            go_wp2_with fail
            refine HI.out.mono ?_
            rintro e v4 ⟨rfl, hs4, l4⟩
            have LL4 := Lib.hid (LL3.out.trans l4)
            clear HI a0 a1 b0 b1 d0 d1
            obtain ⟨a0, a1⟩ := (BA.out.lwc LL4.out).at2
            obtain ⟨b0, b1⟩ := (BB.out.lwc LL4.out).at2
            obtain ⟨d0, d1⟩ := (BD.out.lwc LL4.out).at2
            go_wp2_with fail
            go_meet
            case rel => exact ⟨rfl, Lib.hid hs4, LL4⟩

          | false =>
            obtain ⟨a0, a1⟩ := BA.out.at2
            obtain ⟨b0, b1⟩ := BB.out.at2
            obtain ⟨d0, d1⟩ := BD.out.at2
            have HI := Lib.hid (in_c w3 z rs a b HS.out HG.out)
            rw [hP] at HI
            go_wp2_with fail
            refine HI.out.mono ?_
            rintro e v0 ⟨rfl, hs0, l0⟩
            have LL0 := Lib.hid (HLW.out.trans l0)
            clear HI a0 a1 b0 b1 d0 d1
            obtain ⟨a0, a1⟩ := (BA.out.lwc LL0.out).at2
            obtain ⟨b0, b1⟩ := (BB.out.lwc LL0.out).at2
            obtain ⟨d0, d1⟩ := (BD.out.lwc LL0.out).at2
            have HI := Lib.hid (in_c v0 z rs b c hs0 HG.out)
            rw [hQ] at HI
            go_wp2_with fail
            refine HI.out.mono ?_
            rintro e v1 ⟨rfl, hs1, l1⟩
            have LL1 := Lib.hid (LL0.out.trans l1)
            clear HI a0 a1 b0 b1 d0 d1
            obtain ⟨a0, a1⟩ := (BA.out.lwc LL1.out).at2
            obtain ⟨b0, b1⟩ := (BB.out.lwc LL1.out).at2
            obtain ⟨d0, d1⟩ := (BD.out.lwc LL1.out).at2
            have HI := Lib.hid (in_c v1 z rs a c hs1 HG.out)
            rw [hR] at HI
            go_wp2_with fail
            refine HI.out.mono ?_
            rintro e v2 ⟨rfl, hs2, l2⟩
            have LL2 := Lib.hid (LL1.out.trans l2)
            clear HI a0 a1 b0 b1 d0 d1
            obtain ⟨a0, a1⟩ := (BA.out.lwc LL2.out).at2
            obtain ⟨b0, b1⟩ := (BB.out.lwc LL2.out).at2
            obtain ⟨d0, d1⟩ := (BD.out.lwc LL2.out).at2
            have HI := Lib.hid (in_c v2 z rs a b hs2 HG.out)
            rw [hP] at HI
            go_wp2_with fail
            refine HI.out.mono ?_
            rintro e v3 ⟨rfl, hs3, l3⟩
            have LL3 := Lib.hid (LL2.out.trans l3)
            clear HI a0 a1 b0 b1 d0 d1
            obtain ⟨a0, a1⟩ := (BA.out.lwc LL3.out).at2
            obtain ⟨b0, b1⟩ := (BB.out.lwc LL3.out).at2
            obtain ⟨d0, d1⟩ := (BD.out.lwc LL3.out).at2
            have HI := Lib.hid (in_c v3 z rs b a hs3 HG.out)
            rw [hT] at HI
            go_wp2_with fail
            refine HI.out.mono ?_
            rintro e v4 ⟨rfl, hs4, l4⟩
            have LL4 := Lib.hid (LL3.out.trans l4)
            clear HI a0 a1 b0 b1 d0 d1
            obtain ⟨a0, a1⟩ := (BA.out.lwc LL4.out).at2
            obtain ⟨b0, b1⟩ := (BB.out.lwc LL4.out).at2
            obtain ⟨d0, d1⟩ := (BD.out.lwc LL4.out).at2
            go_wp2_with fail
            go_meet
            case rel => exact ⟨rfl, Lib.hid hs4, LL4⟩

        | false =>
          cases hT : inB (ensOf rs) b a with
          | true =>
            have hab := in_anti HG.out.ring hP hT
            have qN : ∀ W, (binOp .neq 24 (.agg #[.string a.t, .string a.i]) (.agg #[.string b.t, .string b.i])).run Tryz.prog W = .ok (.bool false) W := fun W => by rw [us_neq, decide_eq_true hab]; rfl
            clear hab
            obtain ⟨a0, a1⟩ := BA.out.at2
            obtain ⟨b0, b1⟩ := BB.out.at2
            obtain ⟨d0, d1⟩ := BD.out.at2
            have HI := Lib.hid (in_c w3 z rs a b HS.out HG.out)
            rw [hP] at HI
            go_wp2_with fail
            refine HI.out.mono ?_
            rintro e v0 ⟨rfl, hs0, l0⟩
            have LL0 := Lib.hid (HLW.out.trans l0)
            clear HI a0 a1 b0 b1 d0 d1
            obtain ⟨a0, a1⟩ := (BA.out.lwc LL0.out).at2
            obtain ⟨b0, b1⟩ := (BB.out.lwc LL0.out).at2
            obtain ⟨d0, d1⟩ := (BD.out.lwc LL0.out).at2
            have HI := Lib.hid (in_c v0 z rs b c hs0 HG.out)
            rw [hQ] at HI
            go_wp2_with fail
            refine HI.out.mono ?_
            rintro e v1 ⟨rfl, hs1, l1⟩
            have LL1 := Lib.hid (LL0.out.trans l1)
            clear HI a0 a1 b0 b1 d0 d1
            obtain ⟨a0, a1⟩ := (BA.out.lwc LL1.out).at2
            obtain ⟨b0, b1⟩ := (BB.out.lwc LL1.out).at2
            obtain ⟨d0, d1⟩ := (BD.out.lwc LL1.out).at2
            have HI := Lib.hid (in_c v1 z rs a b hs1 HG.out)
            rw [hP] at HI
            go_wp2_with fail
            refine HI.out.mono ?_
            rintro e v2 ⟨rfl, hs2, l2⟩
            have LL2 := Lib.hid (LL1.out.trans l2)
            clear HI a0 a1 b0 b1 d0 d1
            obtain ⟨a0, a1⟩ := (BA.out.lwc LL2.out).at2
            obtain ⟨b0, b1⟩ := (BB.out.lwc LL2.out).at2
            obtain ⟨d0, d1⟩ := (BD.out.lwc LL2.out).at2
            have HI := Lib.hid (in_c v2 z rs b a hs2 HG.out)
            rw [hT] at HI
            go_wp2_with fail
            refine HI.out.mono ?_
            rintro e v3 ⟨rfl, hs3, l3⟩
            have LL3 := Lib.hid (LL2.out.trans l3)
            clear HI a0 a1 b0 b1 d0 d1
            obtain ⟨a0, a1⟩ := (BA.out.lwc LL3.out).at2
            obtain ⟨b0, b1⟩ := (BB.out.lwc LL3.out).at2
            obtain ⟨d0, d1⟩ := (BD.out.lwc LL3.out).at2
            go_wp2_with fail
            go_meet
            case rel => exact ⟨rfl, Lib.hid hs3, LL3⟩

          | false =>
            obtain ⟨a0, a1⟩ := BA.out.at2
            obtain ⟨b0, b1⟩ := BB.out.at2
            obtain ⟨d0, d1⟩ := BD.out.at2
            have HI := Lib.hid (in_c w3 z rs a b HS.out HG.out)
            rw [hP] at HI
            go_wp2_with fail
            refine HI.out.mono ?_
            rintro e v0 ⟨rfl, hs0, l0⟩
            have LL0 := Lib.hid (HLW.out.trans l0)
            clear HI a0 a1 b0 b1 d0 d1
            obtain ⟨a0, a1⟩ := (BA.out.lwc LL0.out).at2
            obtain ⟨b0, b1⟩ := (BB.out.lwc LL0.out).at2
            obtain ⟨d0, d1⟩ := (BD.out.lwc LL0.out).at2
            have HI := Lib.hid (in_c v0 z rs b c hs0 HG.out)
            rw [hQ] at HI
            go_wp2_with fail
            refine HI.out.mono ?_
            rintro e v1 ⟨rfl, hs1, l1⟩
            have LL1 := Lib.hid (LL0.out.trans l1)
            clear HI a0 a1 b0 b1 d0 d1
            obtain ⟨a0, a1⟩ := (BA.out.lwc LL1.out).at2
            obtain ⟨b0, b1⟩ := (BB.out.lwc LL1.out).at2
            obtain ⟨d0, d1⟩ := (BD.out.lwc LL1.out).at2
            have HI := Lib.hid (in_c v1 z rs a b hs1 HG.out)
            rw [hP] at HI
            go_wp2_with fail
            refine HI.out.mono ?_
            rintro e v2 ⟨rfl, hs2, l2⟩
            have LL2 := Lib.hid (LL1.out.trans l2)
            clear HI a0 a1 b0 b1 d0 d1
            obtain ⟨a0, a1⟩ := (BA.out.lwc LL2.out).at2
            obtain ⟨b0, b1⟩ := (BB.out.lwc LL2.out).at2
            obtain ⟨d0, d1⟩ := (BD.out.lwc LL2.out).at2
            have HI := Lib.hid (in_c v2 z rs b a hs2 HG.out)
            rw [hT] at HI
            go_wp2_with fail
            refine HI.out.mono ?_
            rintro e v3 ⟨rfl, hs3, l3⟩
            have LL3 := Lib.hid (LL2.out.trans l3)
            clear HI a0 a1 b0 b1 d0 d1
            obtain ⟨a0, a1⟩ := (BA.out.lwc LL3.out).at2
            obtain ⟨b0, b1⟩ := (BB.out.lwc LL3.out).at2
            obtain ⟨d0, d1⟩ := (BD.out.lwc LL3.out).at2
            go_wp2_with fail
            go_meet
            case rel => exact ⟨rfl, Lib.hid hs3, LL3⟩

    case rest =>
    obtain ⟨rfl, S, L⟩ := hcut
    have LC := Lib.hid (L.out.low L3.out HMA.out)
    have HA1 := Lib.hid (all6_c wc z rs S.out HG.out)
    clear L HLW HS BA BB BD L3
    rename World => wz
    go_wp2_with fail
    refine HA1.out.mono ?_
    rintro e w4 ⟨v4, rs4, rfl, hr4, hO4, hE4, -, l4⟩
    have HWAS := Lib.hid (show EtAt w4 v4 rs4 from ⟨hO4.esAt, fun q hq => (hE4 q hq).any⟩)
    have HR4 := Lib.hid hr4
    have L4 := Lib.hid (LC.out.trans l4)
    have S4 := Lib.hid (S.out.low l4)
    have HA2 := Lib.hid (all6_c w4 z rs S4.out HG.out)
    clear hr4 hO4 hE4 l4 HA1 S LC
    go_wp2_with fail
    refine HA2.out.mono ?_
    rintro e w5 ⟨v5, ms, rfl, hms, hO5, -, hW5, l5⟩
    obtain ⟨ax, cx, rfl, hx1, hx2, hx3⟩ := OwnR.shape hO5
    obtain ⟨n, hn⟩ : ∃ n, n = ms.length := ⟨_, rfl⟩
    have HN := Lib.hid hn
    have HLEN := Lib.hid (show ∀ q ∈ ms, q.e.a.ns.length = q.e.a.l.length ∧ q.e.ps.length ≤ 300 ∧ q.e.a.l.length ≤ 70000 from fun q hq => by
      have hm : q.e ∈ ensOf rs := by rw [← hms]; exact List.mem_map_of_mem hq
      exact ⟨HLE.out _ hm, HG.out.few _ hm, ((sm_v _).1 (HG.out.sm _ hm)).1⟩)
    have hn3 : n ≤ 300 := by
      have h1 := congrArg List.length hms
      have h2 := HG.out.len
      simp [ensOf] at h1 h2
      omega
    obtain ⟨g, HG0⟩ : ∃ g, Hid (n = 0 ∨ (ax = some ⟨g, 0, none⟩ ∧ w4.heap.size ≤ g)) := by
      rcases hx3 with h | ⟨g, h1, h2, -⟩
      · exact ⟨0, Lib.hid (.inl (by rw [hn, h]; rfl))⟩
      · exact ⟨g, Lib.hid (.inr ⟨h1, h2⟩)⟩
    have HHD := Lib.hid (show Heads w5 g ms from fun j hj => by
      rcases HG0.out with h | ⟨h, -⟩
      · omega
      · subst h
        exact ⟨OwnR.cell encE_len hO5 j 2 hj (by decide), OwnR.cell encE_len hO5 j 9 hj (by decide), OwnR.cell encE_len hO5 j 10 hj (by decide)⟩)
    have HWG := Lib.hid (show 0 < n → WrB w5 g (n * 11) from fun h0 => by
      rcases HG0.out with h | ⟨h, -⟩
      · omega
      · subst h
        rw [hn]; exact ownR_wr encE_len (by decide) hO5 rfl)
    have HWO := Lib.hid (show ∀ q ∈ ms, WOk w5 q from fun q hq => (hW5 q hq).wok)
    have HAW := Lib.hid (show ∀ q ∈ ms, 0 < n → Away w4.heap.size g q from fun q hq h0 b o hb => by
      rcases HG0.out with h | ⟨h, -⟩
      · omega
      · subst h
        have hW := hW5 q hq
        obtain ⟨els, -, ho⟩ := hW.its
        obtain ⟨n1, n2, n3⟩ := hW.ap g rfl
        rcases hb with hb | hb | hb
        · exact ⟨(World.ownsRow.lt hW.ps b (by rw [hb]; rfl)).1, fun e => n1 (by rw [hb, e]; rfl)⟩
        · exact ⟨(World.ownsRow.lt ho b (by rw [hb]; rfl)).1, fun e => n2 (by rw [hb, e]; rfl)⟩
        · exact ⟨(World.ownsRow.lt hW.nms b (by rw [hb]; rfl)).1, fun e => n3 (by rw [hb, e]; rfl)⟩)
    have L5 := Lib.hid l5
    rw [← hn] at hx1 ⊢
    clear hms hO5 hW5 l5 hx3 hn HA2 HLE
    go_wp2_with fail
    go_loopg [15] n (fun gk vi wr => ∃ i : Nat, vi = .int .i64 (i : Int) ∧ i ≤ n ∧ n - i ≤ gk ∧ Hid (Low w4 wr) ∧ Hid (Heads wr g ms) ∧ Hid (0 < n → WrB wr g (n * 11)) ∧ Hid (∀ q ∈ ms, WOk wr q))
    case atStart => exact ⟨0, rfl, Nat.zero_le _, Nat.le_refl _, L5, HHD, HWG, HWO⟩
    case round =>
      clear L5 HHD HWG HWO
      obtain ⟨i, rfl, hi, hg, G, HD, WG, WO⟩ := hrel
      by_cases hlt : i < n
      · have zl : (i : Int) < (n : Int) := by omega
        rcases HG0.out with h | ⟨hax, hgB⟩
        · omega
        subst hax
        have hn0 : 0 < n := by omega
        have him : i < ms.length := by rw [← HN.out]; exact hlt
        obtain ⟨x1, hx1'⟩ := (WG.out hn0).get (o := i * 11 + 1) (by omega)
        have f1 := (WG.out hn0).free (i * 11 + 1)
        obtain ⟨q, hq⟩ : ∃ q, q = ms[i] := ⟨_, rfl⟩
        have HQ := Lib.hid hq
        have HQM := Lib.hid (show q ∈ ms by rw [hq]; exact List.getElem_mem him)
        have HHQ := Lib.hid (show ∀ W, Heads W g ms → W.cell? ⟨g, i * 11 + 2, none⟩ = some (.slice q.ap q.e.ps.length q.cp) ∧ W.cell? ⟨g, i * 11 + 9, none⟩ = some (.slice q.ai q.e.a.l.length q.ci) ∧ W.cell? ⟨g, i * 11 + 10, none⟩ = some (.slice q.an q.e.a.ns.length q.cn) from fun W h => by rw [hq]; exact h i him)
        clear hq
        obtain ⟨W1, hW1⟩ : ∃ W, W = wr.setCell ⟨g, i * 11 + 1, none⟩ (.string ⟨#[99, 104, 97, 110, 103, 101, 100]⟩) := ⟨_, rfl⟩
        have HW1 := Lib.hid hW1
        have G1 := Lib.hid (show Low w4 W1 by rw [hW1]; exact Low.set G.out _ _ hgB)
        have HD1 := Lib.hid (show Heads W1 g ms by rw [hW1]; exact HD.out.set _ _ _ (.inr (by omega)))
        have WG1 := Lib.hid (show 0 < n → WrB W1 g (n * 11) from fun h => by rw [hW1]; exact (WG.out h).set _ _)
        have WO1 := Lib.hid (show ∀ q ∈ ms, WOk W1 q from fun q hq => by rw [hW1]; exact (WO.out q hq).set _ _)
        clear hW1 G HD WG WO
        go_upto_region 18 with fail
        rw [← HW1.out]
        clear HW1 hx1' f1
        obtain ⟨np, hnp⟩ : ∃ k, k = q.e.ps.length := ⟨_, rfl⟩
        obtain ⟨nl, hnl⟩ : ∃ k, k = q.e.a.l.length := ⟨_, rfl⟩
        obtain ⟨hl1, hl2, hl3⟩ := HLEN.out q HQM.out
        have HNP := Lib.hid hnp
        have HNL := Lib.hid hnl
        have HNN := Lib.hid (show q.e.a.ns.length = nl by rw [hl1, hnl])
        have hnp3 : np ≤ 300 := by rw [hnp]; exact hl2
        have hnl3 : nl ≤ 70000 := by rw [hnl]; exact hl3
        clear hnp hnl hl1 hl2 hl3
        go_wp2_with fail
        go_loopg [16] np (fun gj vj wi => ∃ j : Nat, vj = .int .i64 (j : Int) ∧ j ≤ np ∧ np - j ≤ gj ∧ Hid (Low w4 wi) ∧ Hid (Heads wi g ms) ∧ Hid (0 < n → WrB wi g (n * 11)) ∧ Hid (∀ q ∈ ms, WOk wi q))
        case atStart => exact ⟨0, rfl, Nat.zero_le _, Nat.le_refl _, G1, HD1, WG1, WO1⟩
        case round =>
          clear G1 HD1 WG1 WO1
          obtain ⟨j, rfl, hj, hgj, G, HD, WG, WO⟩ := hrel
          obtain ⟨t2, t9, t10⟩ := HHQ.out _ HD.out
          rw [← HNP.out] at t2
          rw [← HNL.out] at t9
          rw [HNN.out] at t10
          by_cases hjt : j < np
          · have zj : (j : Int) < (np : Int) := by omega
            obtain ⟨gp, hap, hwp⟩ := (WO.out q HQM.out).ps (by rw [← HNP.out]; omega)
            rw [← HNP.out] at hwp
            rw [hap] at t2
            obtain ⟨y1, hy1⟩ := hwp.get (o := j * 2 + 1) (by omega)
            have f1 := hwp.free (j * 2 + 1)
            obtain ⟨hgp1, hgp2⟩ := HAW.out q HQM.out hn0 gp 0 (.inl hap)
            obtain ⟨W2, hW2⟩ : ∃ W, W = wr.setCell ⟨gp, j * 2 + 1, none⟩ (.string ⟨#[99, 104, 97, 110, 103, 101, 100]⟩) := ⟨_, rfl⟩
            have G2 := Lib.hid (show Low w4 W2 by rw [hW2]; exact Low.set G.out _ _ hgp1)
            have HD2 := Lib.hid (show Heads W2 g ms by rw [hW2]; exact HD.out.set _ _ _ (.inl hgp2))
            have WG2 := Lib.hid (show 0 < n → WrB W2 g (n * 11) from fun h => by rw [hW2]; exact (WG.out h).set _ _)
            have WO2 := Lib.hid (show ∀ q ∈ ms, WOk W2 q from fun q hq => by rw [hW2]; exact (WO.out q hq).set _ _)
            have HW2 := Lib.hid hW2
            clear hW2 G HD WG WO hwp t9 t10 hap
            go_wp2_with fail
            rw [← HW2.out]
            go_roundg (np - (j + 1))
            case measure => omega
            case rel => exact ⟨j + 1, by go_num, by omega, by omega, G2, HD2, WG2, WO2⟩
          · have zj : ¬ (j : Int) < (np : Int) := by omega
            go_wp2_with fail
            go_loopg [17] nl (fun gj vj wi => ∃ j : Nat, vj = .int .i64 (j : Int) ∧ j ≤ nl ∧ nl - j ≤ gj ∧ Hid (Low w4 wi) ∧ Hid (Heads wi g ms) ∧ Hid (0 < n → WrB wi g (n * 11)) ∧ Hid (∀ q ∈ ms, WOk wi q))
            case atStart => exact ⟨0, rfl, Nat.zero_le _, Nat.le_refl _, G, HD, WG, WO⟩
            case round =>
              clear G HD WG WO t2 t9 t10 zj hjt hgj hj
              obtain ⟨k, rfl, hk, hgk, G, HD, WG, WO⟩ := hrel
              obtain ⟨t2, t9, t10⟩ := HHQ.out _ HD.out
              rw [← HNL.out] at t9
              rw [HNN.out] at t10
              by_cases hkt : k < nl
              · have zk : (k : Int) < (nl : Int) := by omega
                obtain ⟨gi, hai, hwi⟩ := (WO.out q HQM.out).its (by rw [← HNL.out]; omega)
                obtain ⟨gn, han, -⟩ := (WO.out q HQM.out).nms (by rw [HNN.out]; omega)
                rw [← HNL.out] at hwi
                rw [hai] at t9
                obtain ⟨y1, hy1⟩ := hwi.get (o := k * 8 + 2) (by omega)
                have f1 := hwi.free (k * 8 + 2)
                obtain ⟨hgi1, hgi2⟩ := HAW.out q HQM.out hn0 gi 0 (.inr (.inl hai))
                obtain ⟨hgn1, hgn2⟩ := HAW.out q HQM.out hn0 gn 0 (.inr (.inr han))
                obtain ⟨W2, hW2⟩ : ∃ W, W = wr.setCell ⟨gi, k * 8 + 2, none⟩ (.int .i64 99) := ⟨_, rfl⟩
                have G2 := Lib.hid (show Low w4 W2 by rw [hW2]; exact Low.set G.out _ _ hgi1)
                have HD2 := Lib.hid (show Heads W2 g ms by rw [hW2]; exact HD.out.set _ _ _ (.inl hgi2))
                have WG2 := Lib.hid (show 0 < n → WrB W2 g (n * 11) from fun h => by rw [hW2]; exact (WG.out h).set _ _)
                have WO2 := Lib.hid (show ∀ q ∈ ms, WOk W2 q from fun q hq => by rw [hW2]; exact (WO.out q hq).set _ _)
                have HW2 := Lib.hid hW2
                clear hW2 G HD WG WO hwi t10 t2 hai
                go_upto_region 26 with fail
                rw [← HW2.out]
                clear HW2 hy1 f1 t9
                obtain ⟨t2, t9, t10⟩ := HHQ.out _ HD2.out
                rw [HNN.out, han] at t10
                obtain ⟨gn', han', hwn⟩ := (WO2.out q HQM.out).nms (by rw [HNN.out]; omega)
                rw [han] at han'
                obtain rfl : gn = gn' := by injection han' with h; injection h
                rw [HNN.out] at hwn
                obtain ⟨y2, hy2⟩ := hwn.get (o := k) (by omega)
                have f2 := hwn.free k
                obtain ⟨W3, hW3⟩ : ∃ W, W = W2.setCell ⟨gn, k, none⟩ (.string ⟨#[99, 104, 97, 110, 103, 101, 100]⟩) := ⟨_, rfl⟩
                have G3 := Lib.hid (show Low w4 W3 by rw [hW3]; exact Low.set G2.out _ _ hgn1)
                have HD3 := Lib.hid (show Heads W3 g ms by rw [hW3]; exact HD2.out.set _ _ _ (.inl hgn2))
                have WG3 := Lib.hid (show 0 < n → WrB W3 g (n * 11) from fun h => by rw [hW3]; exact (WG2.out h).set _ _)
                have WO3 := Lib.hid (show ∀ q ∈ ms, WOk W3 q from fun q hq => by rw [hW3]; exact (WO2.out q hq).set _ _)
                have HW3 := Lib.hid hW3
                clear hW3 G2 HD2 WG2 WO2 hwn t2 t9 han han'
                go_wp2_with fail
                rw [← HW3.out]
                go_roundg (nl - (k + 1))
                case measure => omega
                case rel => exact ⟨k + 1, by go_num, by omega, by omega, G3, HD3, WG3, WO3⟩
              · have zk : ¬ (k : Int) < (nl : Int) := by omega
                go_wp2_with fail
                go_roundg (n - (i + 1))
                case measure => omega
                case rel => exact ⟨i + 1, by go_num, by omega, by omega, G, HD, WG, WO⟩
      · have zl : ¬ (i : Int) < (n : Int) := by omega
        have HA3 := Lib.hid (all6_c wr z rs (S4.out.low G.out) HG.out)
        have HWR := Lib.hid (HWAS.out.low G.out)
        have LR := Lib.hid (L4.out.trans G.out)
        clear G HD WG WO HLEN HAW HG0 S4 HWAS L4
        go_wp2_with fail
        refine HA3.out.mono ?_
        rintro e w6 ⟨v6, rs6, rfl, hr6, hO6, hE6, -, l6⟩
        have HW := Lib.hid (wholeE_c rs4 rs6 w6 _ _ (HWR.out.low l6) ⟨hO6.esAt, fun q hq => (hE6 q hq).any⟩ (by rw [HR4.out, hr6]))
        have L6 := Lib.hid (LR.out.trans l6)
        clear hr6 hO6 hE6 l6 HA3 HWR
        go_wp2_with fail
        refine HW.out.mono ?_
        rintro e w7 ⟨rfl, g7⟩
        have L7 := Lib.hid (L6.out.trans g7.low)
        clear g7 HW
        go_wp2_with fail
        go_ret
        exact ⟨rfl, L7.out⟩
end Go.Proofs.YtmkillbanmbafaaGreat
