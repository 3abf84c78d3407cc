/- The reference's Join of two records. Condition: types that may be. -/
import Derived.Test.YtjipncpgmajeeaaTyR8a
namespace Go.Proofs.Ytjipncpgmajeeaa
open Go.RowKit
set_option maxHeartbeats 12800000 in
set_option maxRecDepth 100000 in
theorem rjoin8_c {n : Nat} (hj : RJnC n) {A : Nat → Prop} (a b : T) (w : World) (e v e' v' : Value) (ha : RT A w (n + 1) a e v) (hb : RT A w (n + 1) b e' v') (ma : mayB (n + 1) a = true) (mb : mayB (n + 1) b = true) (h1 : belB (n + 1) a b = false) (h2 : belB (n + 1) b a = false) (h3 : trB a = false) (hk : a.k = b.k) (h8 : a.k = 8) (hnm : namesB a.ats b.ats = true) (hx : ∀ j (h1 : j < a.ats.length), Sm n (aty a.ats[j]) ∧ mayB n (aty a.ats[j]) = true) (hy : ∀ j (h1 : j < b.ats.length), Sm n (aty b.ats[j]) ∧ mayB n (aty b.ats[j]) = true) (hl : a.ats.length ≤ 1000) : Calls Try.prog 21 #[tv a e v, tv b e' v'] w (JoinP A (n + 1) (jn (n + 1) a b) w) := by
  obtain ⟨pe, ce, pv, cv, rfl, rfl, z1, z2, z3, z4⟩ := ha.sl
  obtain ⟨pe', ce', pv', cv', rfl, rfl, z1', z2', z3', z4'⟩ := hb.sl
  obtain ⟨U, hU⟩ : ∃ U, U = ((w.alloc (.cells #[.int .i64 a.k, .string a.n, .slice pe a.l.length ce, .slice pv a.ats.length cv] 25)).alloc (.cells #[.int .i64 b.k, .string b.n, .slice pe' b.l.length ce', .slice pv' b.ats.length cv'] 25)).alloc (.cells #[.int .i64 0, .string ⟨#[]⟩, .slice none 0 0, .slice none 0 0] 25) := ⟨_, rfl⟩
  have LU := Lib.hid (show Low w U by rw [hU]; exact low_new (low_new (low_new (Low.refl w) _) _) _)
  have FU := Lib.hid (fun W (h : Low U W) => low_box2 (w := w) (wr := W) ((show Low ((w.alloc (.cells #[.int .i64 a.k, .string a.n, .slice pe a.l.length ce, .slice pv a.ats.length cv] 25)).alloc (.cells #[.int .i64 b.k, .string b.n, .slice pe' b.l.length ce', .slice pv' b.ats.length cv'] 25)) U by rw [hU]; exact low_new (Low.refl _) _).trans h))
  have ZU := Lib.hid (show BoxAt U (w.heap.size + 2) [.int .i64 0, .string ⟨#[]⟩, .slice none 0 0, .slice none 0 0] from BoxAt.made hU (by simp) rfl)
  have HZS := Lib.hid (show U.heap.size = w.heap.size + 3 by rw [hU]; simp)
  have HU := Lib.hid hU
  have HB1 := Lib.hid (rBelow_c (n + 1) A A a b U _ _ _ _ (ha.low LU.out) (hb.low LU.out) ma mb)
  have HB2 := Lib.hid fun W (l : Low U W) => rBelow_c (n + 1) A A b a W _ _ _ _ (hb.low (LU.out.trans l)) (ha.low (LU.out.trans l)) mb ma
  rw [h1] at HB1
  rw [h2] at HB2
  have q0 : (a.k == b.k) = true := by simp [hk]
  have q1 : (!a.k == b.k) = false := by rw [q0]; rfl
  obtain ⟨-, -, hla⟩ := rt_succ.1 ha
  obtain ⟨-, -, hlb⟩ := rt_succ.1 hb
  have HNM := Lib.hid fun W (l : Low U W) => rNames_c a.ats b.ats W _ _ (hla.low (LU.out.trans l)) (hlb.low (LU.out.trans l))
  obtain ⟨R, hR⟩ : ∃ R, R = pairJ (jn n) a.ats b.ats := ⟨_, rfl⟩
  have HJ := Lib.hid (show jn (n + 1) a b = R.map fun r => .mk 8 ⟨#[]⟩ [] r by rw [hR]; rw [jn, if_neg (by rw [h1]; simp), if_neg (by rw [h2]; simp), if_neg (by rw [h3]; simp), if_neg (by simpa using hk), if_neg (by omega), if_pos h8])
  obtain ⟨hlen, hnames⟩ : a.ats.length = b.ats.length ∧ ∀ j (h1 : j < a.ats.length) (h2 : j < b.ats.length), an a.ats[j] = an b.ats[j] := by
    have h := of_decide_eq_true (show decide (a.ats.map an = b.ats.map an) = true from hnm)
    refine ⟨by simpa using congrArg List.length h, fun j h1 h2 => ?_⟩
    have := congrArg (fun x => x[j]?) h
    simpa [h1, h2] using this
  have q7 : (a.k == 7) = false := by simp [h8]
  have q8 : (a.k == 8) = true := by simp [h8]
  have q9 : (!a.k == 8) = false := by rw [q8]; rfl
  have H8 := Lib.hid h8
  have c1 : (1 : Int) ≤ a.k := by omega
  have c2 : ¬ a.k ≤ (3 : Int) := by omega
  rw [hnm] at HNM
  have HRA := Lib.hid (RAs.low hla.lt LU.out)
  have HRB := Lib.hid (RAs.low hlb.lt LU.out)
  have HX := Lib.hid hx
  have HY := Lib.hid hy
  have HL := Lib.hid hl
  have HLEN := Lib.hid hlen
  have HNS := Lib.hid hnames
  have HJN := Lib.hid hj
  have CN := Lib.hid (show ∀ j (h1 : j < a.ats.length) (h2 : j < b.ats.length), jn n (aty a.ats[j]) (aty b.ats[j]) = none → R = none from fun j h1 h2 h => hR.trans (pairJ_at_none h1 h2 (.inr h)))
  have CY := Lib.hid (show ∀ ps : List Ae, ps.length = a.ats.length → (∀ j (h1 : j < a.ats.length) (h2 : j < b.ats.length) (h3 : j < ps.length), jn n (aty a.ats[j]) (aty b.ats[j]) = some (aty ps[j].x) ∧ an ps[j].x = an a.ats[j] ∧ ao ps[j].x = (ao a.ats[j] || ao b.ats[j])) → R = some (ps.map Ae.x) from fun ps h2 h3 => by
    rw [hR, pairJ_some]
    exact ⟨hlen, by simp [h2], fun j j1 j2 j3 => by
      obtain ⟨k1, k2, k3⟩ := h3 j j1 j2 (by simpa using j3)
      exact ⟨hnames j j1 j2, by simpa using ⟨k1, k2, k3⟩⟩⟩)
  unfold tv at *
  clear ha hb ma mb hU h1 h2 h3 h8 hk hnm hla hlb hx hy hl hlen hnames hj hR
  go_enter Try.func21, Try.ntmps21
  go_upto_region 1 with fail
  rw [← HU.out]
  obtain ⟨⟨f0, f1, f2, f3⟩, i0, i1, i2, i3⟩ := FU.out U (Low.refl U)
  go_wp2_with fail
  refine HB1.out.mono ?_
  rintro e w1 ⟨rfl, l1⟩
  have L1 := Lib.hid l1
  clear l1 HB1
  clear f0 f1 f2 f3 i0 i1 i2 i3
  obtain ⟨⟨f0, f1, f2, f3⟩, i0, i1, i2, i3⟩ := FU.out w1 L1.out
  have HB3 := Lib.hid (HB2.out w1 L1.out)
  go_wp2_with fail
  refine HB3.out.mono ?_
  rintro e w2 ⟨rfl, l2⟩
  have L2 := Lib.hid (L1.out.trans l2)
  clear l2 HB3 HB2
  clear f0 f1 f2 f3 i0 i1 i2 i3
  obtain ⟨⟨f0, f1, f2, f3⟩, i0, i1, i2, i3⟩ := FU.out w2 L2.out
  have HN := Lib.hid (HNM.out w2 L2.out)
  go_wp2_with fail
  refine HN.out.mono ?_
  rintro e w3 ⟨rfl, l3⟩
  have L3 := Lib.hid (L2.out.trans l3)
  clear l3 HN HNM
  clear f0 f1 f2 f3 i0 i1 i2 i3
  obtain ⟨⟨f0, f1, f2, f3⟩, i0, i1, i2, i3⟩ := FU.out w3 L3.out
  go_wp2_with fail
  all_goals (try (exfalso; exact absurd H8.out (by assumption)))
  refine gen_wr (P := fun W => Code.wp _ _ _ _ W) (fun V hV => ?_)
  have LV := Lib.hid (show Low w3 V by rw [hV]; exact low_new (Low.refl _) _)
  have HS := Lib.hid (show RecSx (fun z => A z ∧ z < w.heap.size) U (w3.heap.size + 1) w3.heap.size n V (.slice none 0 0) [] from ⟨BoxAt.made hV rfl rfl, OwnR.nil _ _ _ _ _, fun p hp => (by simp at hp), L3.out.trans LV.out, Nat.lt_succ_self _, L3.out.size, by rw [hV]; simp⟩)
  clear hV f0 f1 f2 f3 i0 i1 i2 i3
  go_loopg [10] a.ats.length (fun gk vi wr => ∃ (i : Nat) (vr : Value) (ps : List Ae), vi = .int .i64 (i : Int) ∧ i ≤ a.ats.length ∧ a.ats.length - i ≤ gk ∧ Hid (ps.length = i) ∧ Hid (RecSx (fun z => A z ∧ z < w.heap.size) U (w3.heap.size + 1) w3.heap.size n wr vr ps) ∧ Hid (∀ j (h1 : j < a.ats.length) (h2 : j < b.ats.length) (h3 : j < ps.length), jn n (aty a.ats[j]) (aty b.ats[j]) = some (aty ps[j].x) ∧ an ps[j].x = an a.ats[j] ∧ ao ps[j].x = (ao a.ats[j] || ao b.ats[j])))
  case atStart => exact ⟨0, .slice none 0 0, [], rfl, Nat.zero_le _, Nat.le_refl _, Lib.hid rfl, HS, Lib.hid fun j h1 h2 h => absurd h (Nat.not_lt_zero _)⟩
  case round =>
    obtain ⟨i, vr, ps, rfl, hi, hg, PL, G, K⟩ := hrel
    obtain ⟨⟨f0, f1, f2, f3⟩, i0, i1, i2, i3⟩ := FU.out wr G.out.low
    clear f0 f1 f2 i0 i1 i2
    by_cases hlt : i < a.ats.length
    · have zl : (i : Int) < (a.ats.length : Int) := by omega
      have hlt' : i < b.ats.length := by have := HLEN.out; omega
      obtain ⟨bb, o, qe, de, qv, dv, rfl, -, e0, e1, e2, e3, e4, e5, hsz, hx⟩ := RAs.at (RAs.low HRA.out G.out.low) hlt
      obtain ⟨bb', o', qe', de', qv', dv', rfl, -, d0, d1, d2, d3, d4, d5, -, hy⟩ := RAs.at (RAs.low HRB.out G.out.low) hlt'
      have HC := Lib.hid fun W (l : Low wr W) => (show Calls Try.prog 21 #[.agg #[.int .i64 (aty a.ats[i]).k, .string (aty a.ats[i]).n, .slice qe (aty a.ats[i]).l.length de, .slice qv (aty a.ats[i]).ats.length dv], .agg #[.int .i64 (aty b.ats[i]).k, .string (aty b.ats[i]).n, .slice qe' (aty b.ats[i]).l.length de', .slice qv' (aty b.ats[i]).ats.length dv']] W _ from HJN.out (fun z => A z ∧ z < w.heap.size) (aty a.ats[i]) (aty b.ats[i]) W _ _ _ _ (hx.low l) (hy.low l) (HX.out i hlt).1 (HY.out i hlt').1 (HX.out i hlt).2 (HY.out i hlt').2)
      obtain ⟨q, hq⟩ : ∃ q, q = jn n (aty a.ats[i]) (aty b.ats[i]) := ⟨_, rfl⟩
      rw [← hq] at HC
      have HQ := Lib.hid hq
      have HSZ := Lib.hid hsz
      have HE := Lib.hid (And.intro (And.intro e0 (And.intro e1 (And.intro e2 (And.intro e3 (And.intro e4 e5))))) (And.intro d1 (And.intro d2 (And.intro d3 (And.intro d4 d5)))))
      clear hx hy hq hsz e0 e1 e2 e3 e4 e5 d0 d1 d2 d3 d4 d5
      go_upto_region 21 with fail
      refine wp_region_any mixedT ?_
      clear f3 i3
      refine wpAny_takeL (W := wr) (fuel := 18) 12 16 0 (.pointer (some ⟨w.heap.size, 3, none⟩)) rfl (by kernel_rfl) (low_drew (Low.refl wr)) (by rfl) (fun W hW => ?_) (fun _ _ _ h => h) ?_
      · go_simp
      refine wpAny_takeL (W := wr) (fuel := 17) 12 16 1 (.slice (some ⟨bb, o, none⟩) a.ats.length cv) rfl (by kernel_rfl) (low_drew (Low.refl wr)) (by rfl) (fun W hW => ?_) (fun _ _ _ h => h) ?_
      · obtain ⟨⟨-, -, -, f3⟩, -, -, -, i3⟩ := FU.out W (G.out.low.trans hW); go_simp
      refine wpAny_takeL (W := wr) (fuel := 16) 12 16 2 (.int .i64 (i : Int)) rfl (by kernel_rfl) (low_drew (Low.refl wr)) (by rfl) (fun W hW => ?_) (fun _ _ _ h => h) ?_
      · go_simp
      refine wpAny_takeL (W := wr) (fuel := 15) 12 16 3 (.pointer (some ⟨bb, o + i * 6, none⟩)) rfl (by kernel_rfl) (low_drew (Low.refl wr)) (by rfl) (fun W hW => ?_) (fun _ _ _ h => h) ?_
      · go_simp
      refine wpAny_takeL (W := wr) (fuel := 14) 12 16 4 (.pointer (some ⟨bb, o + i * 6 + 1, none⟩)) rfl (by kernel_rfl) (low_drew (Low.refl wr)) (by rfl) (fun W hW => ?_) (fun _ _ _ h => h) ?_
      · go_simp
      refine wpAny_takeL (W := wr) (fuel := 13) 12 16 5 (.agg #[.int .i64 (aty a.ats[i]).k, .string (aty a.ats[i]).n, .slice qe (aty a.ats[i]).l.length de, .slice qv (aty a.ats[i]).ats.length dv]) rfl (by kernel_rfl) (low_drew (Low.refl wr)) (by rfl) (fun W hW => ?_) (fun _ _ _ h => h) ?_
      · obtain ⟨⟨e0, e1, e2, e3, e4, e5⟩, d1, d2, d3, d4, d5⟩ := HE.out; have e1 := hW.keep e1; have e2 := hW.keep e2; have e3 := hW.keep e3; have e4 := hW.keep e4; go_simp
      refine wpAny_takeL (W := wr) (fuel := 12) 12 16 6 (.pointer (some ⟨w.heap.size + 1, 3, none⟩)) rfl (by kernel_rfl) (low_drew (Low.refl wr)) (by rfl) (fun W hW => ?_) (fun _ _ _ h => h) ?_
      · go_simp
      refine wpAny_takeL (W := wr) (fuel := 11) 12 16 7 (.slice (some ⟨bb', o', none⟩) b.ats.length cv') rfl (by kernel_rfl) (low_drew (Low.refl wr)) (by rfl) (fun W hW => ?_) (fun _ _ _ h => h) ?_
      · obtain ⟨⟨-, -, -, f3⟩, -, -, -, i3⟩ := FU.out W (G.out.low.trans hW); go_simp
      refine wpAny_takeL (W := wr) (fuel := 10) 12 16 8 (.int .i64 (i : Int)) rfl (by kernel_rfl) (low_drew (Low.refl wr)) (by rfl) (fun W hW => ?_) (fun _ _ _ h => h) ?_
      · go_simp
      refine wpAny_takeL (W := wr) (fuel := 9) 12 16 9 (.pointer (some ⟨bb', o' + i * 6, none⟩)) rfl (by kernel_rfl) (low_drew (Low.refl wr)) (by rfl) (fun W hW => ?_) (fun _ _ _ h => h) ?_
      · have zl2 : (i : Int) < (b.ats.length : Int) := (by omega); go_simp
      refine wpAny_takeL (W := wr) (fuel := 8) 12 16 10 (.pointer (some ⟨bb', o' + i * 6 + 1, none⟩)) rfl (by kernel_rfl) (low_drew (Low.refl wr)) (by rfl) (fun W hW => ?_) (fun _ _ _ h => h) ?_
      · go_simp
      refine wpAny_takeL (W := wr) (fuel := 7) 12 16 11 (.agg #[.int .i64 (aty b.ats[i]).k, .string (aty b.ats[i]).n, .slice qe' (aty b.ats[i]).l.length de', .slice qv' (aty b.ats[i]).ats.length dv']) rfl (by kernel_rfl) (low_drew (Low.refl wr)) (by rfl) (fun W hW => ?_) (fun _ _ _ h => h) ?_
      · obtain ⟨⟨e0, e1, e2, e3, e4, e5⟩, d1, d2, d3, d4, d5⟩ := HE.out; have d1 := hW.keep d1; have d2 := hW.keep d2; have d3 := hW.keep d3; have d4 := hW.keep d4; go_simp
      refine wpAny_ready (fuel := 6) (rs := [12, 16]) (by kernel_rfl) (by simp) ?_
      refine AllReady.cons rfl (fun K' hK => ?_) ?_
      · go_simp
        refine (HC.out _ (low_drew (Low.refl wr))).mono ?_
        rintro e w9 ⟨t, re, me, rv, mv, er, rfl, hjr, hrt, l9⟩
        have L9 := Lib.hid l9
        have HRT := Lib.hid hrt
        have HJR := Lib.hid hjr
        clear hjr hrt l9
        go_simp
        refine hK _ _ ?_
        clear hK K'
        refine wpAny_take (fuel := 5) (i := 13) (v := .tuple #[.agg #[.int .i64 t.k, .string t.n, .slice re t.l.length me, .slice rv t.ats.length mv], .int .i64 er]) rfl (by kernel_rfl) (by kernel_rfl) (by kernel_rfl) (fun _ _ _ h => h) (Or.inl ⟨by rfl, fun W => ?_⟩) ?_
        · go_simp
        refine wpAny_take (fuel := 4) (i := 14) (v := .agg #[.int .i64 t.k, .string t.n, .slice re t.l.length me, .slice rv t.ats.length mv]) rfl (by kernel_rfl) (by kernel_rfl) (by kernel_rfl) (fun _ _ _ h => h) (Or.inl ⟨by rfl, fun W => ?_⟩) ?_
        · go_simp
        refine wpAny_take (fuel := 3) (i := 15) (v := .int .i64 er) rfl (by kernel_rfl) (by kernel_rfl) (by kernel_rfl) (fun _ _ _ h => h) (Or.inl ⟨by rfl, fun W => ?_⟩) ?_
        · go_simp
        refine wpAny_ready (fuel := 2) (rs := [16]) (by kernel_rfl) (by simp) ?_
        refine AllReady.cons rfl (fun K' hK => ?_) (AllReady.nil)
        go_simp
        refine hK _ _ ?_
        clear hK K'
        refine wpAny_ready (fuel := 1) (rs := [17]) (by kernel_rfl) (by simp) ?_
        refine AllReady.cons rfl (fun K' hK => ?_) (AllReady.nil)
        go_simp
        refine hK _ _ ?_
        clear hK K'
        refine wpAny_ready (fuel := 0) (rs := [18]) (by kernel_rfl) (by simp) ?_
        refine AllReady.cons rfl (fun K' hK => ?_) (AllReady.nil)
        go_simp
        refine hK _ _ ?_
        clear hK K'
        refine wpAny_done (by kernel_rfl) ?_ _
        refine leaf_of (P := fun W' => Exit.then _ _ .normal _ W') (fun W' => RecSx (fun z => A z ∧ z < w.heap.size) U (w3.heap.size + 1) w3.heap.size n W' vr ps ∧ Low wr W' ∧ BoxAt W' w9.heap.size [.int .i64 t.k, .string t.n, .slice re t.l.length me, .slice rv t.ats.length mv] ∧ RT (fun z => (((A z ∧ z < w.heap.size) ∧ z < U.heap.size) ∨ w3.heap.size + 1 ≤ z) ∧ some z ≠ vr.ownBlock) W' n t (.slice re t.l.length me) (.slice rv t.ats.length mv)) ?_ ?_
        · have y1 := L3.out.size
          have y2 := LU.out.size
          have y3 := G.out.szB
          have y4 := G.out.w0B
          have nb : ∀ z, z < w.heap.size ∨ wr.heap.size ≤ z → some z ≠ vr.ownBlock := fun z hz e => by
            have y5 := World.ownsRow.lt G.out.row z e.symm
            omega
          refine ⟨G.out.to ((low_drew (Low.refl wr)).trans (low_new L9.out _)), (low_drew (Low.refl wr)).trans (low_new L9.out _), BoxAt.made rfl rfl rfl, RT.low (RT.to (fun z hz _ => ⟨?_, rfl⟩) HRT.out) (low_new (Low.refl w9) _)⟩
          rcases hz with hz | hz
          · exact ⟨.inl ⟨hz, by have := hz.2; omega⟩, nb z (.inl hz.2)⟩
          · exact ⟨.inr (Nat.le_trans y3 hz), nb z (.inr hz)⟩
        rintro V1 ⟨sv, lv, bv, rv'⟩
        have SV := Lib.hid sv
        have LW := Lib.hid lv
        have BV := Lib.hid bv
        have RV := Lib.hid rv'
        clear sv lv bv rv' HRT
        cases q with
        | none =>
          obtain ⟨rfl, rfl⟩ := HJR.out
          have HJ2 := Lib.hid (show jn (n + 1) a b = none by rw [HJ.out, CN.out i hlt hlt' HQ.out.symm]; rfl)
          obtain ⟨g0, g1, g2, g3⟩ := (ZU.out.low SV.out.low).at4
          obtain ⟨o0, o1, o2, o3⟩ := (ZU.out.low SV.out.low).op4
          go_wp2_with fail
          refine bodyPost_ret (v := .tuple #[.agg #[.int .i64 0, .string ⟨#[]⟩, .slice none 0 0, .slice none 0 0], .int .i64 30]) (by simp [results, Try.results21, go_sem, World.cell?_setCell_same', g0, g1, g2, g3]; try rfl) rfl ?_
          have K8 := kept4 V1 (w.heap.size + 2) 0 1 2 3 (.int .i64 0) (.string ⟨#[]⟩) (.slice none 0 0) (.slice none 0 0)
          refine ⟨noT, none, 0, none, 0, 30, rfl, ?_, rt_kind _ _ _ _, low_all (LU.out.trans SV.out.low) (by omega) K8⟩
          rw [HJ2.out]; exact ⟨rfl, rfl⟩
        | some jt =>
          obtain ⟨rfl, rfl⟩ := HJR.out
          go_upto_region 24 with fail
          obtain ⟨⟨-, -, -, f3⟩, -, -, -, i3⟩ := FU.out V1 SV.out.low
          obtain ⟨⟨e0, -, -, -, -, e5⟩, -, -, -, -, d5⟩ := HE.out
          have e0 := LW.out.keep e0
          have e5 := LW.out.keep e5
          have d5 := LW.out.keep d5
          obtain ⟨k0, k1, k2, k3⟩ := BV.out.at4
          obtain ⟨aov, cav, hvr, -, -, -⟩ := OwnR.shape SV.out.row
          subst hvr
          have r3 := SV.out.box.at 3 _ rfl
          obtain ⟨ox, hox⟩ : ∃ q, q = ao a.ats[i] := ⟨_, rfl⟩
          obtain ⟨oy, hoy⟩ : ∃ q, q = ao b.ats[i] := ⟨_, rfl⟩
          have HOO := Lib.hid (show (ox || oy) = (ao a.ats[i] || ao b.ats[i]) by rw [hox, hoy])
          rw [← hox] at e5
          rw [← hoy] at d5
          clear hox hoy
          have HRB := Lib.hid (show w3.heap.size < V1.heap.size from SV.out.box.lt)
          have zl2 : (i : Int) < (b.ats.length : Int) := by omega
          cases ox <;> cases oy
          ·
            have cr3 := fun p : InF V1 (.cells #[.string (an a.ats[i]), .int .i64 t.k, .string t.n, .slice re t.l.length me, .slice rv t.ats.length mv, .bool false] 30) => p.cell r3 ((low_new (Low.refl V1) _).keep r3)
            have cf3 := fun p : InF V1 (.cells #[.string (an a.ats[i]), .int .i64 t.k, .string t.n, .slice re t.l.length me, .slice rv t.ats.length mv, .bool false] 30) => p.cell f3 ((low_new (Low.refl V1) _).keep f3)
            have ci3 := fun p : InF V1 (.cells #[.string (an a.ats[i]), .int .i64 t.k, .string t.n, .slice re t.l.length me, .slice rv t.ats.length mv, .bool false] 30) => p.cell i3 ((low_new (Low.refl V1) _).keep i3)
            have ce0 := fun p : InF V1 (.cells #[.string (an a.ats[i]), .int .i64 t.k, .string t.n, .slice re t.l.length me, .slice rv t.ats.length mv, .bool false] 30) => p.cell e0 ((low_new (Low.refl V1) _).keep e0)
            have ce5 := fun p : InF V1 (.cells #[.string (an a.ats[i]), .int .i64 t.k, .string t.n, .slice re t.l.length me, .slice rv t.ats.length mv, .bool false] 30) => p.cell e5 ((low_new (Low.refl V1) _).keep e5)
            have cd5 := fun p : InF V1 (.cells #[.string (an a.ats[i]), .int .i64 t.k, .string t.n, .slice re t.l.length me, .slice rv t.ats.length mv, .bool false] 30) => p.cell d5 ((low_new (Low.refl V1) _).keep d5)
            have ck0 := fun p : InF V1 (.cells #[.string (an a.ats[i]), .int .i64 t.k, .string t.n, .slice re t.l.length me, .slice rv t.ats.length mv, .bool false] 30) => p.cell k0 ((low_new (Low.refl V1) _).keep k0)
            have ck1 := fun p : InF V1 (.cells #[.string (an a.ats[i]), .int .i64 t.k, .string t.n, .slice re t.l.length me, .slice rv t.ats.length mv, .bool false] 30) => p.cell k1 ((low_new (Low.refl V1) _).keep k1)
            have ck2 := fun p : InF V1 (.cells #[.string (an a.ats[i]), .int .i64 t.k, .string t.n, .slice re t.l.length me, .slice rv t.ats.length mv, .bool false] 30) => p.cell k2 ((low_new (Low.refl V1) _).keep k2)
            have ck3 := fun p : InF V1 (.cells #[.string (an a.ats[i]), .int .i64 t.k, .string t.n, .slice re t.l.length me, .slice rv t.ats.length mv, .bool false] 30) => p.cell k3 ((low_new (Low.refl V1) _).keep k3)
            haveI := InF.some V1 (.cells #[.string (an a.ats[i]), .int .i64 t.k, .string t.n, .slice re t.l.length me, .slice rv t.ats.length mv, .bool false] 30)
            refine wp_region_make (.cells #[.string (an a.ats[i]), .int .i64 t.k, .string t.n, .slice re t.l.length me, .slice rv t.ats.length mv, .bool false] 30) 25 24 mixedT (by kernel_rfl) ?_
            simp only [List.take_succ_cons, List.take_zero]
            repeat (go_big_quiet_step (fail))
            refine wpQuiet_nil ?_
            refine ⟨_, (.slice (some ⟨V1.heap.size, 0, none⟩) 1 1), rfl, ⟨rfl, ?_⟩, ?_⟩
            · simp [execOp, go_sem]
            refine wpQuiet_nil ?_
            refine wpAny_ready (fuel := 2) (rs := [25]) (by kernel_rfl) (by simp) ?_
            refine AllReady.cons rfl (fun K' hK => ?_) (AllReady.nil)
            refine ownR_step2 rfl _ _ _ rfl Try.underlying23 a_info rfl (by decide) (by decide) encA_len encA_one (w3.heap.size + 1) (.slice aov ps.length cav) ps rfl (OwnR.low SV.out.row (low_new (low_drew (Low.refl V1)) _)) (⟨(an a.ats[i], t, false), re, me, rv, mv⟩ : Ae) ⟨V1.heap.size, 0, none⟩ 1 rfl (fun j u hj => newcell_at _ _ _ _ _ rfl hj) (by have := PL.out; have := HL.out; omega) (by have := SV.out.szB; simp; omega) ?_
            intro a2 w4 h2 bl k2' n2
            obtain ⟨ao2, cc2, ha2, -, -, -⟩ := OwnR.shape h2
            rw [show (ps ++ [(⟨(an a.ats[i], t, false), re, me, rv, mv⟩ : Ae)]).length = ps.length + 1 by simp] at ha2
            subst ha2
            have H2 := Lib.hid (show OwnR _ _ _ _ _ _ _ from h2)
            have HB2 := Lib.hid (show RowKit.Below _ _ _ from bl)
            have HK2 := Lib.hid k2'
            have HN2 := Lib.hid n2
            have b4 := Lib.hid (show w4.cell? ⟨w3.heap.size, 3, none⟩ = some (.slice aov ps.length cav) ∧ w4.frozen? ⟨w3.heap.size, 3, none⟩ = false from ⟨(World.cell?_of_block (w' := w4) (a := ⟨w3.heap.size, 3, none⟩) (HB2.out.block w3.heap.size SV.out.rbB)).trans ((low_new (Low.refl V1) _).keep r3), (World.frozen?_of_block (w' := w4) (a := ⟨w3.heap.size, 3, none⟩) (HB2.out.block w3.heap.size SV.out.rbB)).trans ((SV.out.to (low_new (low_drew (Low.refl V1)) _)).box.open' 3)⟩)
            obtain ⟨b4c, b4f⟩ := b4.out
            clear h2 bl k2' n2
            refine hK _ _ ?_
            clear hK K'
            refine wpAny_ready (fuel := 1) (rs := [26]) (by kernel_rfl) (by simp) ?_
            refine AllReady.cons rfl (fun K' hK => ?_) (AllReady.nil)
            go_simp
            refine hK _ _ ?_
            clear hK K'
            refine wpAny_ready (fuel := 0) (rs := [27]) (by kernel_rfl) (by simp) ?_
            refine AllReady.cons rfl (fun K' hK => ?_) (AllReady.nil)
            go_simp
            refine hK _ _ ?_
            clear hK K'
            refine wpAny_done (by kernel_rfl) ?_ _
            refine leaf_of (P := fun W' => (_ : Act → World → Prop) _ W') (fun W' => RecSx (fun z => A z ∧ z < w.heap.size) U (w3.heap.size + 1) w3.heap.size n W' (.slice ao2 (ps.length + 1) cc2) (ps ++ [(⟨(an a.ats[i], t, false), re, me, rv, mv⟩ : Ae)])) ?_ ?_
            · exact RecSx.put (SV.out.to (low_new (low_drew (Low.refl V1)) _)) H2.out HB2.out HK2.out HN2.out ⟨HSZ.out, RV.out.low (low_new (low_drew (Low.refl V1)) _)⟩
            intro W5 h5
            have HW5 := Lib.hid h5
            clear h5 H2 HB2 HK2 HN2 b4 b4c b4f RV BV
            go_wp2_with fail
            go_roundg (a.ats.length - (i + 1))
            case measure => omega
            case rel =>
              refine ⟨i + 1, _, ps ++ [(⟨(an a.ats[i], t, false), re, me, rv, mv⟩ : Ae)], by go_num, by omega, by omega, Lib.hid (by simp [PL.out]), HW5, Lib.hid fun j h1 h2 h3 => ?_⟩
              have pl := PL.out
              rcases Nat.lt_or_ge j i with h | h
              · rw [List.getElem_append_left (by omega)]
                exact K.out j h1 h2 (by omega)
              · obtain rfl : j = i := by simp at h3; omega
                rw [List.getElem_append_right (by omega)]
                simp only [pl, Nat.sub_self, List.getElem_cons_zero]
                exact ⟨HQ.out.symm, by first | trivial | rfl, HOO.out⟩
          ·
            have cr3 := fun p : InF V1 (.cells #[.string (an a.ats[i]), .int .i64 t.k, .string t.n, .slice re t.l.length me, .slice rv t.ats.length mv, .bool true] 30) => p.cell r3 ((low_new (Low.refl V1) _).keep r3)
            have cf3 := fun p : InF V1 (.cells #[.string (an a.ats[i]), .int .i64 t.k, .string t.n, .slice re t.l.length me, .slice rv t.ats.length mv, .bool true] 30) => p.cell f3 ((low_new (Low.refl V1) _).keep f3)
            have ci3 := fun p : InF V1 (.cells #[.string (an a.ats[i]), .int .i64 t.k, .string t.n, .slice re t.l.length me, .slice rv t.ats.length mv, .bool true] 30) => p.cell i3 ((low_new (Low.refl V1) _).keep i3)
            have ce0 := fun p : InF V1 (.cells #[.string (an a.ats[i]), .int .i64 t.k, .string t.n, .slice re t.l.length me, .slice rv t.ats.length mv, .bool true] 30) => p.cell e0 ((low_new (Low.refl V1) _).keep e0)
            have ce5 := fun p : InF V1 (.cells #[.string (an a.ats[i]), .int .i64 t.k, .string t.n, .slice re t.l.length me, .slice rv t.ats.length mv, .bool true] 30) => p.cell e5 ((low_new (Low.refl V1) _).keep e5)
            have cd5 := fun p : InF V1 (.cells #[.string (an a.ats[i]), .int .i64 t.k, .string t.n, .slice re t.l.length me, .slice rv t.ats.length mv, .bool true] 30) => p.cell d5 ((low_new (Low.refl V1) _).keep d5)
            have ck0 := fun p : InF V1 (.cells #[.string (an a.ats[i]), .int .i64 t.k, .string t.n, .slice re t.l.length me, .slice rv t.ats.length mv, .bool true] 30) => p.cell k0 ((low_new (Low.refl V1) _).keep k0)
            have ck1 := fun p : InF V1 (.cells #[.string (an a.ats[i]), .int .i64 t.k, .string t.n, .slice re t.l.length me, .slice rv t.ats.length mv, .bool true] 30) => p.cell k1 ((low_new (Low.refl V1) _).keep k1)
            have ck2 := fun p : InF V1 (.cells #[.string (an a.ats[i]), .int .i64 t.k, .string t.n, .slice re t.l.length me, .slice rv t.ats.length mv, .bool true] 30) => p.cell k2 ((low_new (Low.refl V1) _).keep k2)
            have ck3 := fun p : InF V1 (.cells #[.string (an a.ats[i]), .int .i64 t.k, .string t.n, .slice re t.l.length me, .slice rv t.ats.length mv, .bool true] 30) => p.cell k3 ((low_new (Low.refl V1) _).keep k3)
            haveI := InF.some V1 (.cells #[.string (an a.ats[i]), .int .i64 t.k, .string t.n, .slice re t.l.length me, .slice rv t.ats.length mv, .bool true] 30)
            refine wp_region_make (.cells #[.string (an a.ats[i]), .int .i64 t.k, .string t.n, .slice re t.l.length me, .slice rv t.ats.length mv, .bool true] 30) 25 24 mixedT (by kernel_rfl) ?_
            simp only [List.take_succ_cons, List.take_zero]
            repeat (go_big_quiet_step (fail))
            refine wpQuiet_nil ?_
            refine ⟨_, (.slice (some ⟨V1.heap.size, 0, none⟩) 1 1), rfl, ⟨rfl, ?_⟩, ?_⟩
            · simp [execOp, go_sem]
            refine wpQuiet_nil ?_
            refine wpAny_ready (fuel := 2) (rs := [25]) (by kernel_rfl) (by simp) ?_
            refine AllReady.cons rfl (fun K' hK => ?_) (AllReady.nil)
            refine ownR_step2 rfl _ _ _ rfl Try.underlying23 a_info rfl (by decide) (by decide) encA_len encA_one (w3.heap.size + 1) (.slice aov ps.length cav) ps rfl (OwnR.low SV.out.row (low_new (low_drew (Low.refl V1)) _)) (⟨(an a.ats[i], t, true), re, me, rv, mv⟩ : Ae) ⟨V1.heap.size, 0, none⟩ 1 rfl (fun j u hj => newcell_at _ _ _ _ _ rfl hj) (by have := PL.out; have := HL.out; omega) (by have := SV.out.szB; simp; omega) ?_
            intro a2 w4 h2 bl k2' n2
            obtain ⟨ao2, cc2, ha2, -, -, -⟩ := OwnR.shape h2
            rw [show (ps ++ [(⟨(an a.ats[i], t, true), re, me, rv, mv⟩ : Ae)]).length = ps.length + 1 by simp] at ha2
            subst ha2
            have H2 := Lib.hid (show OwnR _ _ _ _ _ _ _ from h2)
            have HB2 := Lib.hid (show RowKit.Below _ _ _ from bl)
            have HK2 := Lib.hid k2'
            have HN2 := Lib.hid n2
            have b4 := Lib.hid (show w4.cell? ⟨w3.heap.size, 3, none⟩ = some (.slice aov ps.length cav) ∧ w4.frozen? ⟨w3.heap.size, 3, none⟩ = false from ⟨(World.cell?_of_block (w' := w4) (a := ⟨w3.heap.size, 3, none⟩) (HB2.out.block w3.heap.size SV.out.rbB)).trans ((low_new (Low.refl V1) _).keep r3), (World.frozen?_of_block (w' := w4) (a := ⟨w3.heap.size, 3, none⟩) (HB2.out.block w3.heap.size SV.out.rbB)).trans ((SV.out.to (low_new (low_drew (Low.refl V1)) _)).box.open' 3)⟩)
            obtain ⟨b4c, b4f⟩ := b4.out
            clear h2 bl k2' n2
            refine hK _ _ ?_
            clear hK K'
            refine wpAny_ready (fuel := 1) (rs := [26]) (by kernel_rfl) (by simp) ?_
            refine AllReady.cons rfl (fun K' hK => ?_) (AllReady.nil)
            go_simp
            refine hK _ _ ?_
            clear hK K'
            refine wpAny_ready (fuel := 0) (rs := [27]) (by kernel_rfl) (by simp) ?_
            refine AllReady.cons rfl (fun K' hK => ?_) (AllReady.nil)
            go_simp
            refine hK _ _ ?_
            clear hK K'
            refine wpAny_done (by kernel_rfl) ?_ _
            refine leaf_of (P := fun W' => (_ : Act → World → Prop) _ W') (fun W' => RecSx (fun z => A z ∧ z < w.heap.size) U (w3.heap.size + 1) w3.heap.size n W' (.slice ao2 (ps.length + 1) cc2) (ps ++ [(⟨(an a.ats[i], t, true), re, me, rv, mv⟩ : Ae)])) ?_ ?_
            · exact RecSx.put (SV.out.to (low_new (low_drew (Low.refl V1)) _)) H2.out HB2.out HK2.out HN2.out ⟨HSZ.out, RV.out.low (low_new (low_drew (Low.refl V1)) _)⟩
            intro W5 h5
            have HW5 := Lib.hid h5
            clear h5 H2 HB2 HK2 HN2 b4 b4c b4f RV BV
            go_wp2_with fail
            go_roundg (a.ats.length - (i + 1))
            case measure => omega
            case rel =>
              refine ⟨i + 1, _, ps ++ [(⟨(an a.ats[i], t, true), re, me, rv, mv⟩ : Ae)], by go_num, by omega, by omega, Lib.hid (by simp [PL.out]), HW5, Lib.hid fun j h1 h2 h3 => ?_⟩
              have pl := PL.out
              rcases Nat.lt_or_ge j i with h | h
              · rw [List.getElem_append_left (by omega)]
                exact K.out j h1 h2 (by omega)
              · obtain rfl : j = i := by simp at h3; omega
                rw [List.getElem_append_right (by omega)]
                simp only [pl, Nat.sub_self, List.getElem_cons_zero]
                exact ⟨HQ.out.symm, by first | trivial | rfl, HOO.out⟩
          ·
            have cr3 := fun p : InF V1 (.cells #[.string (an a.ats[i]), .int .i64 t.k, .string t.n, .slice re t.l.length me, .slice rv t.ats.length mv, .bool true] 30) => p.cell r3 ((low_new (Low.refl V1) _).keep r3)
            have cf3 := fun p : InF V1 (.cells #[.string (an a.ats[i]), .int .i64 t.k, .string t.n, .slice re t.l.length me, .slice rv t.ats.length mv, .bool true] 30) => p.cell f3 ((low_new (Low.refl V1) _).keep f3)
            have ci3 := fun p : InF V1 (.cells #[.string (an a.ats[i]), .int .i64 t.k, .string t.n, .slice re t.l.length me, .slice rv t.ats.length mv, .bool true] 30) => p.cell i3 ((low_new (Low.refl V1) _).keep i3)
            have ce0 := fun p : InF V1 (.cells #[.string (an a.ats[i]), .int .i64 t.k, .string t.n, .slice re t.l.length me, .slice rv t.ats.length mv, .bool true] 30) => p.cell e0 ((low_new (Low.refl V1) _).keep e0)
            have ce5 := fun p : InF V1 (.cells #[.string (an a.ats[i]), .int .i64 t.k, .string t.n, .slice re t.l.length me, .slice rv t.ats.length mv, .bool true] 30) => p.cell e5 ((low_new (Low.refl V1) _).keep e5)
            have cd5 := fun p : InF V1 (.cells #[.string (an a.ats[i]), .int .i64 t.k, .string t.n, .slice re t.l.length me, .slice rv t.ats.length mv, .bool true] 30) => p.cell d5 ((low_new (Low.refl V1) _).keep d5)
            have ck0 := fun p : InF V1 (.cells #[.string (an a.ats[i]), .int .i64 t.k, .string t.n, .slice re t.l.length me, .slice rv t.ats.length mv, .bool true] 30) => p.cell k0 ((low_new (Low.refl V1) _).keep k0)
            have ck1 := fun p : InF V1 (.cells #[.string (an a.ats[i]), .int .i64 t.k, .string t.n, .slice re t.l.length me, .slice rv t.ats.length mv, .bool true] 30) => p.cell k1 ((low_new (Low.refl V1) _).keep k1)
            have ck2 := fun p : InF V1 (.cells #[.string (an a.ats[i]), .int .i64 t.k, .string t.n, .slice re t.l.length me, .slice rv t.ats.length mv, .bool true] 30) => p.cell k2 ((low_new (Low.refl V1) _).keep k2)
            have ck3 := fun p : InF V1 (.cells #[.string (an a.ats[i]), .int .i64 t.k, .string t.n, .slice re t.l.length me, .slice rv t.ats.length mv, .bool true] 30) => p.cell k3 ((low_new (Low.refl V1) _).keep k3)
            haveI := InF.some V1 (.cells #[.string (an a.ats[i]), .int .i64 t.k, .string t.n, .slice re t.l.length me, .slice rv t.ats.length mv, .bool true] 30)
            refine wp_region_make (.cells #[.string (an a.ats[i]), .int .i64 t.k, .string t.n, .slice re t.l.length me, .slice rv t.ats.length mv, .bool true] 30) 25 24 mixedT (by kernel_rfl) ?_
            simp only [List.take_succ_cons, List.take_zero]
            repeat (go_big_quiet_step (fail))
            refine wpQuiet_nil ?_
            refine ⟨_, (.slice (some ⟨V1.heap.size, 0, none⟩) 1 1), rfl, ⟨rfl, ?_⟩, ?_⟩
            · simp [execOp, go_sem]
            refine wpQuiet_nil ?_
            refine wpAny_ready (fuel := 2) (rs := [25]) (by kernel_rfl) (by simp) ?_
            refine AllReady.cons rfl (fun K' hK => ?_) (AllReady.nil)
            refine ownR_step2 rfl _ _ _ rfl Try.underlying23 a_info rfl (by decide) (by decide) encA_len encA_one (w3.heap.size + 1) (.slice aov ps.length cav) ps rfl (OwnR.low SV.out.row (low_new (low_drew (Low.refl V1)) _)) (⟨(an a.ats[i], t, true), re, me, rv, mv⟩ : Ae) ⟨V1.heap.size, 0, none⟩ 1 rfl (fun j u hj => newcell_at _ _ _ _ _ rfl hj) (by have := PL.out; have := HL.out; omega) (by have := SV.out.szB; simp; omega) ?_
            intro a2 w4 h2 bl k2' n2
            obtain ⟨ao2, cc2, ha2, -, -, -⟩ := OwnR.shape h2
            rw [show (ps ++ [(⟨(an a.ats[i], t, true), re, me, rv, mv⟩ : Ae)]).length = ps.length + 1 by simp] at ha2
            subst ha2
            have H2 := Lib.hid (show OwnR _ _ _ _ _ _ _ from h2)
            have HB2 := Lib.hid (show RowKit.Below _ _ _ from bl)
            have HK2 := Lib.hid k2'
            have HN2 := Lib.hid n2
            have b4 := Lib.hid (show w4.cell? ⟨w3.heap.size, 3, none⟩ = some (.slice aov ps.length cav) ∧ w4.frozen? ⟨w3.heap.size, 3, none⟩ = false from ⟨(World.cell?_of_block (w' := w4) (a := ⟨w3.heap.size, 3, none⟩) (HB2.out.block w3.heap.size SV.out.rbB)).trans ((low_new (Low.refl V1) _).keep r3), (World.frozen?_of_block (w' := w4) (a := ⟨w3.heap.size, 3, none⟩) (HB2.out.block w3.heap.size SV.out.rbB)).trans ((SV.out.to (low_new (low_drew (Low.refl V1)) _)).box.open' 3)⟩)
            obtain ⟨b4c, b4f⟩ := b4.out
            clear h2 bl k2' n2
            refine hK _ _ ?_
            clear hK K'
            refine wpAny_ready (fuel := 1) (rs := [26]) (by kernel_rfl) (by simp) ?_
            refine AllReady.cons rfl (fun K' hK => ?_) (AllReady.nil)
            go_simp
            refine hK _ _ ?_
            clear hK K'
            refine wpAny_ready (fuel := 0) (rs := [27]) (by kernel_rfl) (by simp) ?_
            refine AllReady.cons rfl (fun K' hK => ?_) (AllReady.nil)
            go_simp
            refine hK _ _ ?_
            clear hK K'
            refine wpAny_done (by kernel_rfl) ?_ _
            refine leaf_of (P := fun W' => (_ : Act → World → Prop) _ W') (fun W' => RecSx (fun z => A z ∧ z < w.heap.size) U (w3.heap.size + 1) w3.heap.size n W' (.slice ao2 (ps.length + 1) cc2) (ps ++ [(⟨(an a.ats[i], t, true), re, me, rv, mv⟩ : Ae)])) ?_ ?_
            · exact RecSx.put (SV.out.to (low_new (low_drew (Low.refl V1)) _)) H2.out HB2.out HK2.out HN2.out ⟨HSZ.out, RV.out.low (low_new (low_drew (Low.refl V1)) _)⟩
            intro W5 h5
            have HW5 := Lib.hid h5
            clear h5 H2 HB2 HK2 HN2 b4 b4c b4f RV BV
            go_wp2_with fail
            go_roundg (a.ats.length - (i + 1))
            case measure => omega
            case rel =>
              refine ⟨i + 1, _, ps ++ [(⟨(an a.ats[i], t, true), re, me, rv, mv⟩ : Ae)], by go_num, by omega, by omega, Lib.hid (by simp [PL.out]), HW5, Lib.hid fun j h1 h2 h3 => ?_⟩
              have pl := PL.out
              rcases Nat.lt_or_ge j i with h | h
              · rw [List.getElem_append_left (by omega)]
                exact K.out j h1 h2 (by omega)
              · obtain rfl : j = i := by simp at h3; omega
                rw [List.getElem_append_right (by omega)]
                simp only [pl, Nat.sub_self, List.getElem_cons_zero]
                exact ⟨HQ.out.symm, by first | trivial | rfl, HOO.out⟩
          ·
            have cr3 := fun p : InF V1 (.cells #[.string (an a.ats[i]), .int .i64 t.k, .string t.n, .slice re t.l.length me, .slice rv t.ats.length mv, .bool true] 30) => p.cell r3 ((low_new (Low.refl V1) _).keep r3)
            have cf3 := fun p : InF V1 (.cells #[.string (an a.ats[i]), .int .i64 t.k, .string t.n, .slice re t.l.length me, .slice rv t.ats.length mv, .bool true] 30) => p.cell f3 ((low_new (Low.refl V1) _).keep f3)
            have ci3 := fun p : InF V1 (.cells #[.string (an a.ats[i]), .int .i64 t.k, .string t.n, .slice re t.l.length me, .slice rv t.ats.length mv, .bool true] 30) => p.cell i3 ((low_new (Low.refl V1) _).keep i3)
            have ce0 := fun p : InF V1 (.cells #[.string (an a.ats[i]), .int .i64 t.k, .string t.n, .slice re t.l.length me, .slice rv t.ats.length mv, .bool true] 30) => p.cell e0 ((low_new (Low.refl V1) _).keep e0)
            have ce5 := fun p : InF V1 (.cells #[.string (an a.ats[i]), .int .i64 t.k, .string t.n, .slice re t.l.length me, .slice rv t.ats.length mv, .bool true] 30) => p.cell e5 ((low_new (Low.refl V1) _).keep e5)
            have cd5 := fun p : InF V1 (.cells #[.string (an a.ats[i]), .int .i64 t.k, .string t.n, .slice re t.l.length me, .slice rv t.ats.length mv, .bool true] 30) => p.cell d5 ((low_new (Low.refl V1) _).keep d5)
            have ck0 := fun p : InF V1 (.cells #[.string (an a.ats[i]), .int .i64 t.k, .string t.n, .slice re t.l.length me, .slice rv t.ats.length mv, .bool true] 30) => p.cell k0 ((low_new (Low.refl V1) _).keep k0)
            have ck1 := fun p : InF V1 (.cells #[.string (an a.ats[i]), .int .i64 t.k, .string t.n, .slice re t.l.length me, .slice rv t.ats.length mv, .bool true] 30) => p.cell k1 ((low_new (Low.refl V1) _).keep k1)
            have ck2 := fun p : InF V1 (.cells #[.string (an a.ats[i]), .int .i64 t.k, .string t.n, .slice re t.l.length me, .slice rv t.ats.length mv, .bool true] 30) => p.cell k2 ((low_new (Low.refl V1) _).keep k2)
            have ck3 := fun p : InF V1 (.cells #[.string (an a.ats[i]), .int .i64 t.k, .string t.n, .slice re t.l.length me, .slice rv t.ats.length mv, .bool true] 30) => p.cell k3 ((low_new (Low.refl V1) _).keep k3)
            haveI := InF.some V1 (.cells #[.string (an a.ats[i]), .int .i64 t.k, .string t.n, .slice re t.l.length me, .slice rv t.ats.length mv, .bool true] 30)
            refine wp_region_make (.cells #[.string (an a.ats[i]), .int .i64 t.k, .string t.n, .slice re t.l.length me, .slice rv t.ats.length mv, .bool true] 30) 25 24 mixedT (by kernel_rfl) ?_
            simp only [List.take_succ_cons, List.take_zero]
            repeat (go_big_quiet_step (fail))
            refine wpQuiet_nil ?_
            refine ⟨_, (.slice (some ⟨V1.heap.size, 0, none⟩) 1 1), rfl, ⟨rfl, ?_⟩, ?_⟩
            · simp [execOp, go_sem]
            refine wpQuiet_nil ?_
            refine wpAny_ready (fuel := 2) (rs := [25]) (by kernel_rfl) (by simp) ?_
            refine AllReady.cons rfl (fun K' hK => ?_) (AllReady.nil)
            refine ownR_step2 rfl _ _ _ rfl Try.underlying23 a_info rfl (by decide) (by decide) encA_len encA_one (w3.heap.size + 1) (.slice aov ps.length cav) ps rfl (OwnR.low SV.out.row (low_new (low_drew (Low.refl V1)) _)) (⟨(an a.ats[i], t, true), re, me, rv, mv⟩ : Ae) ⟨V1.heap.size, 0, none⟩ 1 rfl (fun j u hj => newcell_at _ _ _ _ _ rfl hj) (by have := PL.out; have := HL.out; omega) (by have := SV.out.szB; simp; omega) ?_
            intro a2 w4 h2 bl k2' n2
            obtain ⟨ao2, cc2, ha2, -, -, -⟩ := OwnR.shape h2
            rw [show (ps ++ [(⟨(an a.ats[i], t, true), re, me, rv, mv⟩ : Ae)]).length = ps.length + 1 by simp] at ha2
            subst ha2
            have H2 := Lib.hid (show OwnR _ _ _ _ _ _ _ from h2)
            have HB2 := Lib.hid (show RowKit.Below _ _ _ from bl)
            have HK2 := Lib.hid k2'
            have HN2 := Lib.hid n2
            have b4 := Lib.hid (show w4.cell? ⟨w3.heap.size, 3, none⟩ = some (.slice aov ps.length cav) ∧ w4.frozen? ⟨w3.heap.size, 3, none⟩ = false from ⟨(World.cell?_of_block (w' := w4) (a := ⟨w3.heap.size, 3, none⟩) (HB2.out.block w3.heap.size SV.out.rbB)).trans ((low_new (Low.refl V1) _).keep r3), (World.frozen?_of_block (w' := w4) (a := ⟨w3.heap.size, 3, none⟩) (HB2.out.block w3.heap.size SV.out.rbB)).trans ((SV.out.to (low_new (low_drew (Low.refl V1)) _)).box.open' 3)⟩)
            obtain ⟨b4c, b4f⟩ := b4.out
            clear h2 bl k2' n2
            refine hK _ _ ?_
            clear hK K'
            refine wpAny_ready (fuel := 1) (rs := [26]) (by kernel_rfl) (by simp) ?_
            refine AllReady.cons rfl (fun K' hK => ?_) (AllReady.nil)
            go_simp
            refine hK _ _ ?_
            clear hK K'
            refine wpAny_ready (fuel := 0) (rs := [27]) (by kernel_rfl) (by simp) ?_
            refine AllReady.cons rfl (fun K' hK => ?_) (AllReady.nil)
            go_simp
            refine hK _ _ ?_
            clear hK K'
            refine wpAny_done (by kernel_rfl) ?_ _
            refine leaf_of (P := fun W' => (_ : Act → World → Prop) _ W') (fun W' => RecSx (fun z => A z ∧ z < w.heap.size) U (w3.heap.size + 1) w3.heap.size n W' (.slice ao2 (ps.length + 1) cc2) (ps ++ [(⟨(an a.ats[i], t, true), re, me, rv, mv⟩ : Ae)])) ?_ ?_
            · exact RecSx.put (SV.out.to (low_new (low_drew (Low.refl V1)) _)) H2.out HB2.out HK2.out HN2.out ⟨HSZ.out, RV.out.low (low_new (low_drew (Low.refl V1)) _)⟩
            intro W5 h5
            have HW5 := Lib.hid h5
            clear h5 H2 HB2 HK2 HN2 b4 b4c b4f RV BV
            go_wp2_with fail
            go_roundg (a.ats.length - (i + 1))
            case measure => omega
            case rel =>
              refine ⟨i + 1, _, ps ++ [(⟨(an a.ats[i], t, true), re, me, rv, mv⟩ : Ae)], by go_num, by omega, by omega, Lib.hid (by simp [PL.out]), HW5, Lib.hid fun j h1 h2 h3 => ?_⟩
              have pl := PL.out
              rcases Nat.lt_or_ge j i with h | h
              · rw [List.getElem_append_left (by omega)]
                exact K.out j h1 h2 (by omega)
              · obtain rfl : j = i := by simp at h3; omega
                rw [List.getElem_append_right (by omega)]
                simp only [pl, Nat.sub_self, List.getElem_cons_zero]
                exact ⟨HQ.out.symm, by first | trivial | rfl, HOO.out⟩
      refine AllReady.cons rfl (fun K' hK => ?_) (AllReady.nil)
      go_simp
      refine hK _ _ ?_
      clear hK K'
      refine gen_wr (P := fun W => wpAny _ _ _ _ _ _ _ W) (fun V0 hV0 => ?_)
      have L0 := Lib.hid (show Low wr V0 by rw [hV0]; exact low_new (low_drew (Low.refl wr)) _)
      have B0 := Lib.hid (show BoxAt V0 wr.heap.size [.int .i64 0, .string ⟨#[]⟩, .slice none 0 0, .slice none 0 0] from BoxAt.made (w := wr.drew) hV0 rfl rfl)
      clear hV0
      refine wpAny_ready (fuel := 5) (rs := [12]) (by kernel_rfl) (by simp) ?_
      refine AllReady.cons rfl (fun K' hK => ?_) (AllReady.nil)
      go_simp
      refine (HC.out _ L0.out).mono ?_
      rintro e w9 ⟨t, re, me, rv, mv, er, rfl, hjr, hrt, l9⟩
      have L9 := Lib.hid l9
      have HRT := Lib.hid hrt
      have HJR := Lib.hid hjr
      clear hjr hrt l9
      go_simp
      refine hK _ _ ?_
      clear hK K'
      refine wpAny_take (fuel := 4) (i := 13) (v := .tuple #[.agg #[.int .i64 t.k, .string t.n, .slice re t.l.length me, .slice rv t.ats.length mv], .int .i64 er]) rfl (by kernel_rfl) (by kernel_rfl) (by kernel_rfl) (fun _ _ _ h => h) (Or.inl ⟨by rfl, fun W => ?_⟩) ?_
      · go_simp
      refine wpAny_take (fuel := 3) (i := 14) (v := .agg #[.int .i64 t.k, .string t.n, .slice re t.l.length me, .slice rv t.ats.length mv]) rfl (by kernel_rfl) (by kernel_rfl) (by kernel_rfl) (fun _ _ _ h => h) (Or.inl ⟨by rfl, fun W => ?_⟩) ?_
      · go_simp
      refine wpAny_take (fuel := 2) (i := 15) (v := .int .i64 er) rfl (by kernel_rfl) (by kernel_rfl) (by kernel_rfl) (fun _ _ _ h => h) (Or.inl ⟨by rfl, fun W => ?_⟩) ?_
      · go_simp
      obtain ⟨g0, g1, g2, g3⟩ := (B0.out.low L9.out).at4
      obtain ⟨o0, o1, o2, o3⟩ := (B0.out.low L9.out).op4
      refine wpAny_ready (fuel := 1) (rs := [17]) (by kernel_rfl) (by simp) ?_
      refine AllReady.cons rfl (fun K' hK => ?_) (AllReady.nil)
      go_simp
      refine hK _ _ ?_
      clear hK K'
      refine wpAny_ready (fuel := 0) (rs := [18]) (by kernel_rfl) (by simp) ?_
      refine AllReady.cons rfl (fun K' hK => ?_) (AllReady.nil)
      go_simp
      refine hK _ _ ?_
      clear hK K'
      refine wpAny_done (by kernel_rfl) ?_ _
      refine leaf_of (P := fun W' => Exit.then _ _ .normal _ W') (fun W' => RecSx (fun z => A z ∧ z < w.heap.size) U (w3.heap.size + 1) w3.heap.size n W' vr ps ∧ Low wr W' ∧ BoxAt W' wr.heap.size [.int .i64 t.k, .string t.n, .slice re t.l.length me, .slice rv t.ats.length mv] ∧ RT (fun z => (((A z ∧ z < w.heap.size) ∧ z < U.heap.size) ∨ w3.heap.size + 1 ≤ z) ∧ some z ≠ vr.ownBlock) W' n t (.slice re t.l.length me) (.slice rv t.ats.length mv)) ?_ ?_
      · have y1 := L3.out.size
        have y2 := LU.out.size
        have y3 := G.out.szB
        have y4 := G.out.w0B
        have nb : ∀ z, z < w.heap.size ∨ wr.heap.size ≤ z → some z ≠ vr.ownBlock := fun z hz e => by
          have y5 := World.ownsRow.lt G.out.row z e.symm
          omega
        have K8 := kept4 w9 wr.heap.size 0 1 2 3 (.int .i64 t.k) (.string t.n) (.slice re t.l.length me) (.slice rv t.ats.length mv)
        have LK := low_all (L0.out.trans L9.out) (Nat.le_refl _) K8
        refine ⟨G.out.to LK, LK, ((((B0.out.low L9.out).set 0 _).set 1 _).set 2 _).set 3 _, RT.to (fun z hz hlt => ?_) HRT.out⟩
        have u3 := B0.out.lt
        rcases hz with hz | hz
        · exact ⟨⟨.inl ⟨hz, by have := hz.2; omega⟩, nb z (.inl hz.2)⟩, K8.2.2.2 z hlt (by have := hz.2; simp; omega)⟩
        · exact ⟨⟨.inr (by omega), nb z (.inr (by omega))⟩, K8.2.2.2 z hlt (by simp; omega)⟩
      rintro V1 ⟨sv, lv, bv, rv'⟩
      have SV := Lib.hid sv
      have LW := Lib.hid lv
      have BV := Lib.hid bv
      have RV := Lib.hid rv'
      clear sv lv bv rv' HRT
      cases q with
      | none =>
        obtain ⟨rfl, rfl⟩ := HJR.out
        have HJ2 := Lib.hid (show jn (n + 1) a b = none by rw [HJ.out, CN.out i hlt hlt' HQ.out.symm]; rfl)
        obtain ⟨g0, g1, g2, g3⟩ := (ZU.out.low SV.out.low).at4
        obtain ⟨o0, o1, o2, o3⟩ := (ZU.out.low SV.out.low).op4
        go_wp2_with fail
        refine bodyPost_ret (v := .tuple #[.agg #[.int .i64 0, .string ⟨#[]⟩, .slice none 0 0, .slice none 0 0], .int .i64 30]) (by simp [results, Try.results21, go_sem, World.cell?_setCell_same', g0, g1, g2, g3]; try rfl) rfl ?_
        have K8 := kept4 V1 (w.heap.size + 2) 0 1 2 3 (.int .i64 0) (.string ⟨#[]⟩) (.slice none 0 0) (.slice none 0 0)
        refine ⟨noT, none, 0, none, 0, 30, rfl, ?_, rt_kind _ _ _ _, low_all (LU.out.trans SV.out.low) (by omega) K8⟩
        rw [HJ2.out]; exact ⟨rfl, rfl⟩
      | some jt =>
        obtain ⟨rfl, rfl⟩ := HJR.out
        go_upto_region 24 with fail
        obtain ⟨⟨-, -, -, f3⟩, -, -, -, i3⟩ := FU.out V1 SV.out.low
        obtain ⟨⟨e0, -, -, -, -, e5⟩, -, -, -, -, d5⟩ := HE.out
        have e0 := LW.out.keep e0
        have e5 := LW.out.keep e5
        have d5 := LW.out.keep d5
        obtain ⟨k0, k1, k2, k3⟩ := BV.out.at4
        obtain ⟨aov, cav, hvr, -, -, -⟩ := OwnR.shape SV.out.row
        subst hvr
        have r3 := SV.out.box.at 3 _ rfl
        obtain ⟨ox, hox⟩ : ∃ q, q = ao a.ats[i] := ⟨_, rfl⟩
        obtain ⟨oy, hoy⟩ : ∃ q, q = ao b.ats[i] := ⟨_, rfl⟩
        have HOO := Lib.hid (show (ox || oy) = (ao a.ats[i] || ao b.ats[i]) by rw [hox, hoy])
        rw [← hox] at e5
        rw [← hoy] at d5
        clear hox hoy
        have HRB := Lib.hid (show w3.heap.size < V1.heap.size from SV.out.box.lt)
        have zl2 : (i : Int) < (b.ats.length : Int) := by omega
        cases ox <;> cases oy
        ·
          have cr3 := fun p : InF V1 (.cells #[.string (an a.ats[i]), .int .i64 t.k, .string t.n, .slice re t.l.length me, .slice rv t.ats.length mv, .bool false] 30) => p.cell r3 ((low_new (Low.refl V1) _).keep r3)
          have cf3 := fun p : InF V1 (.cells #[.string (an a.ats[i]), .int .i64 t.k, .string t.n, .slice re t.l.length me, .slice rv t.ats.length mv, .bool false] 30) => p.cell f3 ((low_new (Low.refl V1) _).keep f3)
          have ci3 := fun p : InF V1 (.cells #[.string (an a.ats[i]), .int .i64 t.k, .string t.n, .slice re t.l.length me, .slice rv t.ats.length mv, .bool false] 30) => p.cell i3 ((low_new (Low.refl V1) _).keep i3)
          have ce0 := fun p : InF V1 (.cells #[.string (an a.ats[i]), .int .i64 t.k, .string t.n, .slice re t.l.length me, .slice rv t.ats.length mv, .bool false] 30) => p.cell e0 ((low_new (Low.refl V1) _).keep e0)
          have ce5 := fun p : InF V1 (.cells #[.string (an a.ats[i]), .int .i64 t.k, .string t.n, .slice re t.l.length me, .slice rv t.ats.length mv, .bool false] 30) => p.cell e5 ((low_new (Low.refl V1) _).keep e5)
          have cd5 := fun p : InF V1 (.cells #[.string (an a.ats[i]), .int .i64 t.k, .string t.n, .slice re t.l.length me, .slice rv t.ats.length mv, .bool false] 30) => p.cell d5 ((low_new (Low.refl V1) _).keep d5)
          have ck0 := fun p : InF V1 (.cells #[.string (an a.ats[i]), .int .i64 t.k, .string t.n, .slice re t.l.length me, .slice rv t.ats.length mv, .bool false] 30) => p.cell k0 ((low_new (Low.refl V1) _).keep k0)
          have ck1 := fun p : InF V1 (.cells #[.string (an a.ats[i]), .int .i64 t.k, .string t.n, .slice re t.l.length me, .slice rv t.ats.length mv, .bool false] 30) => p.cell k1 ((low_new (Low.refl V1) _).keep k1)
          have ck2 := fun p : InF V1 (.cells #[.string (an a.ats[i]), .int .i64 t.k, .string t.n, .slice re t.l.length me, .slice rv t.ats.length mv, .bool false] 30) => p.cell k2 ((low_new (Low.refl V1) _).keep k2)
          have ck3 := fun p : InF V1 (.cells #[.string (an a.ats[i]), .int .i64 t.k, .string t.n, .slice re t.l.length me, .slice rv t.ats.length mv, .bool false] 30) => p.cell k3 ((low_new (Low.refl V1) _).keep k3)
          haveI := InF.some V1 (.cells #[.string (an a.ats[i]), .int .i64 t.k, .string t.n, .slice re t.l.length me, .slice rv t.ats.length mv, .bool false] 30)
          refine wp_region_make (.cells #[.string (an a.ats[i]), .int .i64 t.k, .string t.n, .slice re t.l.length me, .slice rv t.ats.length mv, .bool false] 30) 25 24 mixedT (by kernel_rfl) ?_
          simp only [List.take_succ_cons, List.take_zero]
          repeat (go_big_quiet_step (fail))
          refine wpQuiet_nil ?_
          refine ⟨_, (.slice (some ⟨V1.heap.size, 0, none⟩) 1 1), rfl, ⟨rfl, ?_⟩, ?_⟩
          · simp [execOp, go_sem]
          refine wpQuiet_nil ?_
          refine wpAny_ready (fuel := 2) (rs := [25]) (by kernel_rfl) (by simp) ?_
          refine AllReady.cons rfl (fun K' hK => ?_) (AllReady.nil)
          refine ownR_step2 rfl _ _ _ rfl Try.underlying23 a_info rfl (by decide) (by decide) encA_len encA_one (w3.heap.size + 1) (.slice aov ps.length cav) ps rfl (OwnR.low SV.out.row (low_new (low_drew (Low.refl V1)) _)) (⟨(an a.ats[i], t, false), re, me, rv, mv⟩ : Ae) ⟨V1.heap.size, 0, none⟩ 1 rfl (fun j u hj => newcell_at _ _ _ _ _ rfl hj) (by have := PL.out; have := HL.out; omega) (by have := SV.out.szB; simp; omega) ?_
          intro a2 w4 h2 bl k2' n2
          obtain ⟨ao2, cc2, ha2, -, -, -⟩ := OwnR.shape h2
          rw [show (ps ++ [(⟨(an a.ats[i], t, false), re, me, rv, mv⟩ : Ae)]).length = ps.length + 1 by simp] at ha2
          subst ha2
          have H2 := Lib.hid (show OwnR _ _ _ _ _ _ _ from h2)
          have HB2 := Lib.hid (show RowKit.Below _ _ _ from bl)
          have HK2 := Lib.hid k2'
          have HN2 := Lib.hid n2
          have b4 := Lib.hid (show w4.cell? ⟨w3.heap.size, 3, none⟩ = some (.slice aov ps.length cav) ∧ w4.frozen? ⟨w3.heap.size, 3, none⟩ = false from ⟨(World.cell?_of_block (w' := w4) (a := ⟨w3.heap.size, 3, none⟩) (HB2.out.block w3.heap.size SV.out.rbB)).trans ((low_new (Low.refl V1) _).keep r3), (World.frozen?_of_block (w' := w4) (a := ⟨w3.heap.size, 3, none⟩) (HB2.out.block w3.heap.size SV.out.rbB)).trans ((SV.out.to (low_new (low_drew (Low.refl V1)) _)).box.open' 3)⟩)
          obtain ⟨b4c, b4f⟩ := b4.out
          clear h2 bl k2' n2
          refine hK _ _ ?_
          clear hK K'
          refine wpAny_ready (fuel := 1) (rs := [26]) (by kernel_rfl) (by simp) ?_
          refine AllReady.cons rfl (fun K' hK => ?_) (AllReady.nil)
          go_simp
          refine hK _ _ ?_
          clear hK K'
          refine wpAny_ready (fuel := 0) (rs := [27]) (by kernel_rfl) (by simp) ?_
          refine AllReady.cons rfl (fun K' hK => ?_) (AllReady.nil)
          go_simp
          refine hK _ _ ?_
          clear hK K'
          refine wpAny_done (by kernel_rfl) ?_ _
          refine leaf_of (P := fun W' => (_ : Act → World → Prop) _ W') (fun W' => RecSx (fun z => A z ∧ z < w.heap.size) U (w3.heap.size + 1) w3.heap.size n W' (.slice ao2 (ps.length + 1) cc2) (ps ++ [(⟨(an a.ats[i], t, false), re, me, rv, mv⟩ : Ae)])) ?_ ?_
          · exact RecSx.put (SV.out.to (low_new (low_drew (Low.refl V1)) _)) H2.out HB2.out HK2.out HN2.out ⟨HSZ.out, RV.out.low (low_new (low_drew (Low.refl V1)) _)⟩
          intro W5 h5
          have HW5 := Lib.hid h5
          clear h5 H2 HB2 HK2 HN2 b4 b4c b4f RV BV
          go_wp2_with fail
          go_roundg (a.ats.length - (i + 1))
          case measure => omega
          case rel =>
            refine ⟨i + 1, _, ps ++ [(⟨(an a.ats[i], t, false), re, me, rv, mv⟩ : Ae)], by go_num, by omega, by omega, Lib.hid (by simp [PL.out]), HW5, Lib.hid fun j h1 h2 h3 => ?_⟩
            have pl := PL.out
            rcases Nat.lt_or_ge j i with h | h
            · rw [List.getElem_append_left (by omega)]
              exact K.out j h1 h2 (by omega)
            · obtain rfl : j = i := by simp at h3; omega
              rw [List.getElem_append_right (by omega)]
              simp only [pl, Nat.sub_self, List.getElem_cons_zero]
              exact ⟨HQ.out.symm, by first | trivial | rfl, HOO.out⟩
        ·
          have cr3 := fun p : InF V1 (.cells #[.string (an a.ats[i]), .int .i64 t.k, .string t.n, .slice re t.l.length me, .slice rv t.ats.length mv, .bool true] 30) => p.cell r3 ((low_new (Low.refl V1) _).keep r3)
          have cf3 := fun p : InF V1 (.cells #[.string (an a.ats[i]), .int .i64 t.k, .string t.n, .slice re t.l.length me, .slice rv t.ats.length mv, .bool true] 30) => p.cell f3 ((low_new (Low.refl V1) _).keep f3)
          have ci3 := fun p : InF V1 (.cells #[.string (an a.ats[i]), .int .i64 t.k, .string t.n, .slice re t.l.length me, .slice rv t.ats.length mv, .bool true] 30) => p.cell i3 ((low_new (Low.refl V1) _).keep i3)
          have ce0 := fun p : InF V1 (.cells #[.string (an a.ats[i]), .int .i64 t.k, .string t.n, .slice re t.l.length me, .slice rv t.ats.length mv, .bool true] 30) => p.cell e0 ((low_new (Low.refl V1) _).keep e0)
          have ce5 := fun p : InF V1 (.cells #[.string (an a.ats[i]), .int .i64 t.k, .string t.n, .slice re t.l.length me, .slice rv t.ats.length mv, .bool true] 30) => p.cell e5 ((low_new (Low.refl V1) _).keep e5)
          have cd5 := fun p : InF V1 (.cells #[.string (an a.ats[i]), .int .i64 t.k, .string t.n, .slice re t.l.length me, .slice rv t.ats.length mv, .bool true] 30) => p.cell d5 ((low_new (Low.refl V1) _).keep d5)
          have ck0 := fun p : InF V1 (.cells #[.string (an a.ats[i]), .int .i64 t.k, .string t.n, .slice re t.l.length me, .slice rv t.ats.length mv, .bool true] 30) => p.cell k0 ((low_new (Low.refl V1) _).keep k0)
          have ck1 := fun p : InF V1 (.cells #[.string (an a.ats[i]), .int .i64 t.k, .string t.n, .slice re t.l.length me, .slice rv t.ats.length mv, .bool true] 30) => p.cell k1 ((low_new (Low.refl V1) _).keep k1)
          have ck2 := fun p : InF V1 (.cells #[.string (an a.ats[i]), .int .i64 t.k, .string t.n, .slice re t.l.length me, .slice rv t.ats.length mv, .bool true] 30) => p.cell k2 ((low_new (Low.refl V1) _).keep k2)
          have ck3 := fun p : InF V1 (.cells #[.string (an a.ats[i]), .int .i64 t.k, .string t.n, .slice re t.l.length me, .slice rv t.ats.length mv, .bool true] 30) => p.cell k3 ((low_new (Low.refl V1) _).keep k3)
          haveI := InF.some V1 (.cells #[.string (an a.ats[i]), .int .i64 t.k, .string t.n, .slice re t.l.length me, .slice rv t.ats.length mv, .bool true] 30)
          refine wp_region_make (.cells #[.string (an a.ats[i]), .int .i64 t.k, .string t.n, .slice re t.l.length me, .slice rv t.ats.length mv, .bool true] 30) 25 24 mixedT (by kernel_rfl) ?_
          simp only [List.take_succ_cons, List.take_zero]
          repeat (go_big_quiet_step (fail))
          refine wpQuiet_nil ?_
          refine ⟨_, (.slice (some ⟨V1.heap.size, 0, none⟩) 1 1), rfl, ⟨rfl, ?_⟩, ?_⟩
          · simp [execOp, go_sem]
          refine wpQuiet_nil ?_
          refine wpAny_ready (fuel := 2) (rs := [25]) (by kernel_rfl) (by simp) ?_
          refine AllReady.cons rfl (fun K' hK => ?_) (AllReady.nil)
          refine ownR_step2 rfl _ _ _ rfl Try.underlying23 a_info rfl (by decide) (by decide) encA_len encA_one (w3.heap.size + 1) (.slice aov ps.length cav) ps rfl (OwnR.low SV.out.row (low_new (low_drew (Low.refl V1)) _)) (⟨(an a.ats[i], t, true), re, me, rv, mv⟩ : Ae) ⟨V1.heap.size, 0, none⟩ 1 rfl (fun j u hj => newcell_at _ _ _ _ _ rfl hj) (by have := PL.out; have := HL.out; omega) (by have := SV.out.szB; simp; omega) ?_
          intro a2 w4 h2 bl k2' n2
          obtain ⟨ao2, cc2, ha2, -, -, -⟩ := OwnR.shape h2
          rw [show (ps ++ [(⟨(an a.ats[i], t, true), re, me, rv, mv⟩ : Ae)]).length = ps.length + 1 by simp] at ha2
          subst ha2
          have H2 := Lib.hid (show OwnR _ _ _ _ _ _ _ from h2)
          have HB2 := Lib.hid (show RowKit.Below _ _ _ from bl)
          have HK2 := Lib.hid k2'
          have HN2 := Lib.hid n2
          have b4 := Lib.hid (show w4.cell? ⟨w3.heap.size, 3, none⟩ = some (.slice aov ps.length cav) ∧ w4.frozen? ⟨w3.heap.size, 3, none⟩ = false from ⟨(World.cell?_of_block (w' := w4) (a := ⟨w3.heap.size, 3, none⟩) (HB2.out.block w3.heap.size SV.out.rbB)).trans ((low_new (Low.refl V1) _).keep r3), (World.frozen?_of_block (w' := w4) (a := ⟨w3.heap.size, 3, none⟩) (HB2.out.block w3.heap.size SV.out.rbB)).trans ((SV.out.to (low_new (low_drew (Low.refl V1)) _)).box.open' 3)⟩)
          obtain ⟨b4c, b4f⟩ := b4.out
          clear h2 bl k2' n2
          refine hK _ _ ?_
          clear hK K'
          refine wpAny_ready (fuel := 1) (rs := [26]) (by kernel_rfl) (by simp) ?_
          refine AllReady.cons rfl (fun K' hK => ?_) (AllReady.nil)
          go_simp
          refine hK _ _ ?_
          clear hK K'
          refine wpAny_ready (fuel := 0) (rs := [27]) (by kernel_rfl) (by simp) ?_
          refine AllReady.cons rfl (fun K' hK => ?_) (AllReady.nil)
          go_simp
          refine hK _ _ ?_
          clear hK K'
          refine wpAny_done (by kernel_rfl) ?_ _
          refine leaf_of (P := fun W' => (_ : Act → World → Prop) _ W') (fun W' => RecSx (fun z => A z ∧ z < w.heap.size) U (w3.heap.size + 1) w3.heap.size n W' (.slice ao2 (ps.length + 1) cc2) (ps ++ [(⟨(an a.ats[i], t, true), re, me, rv, mv⟩ : Ae)])) ?_ ?_
          · exact RecSx.put (SV.out.to (low_new (low_drew (Low.refl V1)) _)) H2.out HB2.out HK2.out HN2.out ⟨HSZ.out, RV.out.low (low_new (low_drew (Low.refl V1)) _)⟩
          intro W5 h5
          have HW5 := Lib.hid h5
          clear h5 H2 HB2 HK2 HN2 b4 b4c b4f RV BV
          go_wp2_with fail
          go_roundg (a.ats.length - (i + 1))
          case measure => omega
          case rel =>
            refine ⟨i + 1, _, ps ++ [(⟨(an a.ats[i], t, true), re, me, rv, mv⟩ : Ae)], by go_num, by omega, by omega, Lib.hid (by simp [PL.out]), HW5, Lib.hid fun j h1 h2 h3 => ?_⟩
            have pl := PL.out
            rcases Nat.lt_or_ge j i with h | h
            · rw [List.getElem_append_left (by omega)]
              exact K.out j h1 h2 (by omega)
            · obtain rfl : j = i := by simp at h3; omega
              rw [List.getElem_append_right (by omega)]
              simp only [pl, Nat.sub_self, List.getElem_cons_zero]
              exact ⟨HQ.out.symm, by first | trivial | rfl, HOO.out⟩
        ·
          have cr3 := fun p : InF V1 (.cells #[.string (an a.ats[i]), .int .i64 t.k, .string t.n, .slice re t.l.length me, .slice rv t.ats.length mv, .bool true] 30) => p.cell r3 ((low_new (Low.refl V1) _).keep r3)
          have cf3 := fun p : InF V1 (.cells #[.string (an a.ats[i]), .int .i64 t.k, .string t.n, .slice re t.l.length me, .slice rv t.ats.length mv, .bool true] 30) => p.cell f3 ((low_new (Low.refl V1) _).keep f3)
          have ci3 := fun p : InF V1 (.cells #[.string (an a.ats[i]), .int .i64 t.k, .string t.n, .slice re t.l.length me, .slice rv t.ats.length mv, .bool true] 30) => p.cell i3 ((low_new (Low.refl V1) _).keep i3)
          have ce0 := fun p : InF V1 (.cells #[.string (an a.ats[i]), .int .i64 t.k, .string t.n, .slice re t.l.length me, .slice rv t.ats.length mv, .bool true] 30) => p.cell e0 ((low_new (Low.refl V1) _).keep e0)
          have ce5 := fun p : InF V1 (.cells #[.string (an a.ats[i]), .int .i64 t.k, .string t.n, .slice re t.l.length me, .slice rv t.ats.length mv, .bool true] 30) => p.cell e5 ((low_new (Low.refl V1) _).keep e5)
          have cd5 := fun p : InF V1 (.cells #[.string (an a.ats[i]), .int .i64 t.k, .string t.n, .slice re t.l.length me, .slice rv t.ats.length mv, .bool true] 30) => p.cell d5 ((low_new (Low.refl V1) _).keep d5)
          have ck0 := fun p : InF V1 (.cells #[.string (an a.ats[i]), .int .i64 t.k, .string t.n, .slice re t.l.length me, .slice rv t.ats.length mv, .bool true] 30) => p.cell k0 ((low_new (Low.refl V1) _).keep k0)
          have ck1 := fun p : InF V1 (.cells #[.string (an a.ats[i]), .int .i64 t.k, .string t.n, .slice re t.l.length me, .slice rv t.ats.length mv, .bool true] 30) => p.cell k1 ((low_new (Low.refl V1) _).keep k1)
          have ck2 := fun p : InF V1 (.cells #[.string (an a.ats[i]), .int .i64 t.k, .string t.n, .slice re t.l.length me, .slice rv t.ats.length mv, .bool true] 30) => p.cell k2 ((low_new (Low.refl V1) _).keep k2)
          have ck3 := fun p : InF V1 (.cells #[.string (an a.ats[i]), .int .i64 t.k, .string t.n, .slice re t.l.length me, .slice rv t.ats.length mv, .bool true] 30) => p.cell k3 ((low_new (Low.refl V1) _).keep k3)
          haveI := InF.some V1 (.cells #[.string (an a.ats[i]), .int .i64 t.k, .string t.n, .slice re t.l.length me, .slice rv t.ats.length mv, .bool true] 30)
          refine wp_region_make (.cells #[.string (an a.ats[i]), .int .i64 t.k, .string t.n, .slice re t.l.length me, .slice rv t.ats.length mv, .bool true] 30) 25 24 mixedT (by kernel_rfl) ?_
          simp only [List.take_succ_cons, List.take_zero]
          repeat (go_big_quiet_step (fail))
          refine wpQuiet_nil ?_
          refine ⟨_, (.slice (some ⟨V1.heap.size, 0, none⟩) 1 1), rfl, ⟨rfl, ?_⟩, ?_⟩
          · simp [execOp, go_sem]
          refine wpQuiet_nil ?_
          refine wpAny_ready (fuel := 2) (rs := [25]) (by kernel_rfl) (by simp) ?_
          refine AllReady.cons rfl (fun K' hK => ?_) (AllReady.nil)
          refine ownR_step2 rfl _ _ _ rfl Try.underlying23 a_info rfl (by decide) (by decide) encA_len encA_one (w3.heap.size + 1) (.slice aov ps.length cav) ps rfl (OwnR.low SV.out.row (low_new (low_drew (Low.refl V1)) _)) (⟨(an a.ats[i], t, true), re, me, rv, mv⟩ : Ae) ⟨V1.heap.size, 0, none⟩ 1 rfl (fun j u hj => newcell_at _ _ _ _ _ rfl hj) (by have := PL.out; have := HL.out; omega) (by have := SV.out.szB; simp; omega) ?_
          intro a2 w4 h2 bl k2' n2
          obtain ⟨ao2, cc2, ha2, -, -, -⟩ := OwnR.shape h2
          rw [show (ps ++ [(⟨(an a.ats[i], t, true), re, me, rv, mv⟩ : Ae)]).length = ps.length + 1 by simp] at ha2
          subst ha2
          have H2 := Lib.hid (show OwnR _ _ _ _ _ _ _ from h2)
          have HB2 := Lib.hid (show RowKit.Below _ _ _ from bl)
          have HK2 := Lib.hid k2'
          have HN2 := Lib.hid n2
          have b4 := Lib.hid (show w4.cell? ⟨w3.heap.size, 3, none⟩ = some (.slice aov ps.length cav) ∧ w4.frozen? ⟨w3.heap.size, 3, none⟩ = false from ⟨(World.cell?_of_block (w' := w4) (a := ⟨w3.heap.size, 3, none⟩) (HB2.out.block w3.heap.size SV.out.rbB)).trans ((low_new (Low.refl V1) _).keep r3), (World.frozen?_of_block (w' := w4) (a := ⟨w3.heap.size, 3, none⟩) (HB2.out.block w3.heap.size SV.out.rbB)).trans ((SV.out.to (low_new (low_drew (Low.refl V1)) _)).box.open' 3)⟩)
          obtain ⟨b4c, b4f⟩ := b4.out
          clear h2 bl k2' n2
          refine hK _ _ ?_
          clear hK K'
          refine wpAny_ready (fuel := 1) (rs := [26]) (by kernel_rfl) (by simp) ?_
          refine AllReady.cons rfl (fun K' hK => ?_) (AllReady.nil)
          go_simp
          refine hK _ _ ?_
          clear hK K'
          refine wpAny_ready (fuel := 0) (rs := [27]) (by kernel_rfl) (by simp) ?_
          refine AllReady.cons rfl (fun K' hK => ?_) (AllReady.nil)
          go_simp
          refine hK _ _ ?_
          clear hK K'
          refine wpAny_done (by kernel_rfl) ?_ _
          refine leaf_of (P := fun W' => (_ : Act → World → Prop) _ W') (fun W' => RecSx (fun z => A z ∧ z < w.heap.size) U (w3.heap.size + 1) w3.heap.size n W' (.slice ao2 (ps.length + 1) cc2) (ps ++ [(⟨(an a.ats[i], t, true), re, me, rv, mv⟩ : Ae)])) ?_ ?_
          · exact RecSx.put (SV.out.to (low_new (low_drew (Low.refl V1)) _)) H2.out HB2.out HK2.out HN2.out ⟨HSZ.out, RV.out.low (low_new (low_drew (Low.refl V1)) _)⟩
          intro W5 h5
          have HW5 := Lib.hid h5
          clear h5 H2 HB2 HK2 HN2 b4 b4c b4f RV BV
          go_wp2_with fail
          go_roundg (a.ats.length - (i + 1))
          case measure => omega
          case rel =>
            refine ⟨i + 1, _, ps ++ [(⟨(an a.ats[i], t, true), re, me, rv, mv⟩ : Ae)], by go_num, by omega, by omega, Lib.hid (by simp [PL.out]), HW5, Lib.hid fun j h1 h2 h3 => ?_⟩
            have pl := PL.out
            rcases Nat.lt_or_ge j i with h | h
            · rw [List.getElem_append_left (by omega)]
              exact K.out j h1 h2 (by omega)
            · obtain rfl : j = i := by simp at h3; omega
              rw [List.getElem_append_right (by omega)]
              simp only [pl, Nat.sub_self, List.getElem_cons_zero]
              exact ⟨HQ.out.symm, by first | trivial | rfl, HOO.out⟩
        ·
          have cr3 := fun p : InF V1 (.cells #[.string (an a.ats[i]), .int .i64 t.k, .string t.n, .slice re t.l.length me, .slice rv t.ats.length mv, .bool true] 30) => p.cell r3 ((low_new (Low.refl V1) _).keep r3)
          have cf3 := fun p : InF V1 (.cells #[.string (an a.ats[i]), .int .i64 t.k, .string t.n, .slice re t.l.length me, .slice rv t.ats.length mv, .bool true] 30) => p.cell f3 ((low_new (Low.refl V1) _).keep f3)
          have ci3 := fun p : InF V1 (.cells #[.string (an a.ats[i]), .int .i64 t.k, .string t.n, .slice re t.l.length me, .slice rv t.ats.length mv, .bool true] 30) => p.cell i3 ((low_new (Low.refl V1) _).keep i3)
          have ce0 := fun p : InF V1 (.cells #[.string (an a.ats[i]), .int .i64 t.k, .string t.n, .slice re t.l.length me, .slice rv t.ats.length mv, .bool true] 30) => p.cell e0 ((low_new (Low.refl V1) _).keep e0)
          have ce5 := fun p : InF V1 (.cells #[.string (an a.ats[i]), .int .i64 t.k, .string t.n, .slice re t.l.length me, .slice rv t.ats.length mv, .bool true] 30) => p.cell e5 ((low_new (Low.refl V1) _).keep e5)
          have cd5 := fun p : InF V1 (.cells #[.string (an a.ats[i]), .int .i64 t.k, .string t.n, .slice re t.l.length me, .slice rv t.ats.length mv, .bool true] 30) => p.cell d5 ((low_new (Low.refl V1) _).keep d5)
          have ck0 := fun p : InF V1 (.cells #[.string (an a.ats[i]), .int .i64 t.k, .string t.n, .slice re t.l.length me, .slice rv t.ats.length mv, .bool true] 30) => p.cell k0 ((low_new (Low.refl V1) _).keep k0)
          have ck1 := fun p : InF V1 (.cells #[.string (an a.ats[i]), .int .i64 t.k, .string t.n, .slice re t.l.length me, .slice rv t.ats.length mv, .bool true] 30) => p.cell k1 ((low_new (Low.refl V1) _).keep k1)
          have ck2 := fun p : InF V1 (.cells #[.string (an a.ats[i]), .int .i64 t.k, .string t.n, .slice re t.l.length me, .slice rv t.ats.length mv, .bool true] 30) => p.cell k2 ((low_new (Low.refl V1) _).keep k2)
          have ck3 := fun p : InF V1 (.cells #[.string (an a.ats[i]), .int .i64 t.k, .string t.n, .slice re t.l.length me, .slice rv t.ats.length mv, .bool true] 30) => p.cell k3 ((low_new (Low.refl V1) _).keep k3)
          haveI := InF.some V1 (.cells #[.string (an a.ats[i]), .int .i64 t.k, .string t.n, .slice re t.l.length me, .slice rv t.ats.length mv, .bool true] 30)
          refine wp_region_make (.cells #[.string (an a.ats[i]), .int .i64 t.k, .string t.n, .slice re t.l.length me, .slice rv t.ats.length mv, .bool true] 30) 25 24 mixedT (by kernel_rfl) ?_
          simp only [List.take_succ_cons, List.take_zero]
          repeat (go_big_quiet_step (fail))
          refine wpQuiet_nil ?_
          refine ⟨_, (.slice (some ⟨V1.heap.size, 0, none⟩) 1 1), rfl, ⟨rfl, ?_⟩, ?_⟩
          · simp [execOp, go_sem]
          refine wpQuiet_nil ?_
          refine wpAny_ready (fuel := 2) (rs := [25]) (by kernel_rfl) (by simp) ?_
          refine AllReady.cons rfl (fun K' hK => ?_) (AllReady.nil)
          refine ownR_step2 rfl _ _ _ rfl Try.underlying23 a_info rfl (by decide) (by decide) encA_len encA_one (w3.heap.size + 1) (.slice aov ps.length cav) ps rfl (OwnR.low SV.out.row (low_new (low_drew (Low.refl V1)) _)) (⟨(an a.ats[i], t, true), re, me, rv, mv⟩ : Ae) ⟨V1.heap.size, 0, none⟩ 1 rfl (fun j u hj => newcell_at _ _ _ _ _ rfl hj) (by have := PL.out; have := HL.out; omega) (by have := SV.out.szB; simp; omega) ?_
          intro a2 w4 h2 bl k2' n2
          obtain ⟨ao2, cc2, ha2, -, -, -⟩ := OwnR.shape h2
          rw [show (ps ++ [(⟨(an a.ats[i], t, true), re, me, rv, mv⟩ : Ae)]).length = ps.length + 1 by simp] at ha2
          subst ha2
          have H2 := Lib.hid (show OwnR _ _ _ _ _ _ _ from h2)
          have HB2 := Lib.hid (show RowKit.Below _ _ _ from bl)
          have HK2 := Lib.hid k2'
          have HN2 := Lib.hid n2
          have b4 := Lib.hid (show w4.cell? ⟨w3.heap.size, 3, none⟩ = some (.slice aov ps.length cav) ∧ w4.frozen? ⟨w3.heap.size, 3, none⟩ = false from ⟨(World.cell?_of_block (w' := w4) (a := ⟨w3.heap.size, 3, none⟩) (HB2.out.block w3.heap.size SV.out.rbB)).trans ((low_new (Low.refl V1) _).keep r3), (World.frozen?_of_block (w' := w4) (a := ⟨w3.heap.size, 3, none⟩) (HB2.out.block w3.heap.size SV.out.rbB)).trans ((SV.out.to (low_new (low_drew (Low.refl V1)) _)).box.open' 3)⟩)
          obtain ⟨b4c, b4f⟩ := b4.out
          clear h2 bl k2' n2
          refine hK _ _ ?_
          clear hK K'
          refine wpAny_ready (fuel := 1) (rs := [26]) (by kernel_rfl) (by simp) ?_
          refine AllReady.cons rfl (fun K' hK => ?_) (AllReady.nil)
          go_simp
          refine hK _ _ ?_
          clear hK K'
          refine wpAny_ready (fuel := 0) (rs := [27]) (by kernel_rfl) (by simp) ?_
          refine AllReady.cons rfl (fun K' hK => ?_) (AllReady.nil)
          go_simp
          refine hK _ _ ?_
          clear hK K'
          refine wpAny_done (by kernel_rfl) ?_ _
          refine leaf_of (P := fun W' => (_ : Act → World → Prop) _ W') (fun W' => RecSx (fun z => A z ∧ z < w.heap.size) U (w3.heap.size + 1) w3.heap.size n W' (.slice ao2 (ps.length + 1) cc2) (ps ++ [(⟨(an a.ats[i], t, true), re, me, rv, mv⟩ : Ae)])) ?_ ?_
          · exact RecSx.put (SV.out.to (low_new (low_drew (Low.refl V1)) _)) H2.out HB2.out HK2.out HN2.out ⟨HSZ.out, RV.out.low (low_new (low_drew (Low.refl V1)) _)⟩
          intro W5 h5
          have HW5 := Lib.hid h5
          clear h5 H2 HB2 HK2 HN2 b4 b4c b4f RV BV
          go_wp2_with fail
          go_roundg (a.ats.length - (i + 1))
          case measure => omega
          case rel =>
            refine ⟨i + 1, _, ps ++ [(⟨(an a.ats[i], t, true), re, me, rv, mv⟩ : Ae)], by go_num, by omega, by omega, Lib.hid (by simp [PL.out]), HW5, Lib.hid fun j h1 h2 h3 => ?_⟩
            have pl := PL.out
            rcases Nat.lt_or_ge j i with h | h
            · rw [List.getElem_append_left (by omega)]
              exact K.out j h1 h2 (by omega)
            · obtain rfl : j = i := by simp at h3; omega
              rw [List.getElem_append_right (by omega)]
              simp only [pl, Nat.sub_self, List.getElem_cons_zero]
              exact ⟨HQ.out.symm, by first | trivial | rfl, HOO.out⟩
    · have zl : ¬ (i : Int) < (a.ats.length : Int) := by omega
      have hil : i = a.ats.length := by omega
      have HRS := Lib.hid (CY.out ps (PL.out.trans hil) K.out)
      clear hil
      obtain ⟨r0, r1, r2, r3⟩ := G.out.box.at4
      obtain ⟨g0, g1, g2, g3⟩ := (ZU.out.low G.out.low).at4
      obtain ⟨o0, o1, o2, o3⟩ := (ZU.out.low G.out.low).op4
      obtain ⟨aov, cav, hvr, -, -, -⟩ := OwnR.shape G.out.row
      subst hvr
      have HRR := Lib.hid (show RAs (fun z => (A z ∧ z < w.heap.size) ∨ U.heap.size ≤ z) wr n (ps.map (·.x)) (.slice aov ps.length cav) from ownA_row G.out.row G.out.els (fun z hz => by
        have := L3.out.size
        rcases hz.1 with h | h
        · exact .inl h.1
        · exact .inr (by omega)) (fun g hg => .inr (by have := (World.ownsRow.lt G.out.row g hg).1; have := L3.out.size; omega)))
      go_wp2_with fail
      refine bodyPost_ret (v := .tuple #[.agg #[.int .i64 8, .string ⟨#[]⟩, .slice none 0 0, .slice aov ps.length cav], .int .i64 0]) (by simp [results, Try.results21, go_sem, World.cell?_setCell_same', g0, g1, g2, g3]; try rfl) rfl ?_
      have K8 := kept4 wr (w.heap.size + 2) 0 1 2 3 (.int .i64 8) (.string ⟨#[]⟩) (.slice none 0 0) (.slice aov ps.length cav)
      have hln : (ps.map Ae.x).length = ps.length := List.length_map ..
      refine ⟨.mk 8 ⟨#[]⟩ [] (ps.map Ae.x), none, 0, aov, cav, 0, by rw [show (T.mk 8 ⟨#[]⟩ [] (ps.map Ae.x)).ats.length = ps.length from hln]; rfl, by rw [HJ.out, HRS.out]; exact ⟨rfl, rfl⟩, ⟨(by decide : (⟨#[]⟩ : ByteArray).size ≤ 9223372036854775807), RL.nil _ _ _, ?_⟩, low_all (LU.out.trans G.out.low) (by omega) K8⟩
      rw [show (T.mk 8 ⟨#[]⟩ [] (ps.map Ae.x)).ats.length = ps.length from hln]
      refine RAs.to (fun z hz hlt => ?_) HRR.out
      have := HZS.out
      rcases hz with hz | hz
      · exact ⟨.inl hz.1, K8.2.2.2 z hlt (by have := hz.2; simp; omega)⟩
      · exact ⟨.inr (by omega), K8.2.2.2 z hlt (by simp; omega)⟩
end Go.Proofs.Ytjipncpgmajeeaa
