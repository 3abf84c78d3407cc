/- What is joined of each pair of attributes; pairs of that closure. Condition: types that may be, small. -/
import Derived.Test.YtjipncpgmajeeaaTyRc
import Derived.Test.YtjipncpgmajeeaaTyV
import Derived.Test.YtjipncpgmajeeaaFlt
namespace Go.Proofs.Ytjipncpgmajeeaa
open Go.RowKit
theorem leaf_of {P : World → Prop} {W : World} (R : World → Prop) (hr : R W) (h : ∀ W', R W' → P W') : P W := h _ hr
theorem low_abox2r {w wr : World} {c0 c1 c2 c3 c4 c5 d0 d1 d2 d3 d4 d5 : Value} {t t' : TypeId} (h : Low ((w.alloc (.cells #[c0, c1, c2, c3, c4, c5] t)).alloc (.cells #[d0, d1, d2, d3, d4, d5] t')) wr) :
    (wr.cell? ⟨w.heap.size, 0, none⟩ = some c0 ∧ wr.cell? ⟨w.heap.size, 1, none⟩ = some c1 ∧ wr.cell? ⟨w.heap.size, 2, none⟩ = some c2 ∧ wr.cell? ⟨w.heap.size, 3, none⟩ = some c3 ∧ wr.cell? ⟨w.heap.size, 4, none⟩ = some c4 ∧ wr.cell? ⟨w.heap.size, 5, none⟩ = some c5) ∧
    (wr.cell? ⟨w.heap.size + 1, 0, none⟩ = some d0 ∧ wr.cell? ⟨w.heap.size + 1, 1, none⟩ = some d1 ∧ wr.cell? ⟨w.heap.size + 1, 2, none⟩ = some d2 ∧ wr.cell? ⟨w.heap.size + 1, 3, none⟩ = some d3 ∧ wr.cell? ⟨w.heap.size + 1, 4, none⟩ = some d4 ∧ wr.cell? ⟨w.heap.size + 1, 5, none⟩ = some d5) := low_abox2 h
/-- What the closure leaves. -/
def RecP (w0 : World) (B rb n : Nat) (x y : At) (ps : List Ae) (e : Ending) (w' : World) : Prop :=
  ∃ (t : T) (er : Int) (vr : Value) (p : Ae), e = .returned (.bool (er == 0)) ∧ JR (jn n (aty x) (aty y)) t er ∧ p.x = (an x, t, ao x || ao y) ∧ RecSt w0 B rb n w' vr (ps ++ [p])
set_option maxHeartbeats 6400000 in
set_option maxRecDepth 100000 in
theorem joinf_c {n : Nat} (hj : JnPC n) {A A' : Nat → Prop} (w0 : World) (B rb : Nat) (x y : At) (ps : List Ae) (vr : Value) (w : World) (e u e' u' : Value) (h : RT A w n (aty x) e u) (h' : RT A' w n (aty y) e' u') (sx : Sm n (aty x)) (sy : Sm n (aty y)) (mx : mayB n (aty x) = true) (my : mayB n (aty y) = true) (hxs : (an x).size ≤ 9223372036854775807)
    (hst : RecSt w0 B rb n w vr ps) (hpl : ps.length ≤ 1000) : Calls Try.prog 51 #[av x e u, av y e' u', .pointer (some ⟨rb, 0, none⟩)] w (RecP w0 B rb n x y ps) := by
  obtain ⟨pe, ce, pv, cv, rfl, rfl, z1, z2, z3, z4⟩ := h.sl
  obtain ⟨pe', ce', pv', cv', rfl, rfl, z1', z2', z3', z4'⟩ := h'.sl
  obtain ⟨U, hU⟩ : ∃ U, U = (w.alloc (.cells #[.string (an x), .int .i64 (aty x).k, .string (aty x).n, .slice pe (aty x).l.length ce, .slice pv (aty x).ats.length cv, .bool (ao x)] 30)).alloc (.cells #[.string (an y), .int .i64 (aty y).k, .string (aty y).n, .slice pe' (aty y).l.length ce', .slice pv' (aty y).ats.length cv', .bool (ao y)] 30) := ⟨_, rfl⟩
  have LU := Lib.hid (show Low w U by rw [hU]; exact low_new (low_new (Low.refl w) _) _)
  have FU := Lib.hid (fun W (h : Low U W) => low_abox2 (w := w) (wr := W) (hU ▸ h))
  have HJ := Lib.hid (hj A A' (aty x) (aty y) U _ _ _ _ (h.low LU.out) (h'.low LU.out) sx sy mx my)
  have HU := Lib.hid hU
  have HST := Lib.hid hst
  have HSZ := Lib.hid hxs
  obtain ⟨R, hR⟩ : ∃ R, R = jn n (aty x) (aty y) := ⟨_, rfl⟩
  have HR := Lib.hid hR
  rw [← hR] at HJ
  unfold av
  unfold tv at HJ
  clear h h' hj sx sy mx my hxs hst hU hR
  go_enter Try.func51, Try.ntmps51
  go_upto_region 1 with fail
  rw [← HU.out]
  obtain ⟨⟨f0, f1, f2, f3, f4, f5⟩, i0, i1, i2, i3, i4, i5⟩ := FU.out U (Low.refl U)
  go_wp2_with fail
  refine HJ.out.mono ?_
  rintro e w1 ⟨t, re, me, rv, mv, er, rfl, hjr, hrt, l1⟩
  obtain ⟨V, hV⟩ : ∃ V, V = w1.alloc (.cells #[.int .i64 t.k, .string t.n, .slice re t.l.length me, .slice rv t.ats.length mv] 25) := ⟨_, rfl⟩
  have HV := Lib.hid hV
  have LV := Lib.hid (show Low U V by rw [hV]; exact low_new l1 _)
  have BV := Lib.hid (show BoxAt V w1.heap.size [.int .i64 t.k, .string t.n, .slice re t.l.length me, .slice rv t.ats.length mv] from BoxAt.made hV rfl rfl)
  have HJR := Lib.hid hjr
  have HSTV := Lib.hid ((HST.out.to LU.out).to LV.out)
  have HP := Lib.hid (show AeOk (fun b => B ≤ b ∧ some b ≠ vr.ownBlock) V n ⟨(an x, t, ao x || ao y), re, me, rv, mv⟩ from ⟨HSZ.out, (RT.to (fun b hb _ => by
    refine ⟨?_, rfl⟩
    rcases hb with hb | hb
    · exact hb.elim
    · have s1 := (HST.out.to LU.out).szB
      refine ⟨by omega, fun e => ?_⟩
      have := (World.ownsRow.lt (HST.out.to LU.out).row b e.symm).2
      omega) hrt : RT (fun b => B ≤ b ∧ some b ≠ vr.ownBlock) w1 n t (.slice re t.l.length me) (.slice rv t.ats.length mv)).low (show Low w1 V by rw [hV]; exact low_new (Low.refl _) _)⟩)
  obtain ⟨aov, cav, hvr, -, -, -⟩ := OwnR.shape HSTV.out.row
  obtain ⟨N, hN⟩ : ∃ N, N = ps.length := ⟨_, rfl⟩
  have HN := Lib.hid hN
  rw [← hN] at hvr hpl
  subst hvr
  clear hV l1 hjr hrt HJ f0 f1 f2 f3 f4 f5 i0 i1 i2 i3 i4 i5 hN HST
  go_upto_region 2 with fail
  rw [← HV.out]
  clear HV
  obtain ⟨⟨f0, f1, f2, f3, f4, f5⟩, i0, i1, i2, i3, i4, i5⟩ := FU.out V LV.out
  have F2 := Lib.hid (fun X => FU.out (V.alloc X) (low_new LV.out X))
  obtain ⟨k0, k1, k2, k3⟩ := BV.out.at4
  have r3 := HSTV.out.box.at 3 _ rfl
  have f0X := fun X => (low_new (Low.refl V) X).keep f0
  have f5X := fun X => (low_new (Low.refl V) X).keep f5
  have i5X := fun X => (low_new (Low.refl V) X).keep i5
  have k0X := fun X => (low_new (Low.refl V) X).keep k0
  have k1X := fun X => (low_new (Low.refl V) X).keep k1
  have k2X := fun X => (low_new (Low.refl V) X).keep k2
  have k3X := fun X => (low_new (Low.refl V) X).keep k3
  have r3X := fun X => (low_new (Low.refl V) X).keep r3
  obtain ⟨ox, hox⟩ : ∃ q, q = ao x := ⟨_, rfl⟩
  obtain ⟨oy, hoy⟩ : ∃ q, q = ao y := ⟨_, rfl⟩
  have HOO := Lib.hid (show (ox || oy) = (ao x || ao y) by rw [hox, hoy])
  rw [← hox] at f5 f5X
  rw [← hoy] at i5 i5X
  clear hox hoy f1 f2 f3 f4 i0 i1 i2 i3 i4
  have HRB := Lib.hid (show rb < V.heap.size from HSTV.out.box.lt)
  have zn1 : (N : Int) < ((N + 1 : Nat) : Int) := by omega
  have zn2 : (N : Int) < (N : Int) + 1 := by omega
  have cf := fun p : InF V (.cells #[.string ⟨#[]⟩, .int .i64 0, .string ⟨#[]⟩, .slice none 0 0, .slice none 0 0, .bool false] 30) => p.cell r3 (r3X _)
  have cx := fun p : InF V (.cells #[.string ⟨#[]⟩, .int .i64 0, .string ⟨#[]⟩, .slice none 0 0, .slice none 0 0, .bool false] 30) => p.cell f0 (f0X _)
  have cx5 := fun p : InF V (.cells #[.string ⟨#[]⟩, .int .i64 0, .string ⟨#[]⟩, .slice none 0 0, .slice none 0 0, .bool false] 30) => p.cell f5 (f5X _)
  have cy5 := fun p : InF V (.cells #[.string ⟨#[]⟩, .int .i64 0, .string ⟨#[]⟩, .slice none 0 0, .slice none 0 0, .bool false] 30) => p.cell i5 (i5X _)
  have ck0 := fun p : InF V (.cells #[.string ⟨#[]⟩, .int .i64 0, .string ⟨#[]⟩, .slice none 0 0, .slice none 0 0, .bool false] 30) => p.cell k0 (k0X _)
  have ck1 := fun p : InF V (.cells #[.string ⟨#[]⟩, .int .i64 0, .string ⟨#[]⟩, .slice none 0 0, .slice none 0 0, .bool false] 30) => p.cell k1 (k1X _)
  have ck2 := fun p : InF V (.cells #[.string ⟨#[]⟩, .int .i64 0, .string ⟨#[]⟩, .slice none 0 0, .slice none 0 0, .bool false] 30) => p.cell k2 (k2X _)
  have ck3 := fun p : InF V (.cells #[.string ⟨#[]⟩, .int .i64 0, .string ⟨#[]⟩, .slice none 0 0, .slice none 0 0, .bool false] 30) => p.cell k3 (k3X _)
  haveI := InF.some V (.cells #[.string ⟨#[]⟩, .int .i64 0, .string ⟨#[]⟩, .slice none 0 0, .slice none 0 0, .bool false] 30)
  cases ox <;> cases oy
  all_goals
    go_wp2_with fail
    refine wp_region_make (.cells #[.string ⟨#[]⟩, .int .i64 0, .string ⟨#[]⟩, .slice none 0 0, .slice none 0 0, .bool false] 30) 14 13 mixedT (by kernel_rfl) ?_
    simp only [List.take_succ_cons, List.take_zero]
    repeat (go_big_quiet_step (fail))
    refine wpQuiet_nil ?_
    refine ⟨_, (.slice (some ⟨V.heap.size, 0, none⟩) 1 1), rfl, ⟨rfl, ?_⟩, ?_⟩
    · simp [execOp, go_sem]
    refine wpQuiet_nil ?_
    refine wpAny_ready (fuel := 4) (rs := [14]) (by kernel_rfl) (by simp) ?_
    refine AllReady.cons rfl (fun K hK => ?_) ?_
    · refine ownR_step2 rfl _ _ _ rfl Try.underlying23 a_info rfl (by decide) (by decide) encA_len encA_one B (.slice aov N cav) ps rfl (OwnR.low HSTV.out.row (low_new (low_drew (Low.refl V)) _)) aeZ ⟨V.heap.size, 0, none⟩ 1 rfl (fun j u hj => newcell_at _ _ _ _ _ rfl hj) (by have := HN.out; omega) (by have := HSTV.out.szB; simp; omega) ?_
      intro a2 w4 h2 bl k2' n2
      have HB2 := Lib.hid (show RowKit.Below _ _ _ from bl)
      obtain ⟨g, cap, ha2, ⟨hg1, hg2⟩, ⟨d0, d1, d2, d3, d4, d5⟩, fz⟩ := own_last6 HN.out.symm h2
      subst ha2
      have H2 := Lib.hid (show OwnR _ _ _ _ _ _ _ from h2)
      have HK2 := Lib.hid k2'
      have HN2 := Lib.hid n2
      have hgx : ¬ rb = g := (by have := HSTV.out.rbB; omega)
      have hgx2 : ¬ g = rb := (fun e => hgx e.symm)
      have b4 := Lib.hid (show w4.cell? ⟨rb, 3, none⟩ = some (.slice aov N cav) ∧ w4.frozen? ⟨rb, 3, none⟩ = false from ⟨(World.cell?_of_block (w' := w4) (a := ⟨rb, 3, none⟩) (HB2.out.block rb HSTV.out.rbB)).trans (r3X _), (World.frozen?_of_block (w' := w4) (a := ⟨rb, 3, none⟩) (HB2.out.block rb HSTV.out.rbB)).trans ((HSTV.out.to (low_new (low_drew (Low.refl V)) _)).box.open' 3)⟩)
      obtain ⟨b4c, b4f⟩ := b4.out
      have q0 := fz (N * 6)
      have q1 := fz (N * 6 + 1)
      have q2 := fz (N * 6 + 2)
      have q3 := fz (N * 6 + 3)
      have q4 := fz (N * 6 + 4)
      have q5 := fz (N * 6 + 5)
      clear h2 bl k2' n2 fz hg1 hg2
      refine hK _ _ ?_
      clear hK K
      refine wpAny_ready (fuel := 3) (rs := [15, 17]) (by kernel_rfl) (by simp) ?_
      refine AllReady.cons rfl (fun K hK => ?_) ?_
      · go_simp
        refine hK _ _ ?_
        clear hK K
        refine wpAny_ready (fuel := 2) (rs := [16, 17]) (by kernel_rfl) (by simp) ?_
        refine AllReady.cons rfl (fun K hK => ?_) ?_
        · go_simp
          refine hK _ _ ?_
          clear hK K
          refine wpAny_ready (fuel := 1) (rs := [17]) (by kernel_rfl) (by simp) ?_
          refine AllReady.cons rfl (fun K hK => ?_) ?_
          · go_simp
            refine hK _ _ ?_
            clear hK K
            refine wpAny_ready (fuel := 0) (rs := [18]) (by kernel_rfl) (by simp) ?_
            refine AllReady.cons rfl (fun K hK => ?_) ?_
            · go_simp
              refine hK _ _ ?_
              clear hK K
              refine wpAny_done (by kernel_rfl) ?_ _
              refine leaf_of (P := fun W' => Exit.then _ _ .normal _ W') (fun W' => RecSt w0 B rb n W' (.slice (some ⟨g, 0, none⟩) (N + 1) cap) (ps ++ [⟨(an x, t, ao x || ao y), re, me, rv, mv⟩])) ?_ ?_
              · rw [← HOO.out]
                have hp := HP.out
                rw [← HOO.out] at hp
                exact RecSt.put (p := ⟨(an x, t, _), re, me, rv, mv⟩) (HSTV.out.to (low_new (low_drew (Low.refl V)) _)) H2.out HB2.out HK2.out HN2.out ⟨hp.1, hp.2.low (low_new (low_drew (Low.refl V)) _)⟩ HN.out
              intro W5 h5
              have HW5 := Lib.hid h5
              clear h5 HP HSTV H2 HB2 HK2 HN2 HOO HU FU LU BV LV F2 HSZ d0 d1 d2 d3 d4 d5 q0 q1 q2 q3 q4 q5 b4 b4c b4f
              go_wp2_with fail
              refine bodyPost_ret (v := .bool (er == 0)) (by simp [results, Try.results51, go_sem]; try rfl) rfl ?_
              exact ⟨t, er, _, ⟨(an x, t, ao x || ao y), re, me, rv, mv⟩, rfl, HR.out ▸ HJR.out, rfl, HW5.out⟩
            exact AllReady.nil
          exact AllReady.nil
        refine AllReady.cons rfl (fun K hK => ?_) ?_
        · go_simp
          refine hK _ _ ?_
          clear hK K
          refine wpAny_ready (fuel := 1) (rs := [16, 18]) (by kernel_rfl) (by simp) ?_
          refine AllReady.cons rfl (fun K hK => ?_) ?_
          · go_simp
            refine hK _ _ ?_
            clear hK K
            refine wpAny_ready (fuel := 0) (rs := [18]) (by kernel_rfl) (by simp) ?_
            refine AllReady.cons rfl (fun K hK => ?_) ?_
            · go_simp
              refine hK _ _ ?_
              clear hK K
              refine wpAny_done (by kernel_rfl) ?_ _
              refine leaf_of (P := fun W' => Exit.then _ _ .normal _ W') (fun W' => RecSt w0 B rb n W' (.slice (some ⟨g, 0, none⟩) (N + 1) cap) (ps ++ [⟨(an x, t, ao x || ao y), re, me, rv, mv⟩])) ?_ ?_
              · rw [← HOO.out]
                have hp := HP.out
                rw [← HOO.out] at hp
                exact RecSt.put (p := ⟨(an x, t, _), re, me, rv, mv⟩) (HSTV.out.to (low_new (low_drew (Low.refl V)) _)) H2.out HB2.out HK2.out HN2.out ⟨hp.1, hp.2.low (low_new (low_drew (Low.refl V)) _)⟩ HN.out
              intro W5 h5
              have HW5 := Lib.hid h5
              clear h5 HP HSTV H2 HB2 HK2 HN2 HOO HU FU LU BV LV F2 HSZ d0 d1 d2 d3 d4 d5 q0 q1 q2 q3 q4 q5 b4 b4c b4f
              go_wp2_with fail
              refine bodyPost_ret (v := .bool (er == 0)) (by simp [results, Try.results51, go_sem]; try rfl) rfl ?_
              exact ⟨t, er, _, ⟨(an x, t, ao x || ao y), re, me, rv, mv⟩, rfl, HR.out ▸ HJR.out, rfl, HW5.out⟩
            exact AllReady.nil
          refine AllReady.cons rfl (fun K hK => ?_) ?_
          · go_simp
            refine hK _ _ ?_
            clear hK K
            refine wpAny_ready (fuel := 0) (rs := [16]) (by kernel_rfl) (by simp) ?_
            refine AllReady.cons rfl (fun K hK => ?_) ?_
            · go_simp
              refine hK _ _ ?_
              clear hK K
              refine wpAny_done (by kernel_rfl) ?_ _
              refine leaf_of (P := fun W' => Exit.then _ _ .normal _ W') (fun W' => RecSt w0 B rb n W' (.slice (some ⟨g, 0, none⟩) (N + 1) cap) (ps ++ [⟨(an x, t, ao x || ao y), re, me, rv, mv⟩])) ?_ ?_
              · rw [← HOO.out]
                have hp := HP.out
                rw [← HOO.out] at hp
                exact RecSt.putb (p := ⟨(an x, t, _), re, me, rv, mv⟩) (HSTV.out.to (low_new (low_drew (Low.refl V)) _)) H2.out HB2.out HK2.out HN2.out ⟨hp.1, hp.2.low (low_new (low_drew (Low.refl V)) _)⟩ HN.out
              intro W5 h5
              have HW5 := Lib.hid h5
              clear h5 HP HSTV H2 HB2 HK2 HN2 HOO HU FU LU BV LV F2 HSZ d0 d1 d2 d3 d4 d5 q0 q1 q2 q3 q4 q5 b4 b4c b4f
              go_wp2_with fail
              refine bodyPost_ret (v := .bool (er == 0)) (by simp [results, Try.results51, go_sem]; try rfl) rfl ?_
              exact ⟨t, er, _, ⟨(an x, t, ao x || ao y), re, me, rv, mv⟩, rfl, HR.out ▸ HJR.out, rfl, HW5.out⟩
            exact AllReady.nil
          exact AllReady.nil
        exact AllReady.nil
      refine AllReady.cons rfl (fun K hK => ?_) ?_
      · go_simp
        refine hK _ _ ?_
        clear hK K
        refine wpAny_ready (fuel := 2) (rs := [15, 18]) (by kernel_rfl) (by simp) ?_
        refine AllReady.cons rfl (fun K hK => ?_) ?_
        · go_simp
          refine hK _ _ ?_
          clear hK K
          refine wpAny_ready (fuel := 1) (rs := [16, 18]) (by kernel_rfl) (by simp) ?_
          refine AllReady.cons rfl (fun K hK => ?_) ?_
          · go_simp
            refine hK _ _ ?_
            clear hK K
            refine wpAny_ready (fuel := 0) (rs := [18]) (by kernel_rfl) (by simp) ?_
            refine AllReady.cons rfl (fun K hK => ?_) ?_
            · go_simp
              refine hK _ _ ?_
              clear hK K
              refine wpAny_done (by kernel_rfl) ?_ _
              refine leaf_of (P := fun W' => Exit.then _ _ .normal _ W') (fun W' => RecSt w0 B rb n W' (.slice (some ⟨g, 0, none⟩) (N + 1) cap) (ps ++ [⟨(an x, t, ao x || ao y), re, me, rv, mv⟩])) ?_ ?_
              · rw [← HOO.out]
                have hp := HP.out
                rw [← HOO.out] at hp
                exact RecSt.put (p := ⟨(an x, t, _), re, me, rv, mv⟩) (HSTV.out.to (low_new (low_drew (Low.refl V)) _)) H2.out HB2.out HK2.out HN2.out ⟨hp.1, hp.2.low (low_new (low_drew (Low.refl V)) _)⟩ HN.out
              intro W5 h5
              have HW5 := Lib.hid h5
              clear h5 HP HSTV H2 HB2 HK2 HN2 HOO HU FU LU BV LV F2 HSZ d0 d1 d2 d3 d4 d5 q0 q1 q2 q3 q4 q5 b4 b4c b4f
              go_wp2_with fail
              refine bodyPost_ret (v := .bool (er == 0)) (by simp [results, Try.results51, go_sem]; try rfl) rfl ?_
              exact ⟨t, er, _, ⟨(an x, t, ao x || ao y), re, me, rv, mv⟩, rfl, HR.out ▸ HJR.out, rfl, HW5.out⟩
            exact AllReady.nil
          refine AllReady.cons rfl (fun K hK => ?_) ?_
          · go_simp
            refine hK _ _ ?_
            clear hK K
            refine wpAny_ready (fuel := 0) (rs := [16]) (by kernel_rfl) (by simp) ?_
            refine AllReady.cons rfl (fun K hK => ?_) ?_
            · go_simp
              refine hK _ _ ?_
              clear hK K
              refine wpAny_done (by kernel_rfl) ?_ _
              refine leaf_of (P := fun W' => Exit.then _ _ .normal _ W') (fun W' => RecSt w0 B rb n W' (.slice (some ⟨g, 0, none⟩) (N + 1) cap) (ps ++ [⟨(an x, t, ao x || ao y), re, me, rv, mv⟩])) ?_ ?_
              · rw [← HOO.out]
                have hp := HP.out
                rw [← HOO.out] at hp
                exact RecSt.putb (p := ⟨(an x, t, _), re, me, rv, mv⟩) (HSTV.out.to (low_new (low_drew (Low.refl V)) _)) H2.out HB2.out HK2.out HN2.out ⟨hp.1, hp.2.low (low_new (low_drew (Low.refl V)) _)⟩ HN.out
              intro W5 h5
              have HW5 := Lib.hid h5
              clear h5 HP HSTV H2 HB2 HK2 HN2 HOO HU FU LU BV LV F2 HSZ d0 d1 d2 d3 d4 d5 q0 q1 q2 q3 q4 q5 b4 b4c b4f
              go_wp2_with fail
              refine bodyPost_ret (v := .bool (er == 0)) (by simp [results, Try.results51, go_sem]; try rfl) rfl ?_
              exact ⟨t, er, _, ⟨(an x, t, ao x || ao y), re, me, rv, mv⟩, rfl, HR.out ▸ HJR.out, rfl, HW5.out⟩
            exact AllReady.nil
          exact AllReady.nil
        refine AllReady.cons rfl (fun K hK => ?_) ?_
        · go_simp
          refine hK _ _ ?_
          clear hK K
          refine wpAny_ready (fuel := 1) (rs := [15]) (by kernel_rfl) (by simp) ?_
          refine AllReady.cons rfl (fun K hK => ?_) ?_
          · go_simp
            refine hK _ _ ?_
            clear hK K
            refine wpAny_ready (fuel := 0) (rs := [16]) (by kernel_rfl) (by simp) ?_
            refine AllReady.cons rfl (fun K hK => ?_) ?_
            · go_simp
              refine hK _ _ ?_
              clear hK K
              refine wpAny_done (by kernel_rfl) ?_ _
              refine leaf_of (P := fun W' => Exit.then _ _ .normal _ W') (fun W' => RecSt w0 B rb n W' (.slice (some ⟨g, 0, none⟩) (N + 1) cap) (ps ++ [⟨(an x, t, ao x || ao y), re, me, rv, mv⟩])) ?_ ?_
              · rw [← HOO.out]
                have hp := HP.out
                rw [← HOO.out] at hp
                exact RecSt.putb (p := ⟨(an x, t, _), re, me, rv, mv⟩) (HSTV.out.to (low_new (low_drew (Low.refl V)) _)) H2.out HB2.out HK2.out HN2.out ⟨hp.1, hp.2.low (low_new (low_drew (Low.refl V)) _)⟩ HN.out
              intro W5 h5
              have HW5 := Lib.hid h5
              clear h5 HP HSTV H2 HB2 HK2 HN2 HOO HU FU LU BV LV F2 HSZ d0 d1 d2 d3 d4 d5 q0 q1 q2 q3 q4 q5 b4 b4c b4f
              go_wp2_with fail
              refine bodyPost_ret (v := .bool (er == 0)) (by simp [results, Try.results51, go_sem]; try rfl) rfl ?_
              exact ⟨t, er, _, ⟨(an x, t, ao x || ao y), re, me, rv, mv⟩, rfl, HR.out ▸ HJR.out, rfl, HW5.out⟩
            exact AllReady.nil
          exact AllReady.nil
        exact AllReady.nil
      exact AllReady.nil
    exact AllReady.nil
end Go.Proofs.Ytjipncpgmajeeaa
