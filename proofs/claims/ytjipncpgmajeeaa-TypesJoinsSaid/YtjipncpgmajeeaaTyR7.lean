/- The reference's Join of two sets. Condition: types that may be. -/
import Derived.Test.YtjipncpgmajeeaaTyRe
import Derived.Test.YtjipncpgmajeeaaTkP
namespace Go.Proofs.Ytjipncpgmajeeaa
open Go.RowKit
theorem gen_wr {P : World → Prop} {W : World} (h : ∀ V, V = W → P V) : P W := h W rfl
def RJnC (n : Nat) : Prop := ∀ (A : Nat → Prop) (a b : T) (w : World) (e v e' v' : Value), RT A w n a e v → RT A w n b e' v' → Sm n a → Sm n b → mayB n a = true → mayB n b = true → Calls Try.prog 21 #[tv a e v, tv b e' v'] w (JoinP A n (jn n a b) w)
set_option maxHeartbeats 3200000 in
set_option maxRecDepth 100000 in
theorem rjoin7_c {n : Nat} (hj : RJnC n) {A : Nat → Prop} (a b : T) (w : World) (e v e' v' : Value) (ha : RT A w (n + 1) a e v) (hb : RT A w (n + 1) b e' v') (ma : mayB (n + 1) a = true) (mb : mayB (n + 1) b = true) (sa : Sm (n + 1) a) (sb : Sm (n + 1) b) (h1 : belB (n + 1) a b = false) (h2 : belB (n + 1) b a = false) (h3 : trB a = false) (hk : a.k = b.k) (h7 : a.k = 7) : Calls Try.prog 21 #[tv a e v, tv b e' v'] w (JoinP A (n + 1) (jn (n + 1) a b) w) := by
  obtain ⟨x, hx, hxd, mx⟩ := may_set ma h7
  obtain ⟨y, hy, hyd, my⟩ := may_set mb (hk ▸ h7)
  have sx : Sm n x := sa.2.2 x (ins_l (by rw [hx]; simp))
  have sy : Sm n y := sb.2.2 y (ins_l (by rw [hy]; simp))
  clear sa sb
  obtain ⟨pe, ce, pv, cv, rfl, rfl, z1, z2, z3, z4⟩ := ha.sl
  obtain ⟨pe', ce', pv', cv', rfl, rfl, z1', z2', z3', z4'⟩ := hb.sl
  obtain ⟨-, hla, -⟩ := rt_succ.1 ha
  obtain ⟨-, hlb, -⟩ := rt_succ.1 hb
  have hxl : a.l.length = 1 := by rw [hx]; rfl
  have hyl : b.l.length = 1 := by rw [hy]; rfl
  rw [hxl] at hla z1 ha ⊢
  rw [hyl] at hlb z1' hb ⊢
  rw [hx] at hla
  rw [hy] at hlb
  obtain ⟨U, hU⟩ : ∃ U, U = ((w.alloc (.cells #[.int .i64 a.k, .string a.n, .slice pe 1 ce, .slice pv a.ats.length cv] 25)).alloc (.cells #[.int .i64 b.k, .string b.n, .slice pe' 1 ce', .slice pv' b.ats.length cv'] 25)).alloc (.cells #[.int .i64 0, .string ⟨#[]⟩, .slice none 0 0, .slice none 0 0] 25) := ⟨_, rfl⟩
  have LU := Lib.hid (show Low w U by rw [hU]; exact low_new (low_new (low_new (Low.refl w) _) _) _)
  have FU := Lib.hid (fun W (h : Low U W) => low_box2 (w := w) (wr := W) ((show Low ((w.alloc (.cells #[.int .i64 a.k, .string a.n, .slice pe 1 ce, .slice pv a.ats.length cv] 25)).alloc (.cells #[.int .i64 b.k, .string b.n, .slice pe' 1 ce', .slice pv' b.ats.length cv'] 25)) U by rw [hU]; exact low_new (Low.refl _) _).trans h))
  have ZU := Lib.hid (show BoxAt U (w.heap.size + 2) [.int .i64 0, .string ⟨#[]⟩, .slice none 0 0, .slice none 0 0] from BoxAt.made hU (by simp) rfl)
  have HZS := Lib.hid (show U.heap.size = w.heap.size + 3 by rw [hU]; simp)
  have HU := Lib.hid hU
  have HB1 := Lib.hid (rBelow_c (n + 1) A A a b U _ _ _ _ (ha.low LU.out) (hb.low LU.out) ma mb)
  have HB2 := Lib.hid fun W (l : Low U W) => rBelow_c (n + 1) A A b a W _ _ _ _ (hb.low (LU.out.trans l)) (ha.low (LU.out.trans l)) mb ma
  rw [h1] at HB1
  rw [h2] at HB2
  have q0 : (a.k == b.k) = true := by simp [hk]
  have q1 : (!a.k == b.k) = false := by rw [q0]; rfl
  have HJ := Lib.hid (show jn (n + 1) a b = (jn n x y).map fun t => .mk 7 ⟨#[]⟩ [t] [] by rw [jn, if_neg (by rw [h1]; simp), if_neg (by rw [h2]; simp), if_neg (by rw [h3]; simp), if_neg (by simpa using hk), if_pos h7, hxd, hyd])
  have q7 : (a.k == 7) = true := by simp [h7]
  have H7 := Lib.hid h7
  have c1 : (1 : Int) ≤ a.k := by omega
  have c2 : ¬ a.k ≤ (3 : Int) := by omega
  obtain ⟨p, o, qe, de, qv, dv, rfl, -, e0, e1, e2, e3, hx2⟩ := RL.at (RL.low hla.lt LU.out) (j := 0) (by simp)
  obtain ⟨p', o', qe', de', qv', dv', rfl, -, k0, k1, k2, k3, hy2⟩ := RL.at (RL.low hlb.lt LU.out) (j := 0) (by simp)
  simp only [List.getElem_cons_zero, Nat.zero_mul, Nat.add_zero] at e0 e1 e2 e3 k0 k1 k2 k3 hx2 hy2
  have HC := Lib.hid fun W (l : Low U W) => (show Calls Try.prog 21 #[.agg #[.int .i64 x.k, .string x.n, .slice qe x.l.length de, .slice qv x.ats.length dv], .agg #[.int .i64 y.k, .string y.n, .slice qe' y.l.length de', .slice qv' y.ats.length dv']] W _ from hj (fun z => A z ∧ z < w.heap.size) x y W _ _ _ _ (hx2.low l) (hy2.low l) sx sy mx my)
  obtain ⟨R, hR⟩ : ∃ R, R = jn n x y := ⟨_, rfl⟩
  rw [← hR] at HC HJ
  have HE := Lib.hid fun W (l : Low U W) => (show W.cell? ⟨p, o, none⟩ = some (.int .i64 x.k) ∧ W.cell? ⟨p, o + 1, none⟩ = some (.string x.n) ∧ W.cell? ⟨p, o + 2, none⟩ = some (.slice qe x.l.length de) ∧ W.cell? ⟨p, o + 3, none⟩ = some (.slice qv x.ats.length dv) from ⟨l.keep e0, l.keep e1, l.keep e2, l.keep e3⟩)
  have HK := Lib.hid fun W (l : Low U W) => (show W.cell? ⟨p', o', none⟩ = some (.int .i64 y.k) ∧ W.cell? ⟨p', o' + 1, none⟩ = some (.string y.n) ∧ W.cell? ⟨p', o' + 2, none⟩ = some (.slice qe' y.l.length de') ∧ W.cell? ⟨p', o' + 3, none⟩ = some (.slice qv' y.ats.length dv') from ⟨l.keep k0, l.keep k1, l.keep k2, l.keep k3⟩)
  unfold tv at *
  clear ha hb ma mb hU h1 h2 h3 h7 hk hla hlb hx hy hxd hyd mx my sx sy hx2 hy2 hxl hyl hj hR e0 e1 e2 e3 k0 k1 k2 k3
  go_enter Try.func21, Try.ntmps21
  go_upto_region 1 with fail
  rw [← HU.out]
  obtain ⟨⟨f0, f1, f2, f3⟩, i0, i1, i2, i3⟩ := FU.out U (Low.refl U)
  go_wp2_with fail
  refine HB1.out.mono ?_
  rintro e w1 ⟨rfl, l1⟩
  have L1 := Lib.hid l1
  clear l1 HB1
  clear f0 f1 f2 f3 i0 i1 i2 i3
  obtain ⟨⟨f0, f1, f2, f3⟩, i0, i1, i2, i3⟩ := FU.out w1 L1.out
  have HB3 := Lib.hid (HB2.out w1 L1.out)
  go_wp2_with fail
  refine HB3.out.mono ?_
  rintro e w2 ⟨rfl, l2⟩
  have L2 := Lib.hid (L1.out.trans l2)
  clear l2 HB3 HB2
  clear f0 f1 f2 f3 i0 i1 i2 i3
  obtain ⟨⟨f0, f1, f2, f3⟩, i0, i1, i2, i3⟩ := FU.out w2 L2.out
  go_upto_region 10 with fail
  refine wp_region_any mixedT ?_
  clear f0 f1 f2 f3 i0 i1 i2 i3
  refine wpAny_takeL (W := w2) (fuel := 14) 8 12 0 (.pointer (some ⟨w.heap.size, 2, none⟩)) rfl (by kernel_rfl) (low_drew (Low.refl w2)) (by rfl) (fun W hW => ?_) (fun _ _ _ h => h) ?_
  · go_simp
  refine wpAny_takeL (W := w2) (fuel := 13) 8 12 1 (.slice (some ⟨p, o, none⟩) 1 ce) rfl (by kernel_rfl) (low_drew (Low.refl w2)) (by rfl) (fun W hW => ?_) (fun _ _ _ h => h) ?_
  · obtain ⟨⟨f0, f1, f2, f3⟩, i0, i1, i2, i3⟩ := FU.out W (L2.out.trans hW); go_simp
  refine wpAny_takeL (W := w2) (fuel := 12) 8 12 2 (.pointer (some ⟨p, o, none⟩)) rfl (by kernel_rfl) (low_drew (Low.refl w2)) (by rfl) (fun W hW => ?_) (fun _ _ _ h => h) ?_
  · go_simp
  refine wpAny_takeL (W := w2) (fuel := 11) 8 12 3 (.agg #[.int .i64 x.k, .string x.n, .slice qe x.l.length de, .slice qv x.ats.length dv]) rfl (by kernel_rfl) (low_drew (Low.refl w2)) (by rfl) (fun W hW => ?_) (fun _ _ _ h => h) ?_
  · obtain ⟨e0, e1, e2, e3⟩ := HE.out W (L2.out.trans hW); go_simp
  refine wpAny_takeL (W := w2) (fuel := 10) 8 12 4 (.pointer (some ⟨w.heap.size + 1, 2, none⟩)) rfl (by kernel_rfl) (low_drew (Low.refl w2)) (by rfl) (fun W hW => ?_) (fun _ _ _ h => h) ?_
  · go_simp
  refine wpAny_takeL (W := w2) (fuel := 9) 8 12 5 (.slice (some ⟨p', o', none⟩) 1 ce') rfl (by kernel_rfl) (low_drew (Low.refl w2)) (by rfl) (fun W hW => ?_) (fun _ _ _ h => h) ?_
  · obtain ⟨⟨f0, f1, f2, f3⟩, i0, i1, i2, i3⟩ := FU.out W (L2.out.trans hW); go_simp
  refine wpAny_takeL (W := w2) (fuel := 8) 8 12 6 (.pointer (some ⟨p', o', none⟩)) rfl (by kernel_rfl) (low_drew (Low.refl w2)) (by rfl) (fun W hW => ?_) (fun _ _ _ h => h) ?_
  · go_simp
  refine wpAny_takeL (W := w2) (fuel := 7) 8 12 7 (.agg #[.int .i64 y.k, .string y.n, .slice qe' y.l.length de', .slice qv' y.ats.length dv']) rfl (by kernel_rfl) (low_drew (Low.refl w2)) (by rfl) (fun W hW => ?_) (fun _ _ _ h => h) ?_
  · obtain ⟨k0, k1, k2, k3⟩ := HK.out W (L2.out.trans hW); go_simp
  refine wpAny_ready (fuel := 6) (rs := [8, 12]) (by kernel_rfl) (by simp) ?_
  refine AllReady.cons rfl (fun K hK => ?_) ?_
  · go_simp
    refine (HC.out _ (L2.out.trans (low_drew (Low.refl w2)))).mono ?_
    rintro e w9 ⟨t, re, me, rv, mv, er, rfl, hjr, hrt, l9⟩
    have L9 := Lib.hid l9
    have HRT := Lib.hid hrt
    have HJR := Lib.hid hjr
    clear hjr hrt l9
    go_simp
    refine hK _ _ ?_
    clear hK K
    refine wpAny_take (fuel := 5) (i := 9) (v := .tuple #[.agg #[.int .i64 t.k, .string t.n, .slice re t.l.length me, .slice rv t.ats.length mv], .int .i64 er]) rfl (by kernel_rfl) (by kernel_rfl) (by kernel_rfl) (fun _ _ _ h => h) (Or.inl ⟨by rfl, fun W => ?_⟩) ?_
    · go_simp
    refine wpAny_take (fuel := 4) (i := 10) (v := .agg #[.int .i64 t.k, .string t.n, .slice re t.l.length me, .slice rv t.ats.length mv]) rfl (by kernel_rfl) (by kernel_rfl) (by kernel_rfl) (fun _ _ _ h => h) (Or.inl ⟨by rfl, fun W => ?_⟩) ?_
    · go_simp
    refine wpAny_take (fuel := 3) (i := 11) (v := .int .i64 er) rfl (by kernel_rfl) (by kernel_rfl) (by kernel_rfl) (fun _ _ _ h => h) (Or.inl ⟨by rfl, fun W => ?_⟩) ?_
    · go_simp
    refine wpAny_ready (fuel := 2) (rs := [12]) (by kernel_rfl) (by simp) ?_
    refine AllReady.cons rfl (fun K hK => ?_) (AllReady.nil)
    go_simp
    refine hK _ _ ?_
    clear hK K
    refine wpAny_ready (fuel := 1) (rs := [13]) (by kernel_rfl) (by simp) ?_
    refine AllReady.cons rfl (fun K hK => ?_) (AllReady.nil)
    go_simp
    refine hK _ _ ?_
    clear hK K
    refine wpAny_ready (fuel := 0) (rs := [14]) (by kernel_rfl) (by simp) ?_
    refine AllReady.cons rfl (fun K hK => ?_) (AllReady.nil)
    go_simp
    refine hK _ _ ?_
    clear hK K
    refine wpAny_done (by kernel_rfl) ?_ _
    refine leaf_of (P := fun W' => Exit.then _ _ .normal _ W') (fun W' => Low U W' ∧ BoxAt W' w9.heap.size [.int .i64 t.k, .string t.n, .slice re t.l.length me, .slice rv t.ats.length mv] ∧ RT (fun z => (A z ∧ z < w.heap.size) ∨ U.heap.size ≤ z) W' n t (.slice re t.l.length me) (.slice rv t.ats.length mv)) ?_ ?_
    · refine ⟨L2.out.trans ((low_drew (Low.refl w2)).trans (low_new L9.out _)), BoxAt.made rfl rfl rfl, RT.low (RT.to (fun z hz _ => ⟨?_, rfl⟩) HRT.out) (low_new (Low.refl w9) _)⟩
      rcases hz with hz | hz
      · exact .inl hz
      · exact .inr (Nat.le_trans L2.out.size hz)
    rintro V ⟨lv, bv, rv'⟩
    have LV := Lib.hid lv
    have BV := Lib.hid bv
    have RV := Lib.hid rv'
    clear lv bv rv' HRT
    cases R with
    | none =>
      obtain ⟨rfl, rfl⟩ := HJR.out
      have HJ2 := Lib.hid (show jn (n + 1) a b = none by rw [HJ.out]; rfl)
      obtain ⟨g0, g1, g2, g3⟩ := (ZU.out.low LV.out).at4
      obtain ⟨o0, o1, o2, o3⟩ := (ZU.out.low LV.out).op4
      clear HJR HC HE HK FU
      go_wp2_with fail
      refine bodyPost_ret (v := .tuple #[.agg #[.int .i64 0, .string ⟨#[]⟩, .slice none 0 0, .slice none 0 0], .int .i64 30]) (by simp [results, Try.results21, go_sem, World.cell?_setCell_same', g0, g1, g2, g3]; try rfl) rfl ?_
      have K8 := kept4 V (w.heap.size + 2) 0 1 2 3 (.int .i64 0) (.string ⟨#[]⟩) (.slice none 0 0) (.slice none 0 0)
      refine ⟨noT, none, 0, none, 0, 30, rfl, ?_, rt_kind _ _ _ _, low_all (LU.out.trans LV.out) (by omega) K8⟩
      rw [HJ2.out]; exact ⟨rfl, rfl⟩
    | some j =>
      obtain ⟨rfl, rfl⟩ := HJR.out
      have HJ2 := Lib.hid (show jn (n + 1) a b = some (.mk 7 ⟨#[]⟩ [t] []) by rw [HJ.out]; rfl)
      obtain ⟨r0, r1, r2, r3⟩ := BV.out.at4
      obtain ⟨g0, g1, g2, g3⟩ := (ZU.out.low LV.out).at4
      obtain ⟨o0, o1, o2, o3⟩ := (ZU.out.low LV.out).op4
      have g0X := fun X => (ZU.out.low (low_new LV.out X)).at4.1
      have g1X := fun X => (ZU.out.low (low_new LV.out X)).at4.2.1
      have g2X := fun X => (ZU.out.low (low_new LV.out X)).at4.2.2.1
      have g3X := fun X => (ZU.out.low (low_new LV.out X)).at4.2.2.2
      have hlt1 : w.heap.size + 1 + 1 < V.heap.size := by have := ZU.out.lt; have := LV.out.size; omega
      clear HJR HC HE HK FU
      go_wp2_with fail
      have ZT := Lib.hid (ZU.out.low LV.out)
      have LT1 := Lib.hid (kept4 V (w.heap.size + 1 + 1) 0 1 2 3 (.int .i64 7) (.string ⟨#[]⟩) (.slice (some ⟨V.heap.size, 0, none⟩) 1 1) (.slice none 0 0))
      have hz4 : ((((V.setCell ⟨w.heap.size + 1 + 1, 0, none⟩ (.int .i64 7)).setCell ⟨w.heap.size + 1 + 1, 1, none⟩ (.string ⟨#[]⟩)).setCell ⟨w.heap.size + 1 + 1, 2, none⟩ (.slice (some ⟨V.heap.size, 0, none⟩) 1 1)).setCell ⟨w.heap.size + 1 + 1, 3, none⟩ (.slice none 0 0)).heap.size = V.heap.size := by simp
      obtain ⟨W1, hW1⟩ : ∃ W, W = (((V.setCell ⟨w.heap.size + 1 + 1, 0, none⟩ (.int .i64 7)).setCell ⟨w.heap.size + 1 + 1, 1, none⟩ (.string ⟨#[]⟩)).setCell ⟨w.heap.size + 1 + 1, 2, none⟩ (.slice (some ⟨V.heap.size, 0, none⟩) 1 1)).setCell ⟨w.heap.size + 1 + 1, 3, none⟩ (.slice none 0 0) := ⟨_, rfl⟩
      have ZW1 := Lib.hid (show BoxAt W1 (w.heap.size + 1 + 1) [.int .i64 7, .string ⟨#[]⟩, .slice (some ⟨V.heap.size, 0, none⟩) 1 1, .slice none 0 0] from hW1 ▸ ((((ZT.out.set 0 (.int .i64 7)).set 1 (.string ⟨#[]⟩)).set 2 (.slice (some ⟨V.heap.size, 0, none⟩) 1 1)).set 3 (.slice none 0 0)))
      rw [← hW1] at LT1 hz4 ⊢
      obtain ⟨h0, h1, h2, h3⟩ := (ZW1.out.low (low_new (Low.refl W1) (.cells #[.int .i64 t.k, .string t.n, .slice re t.l.length me, .slice rv t.ats.length mv] 25))).at4
      clear g0 g1 g2 g3 o0 o1 o2 o3 hW1
      refine bodyPost_ret (v := .tuple #[.agg #[.int .i64 7, .string ⟨#[]⟩, .slice (some ⟨V.heap.size, 0, none⟩) 1 1, .slice none 0 0], .int .i64 0]) (by simp [results, Try.results21, go_sem, h0, h1, h2, h3]; try rfl) rfl ?_
      have LW1 : Low W1 (W1.alloc (.cells #[.int .i64 t.k, .string t.n, .slice re t.l.length me, .slice rv t.ats.length mv] 25)) := low_new (Low.refl _) _
      have BR : BoxAt (W1.alloc (.cells #[.int .i64 t.k, .string t.n, .slice re t.l.length me, .slice rv t.ats.length mv] 25)) V.heap.size [.int .i64 t.k, .string t.n, .slice re t.l.length me, .slice rv t.ats.length mv] := BoxAt.made rfl hz4 rfl
      have hVs := LV.out.size
      refine ⟨.mk 7 ⟨#[]⟩ [t] [], some ⟨V.heap.size, 0, none⟩, 1, none, 0, 0, rfl, by rw [HJ2.out]; exact ⟨rfl, rfl⟩, ⟨(by decide : (⟨#[]⟩ : ByteArray).size ≤ 9223372036854775807), ⟨_, _, rfl, ⟨Nat.le_refl _, by decide⟩, .inr ⟨V.heap.size, 0, rfl, .inr (by have := HZS.out; omega), fun j hj => ?_⟩⟩, RAs.nil _ _ _⟩, (low_all (LU.out.trans LV.out) (by omega) LT1.out).trans LW1⟩
      obtain rfl : j = 0 := by simpa [T.l] using hj
      refine ⟨.slice re t.l.length me, .slice rv t.ats.length mv, by rw [Nat.zero_mul]; exact BR.cells, ?_⟩
      refine RT.low (RT.to (fun z hz hlt => ?_) RV.out) LW1
      have := HZS.out
      rcases hz with hz | hz
      · exact ⟨.inl hz.1, LT1.out.2.2.2 z hlt (by have := hz.2; simp; omega)⟩
      · exact ⟨.inr (by omega), LT1.out.2.2.2 z hlt (by simp; omega)⟩
  refine AllReady.cons rfl (fun K hK => ?_) (AllReady.nil)
  go_simp
  refine hK _ _ ?_
  clear hK K
  refine gen_wr (P := fun W => wpAny _ _ _ _ _ _ _ W) (fun V0 hV0 => ?_)
  have L0 := Lib.hid (show Low w2 V0 by rw [hV0]; exact low_new (low_drew (Low.refl w2)) _)
  have B0 := Lib.hid (show BoxAt V0 w2.heap.size [.int .i64 0, .string ⟨#[]⟩, .slice none 0 0, .slice none 0 0] from BoxAt.made (w := w2.drew) hV0 rfl rfl)
  clear hV0
  refine wpAny_ready (fuel := 5) (rs := [8]) (by kernel_rfl) (by simp) ?_
  refine AllReady.cons rfl (fun K hK => ?_) (AllReady.nil)
  go_simp
  refine (HC.out _ (L2.out.trans L0.out)).mono ?_
  rintro e w9 ⟨t, re, me, rv, mv, er, rfl, hjr, hrt, l9⟩
  have L9 := Lib.hid l9
  have HRT := Lib.hid hrt
  have HJR := Lib.hid hjr
  clear hjr hrt l9
  go_simp
  refine hK _ _ ?_
  clear hK K
  refine wpAny_take (fuel := 4) (i := 9) (v := .tuple #[.agg #[.int .i64 t.k, .string t.n, .slice re t.l.length me, .slice rv t.ats.length mv], .int .i64 er]) rfl (by kernel_rfl) (by kernel_rfl) (by kernel_rfl) (fun _ _ _ h => h) (Or.inl ⟨by rfl, fun W => ?_⟩) ?_
  · go_simp
  refine wpAny_take (fuel := 3) (i := 10) (v := .agg #[.int .i64 t.k, .string t.n, .slice re t.l.length me, .slice rv t.ats.length mv]) rfl (by kernel_rfl) (by kernel_rfl) (by kernel_rfl) (fun _ _ _ h => h) (Or.inl ⟨by rfl, fun W => ?_⟩) ?_
  · go_simp
  refine wpAny_take (fuel := 2) (i := 11) (v := .int .i64 er) rfl (by kernel_rfl) (by kernel_rfl) (by kernel_rfl) (fun _ _ _ h => h) (Or.inl ⟨by rfl, fun W => ?_⟩) ?_
  · go_simp
  obtain ⟨g0, g1, g2, g3⟩ := (B0.out.low L9.out).at4
  obtain ⟨o0, o1, o2, o3⟩ := (B0.out.low L9.out).op4
  refine wpAny_ready (fuel := 1) (rs := [13]) (by kernel_rfl) (by simp) ?_
  refine AllReady.cons rfl (fun K hK => ?_) (AllReady.nil)
  go_simp
  refine hK _ _ ?_
  clear hK K
  refine wpAny_ready (fuel := 0) (rs := [14]) (by kernel_rfl) (by simp) ?_
  refine AllReady.cons rfl (fun K hK => ?_) (AllReady.nil)
  go_simp
  refine hK _ _ ?_
  clear hK K
  refine wpAny_done (by kernel_rfl) ?_ _
  refine leaf_of (P := fun W' => Exit.then _ _ .normal _ W') (fun W' => Low U W' ∧ BoxAt W' w2.heap.size [.int .i64 t.k, .string t.n, .slice re t.l.length me, .slice rv t.ats.length mv] ∧ RT (fun z => (A z ∧ z < w.heap.size) ∨ U.heap.size ≤ z) W' n t (.slice re t.l.length me) (.slice rv t.ats.length mv)) ?_ ?_
  · have K8 := kept4 w9 w2.heap.size 0 1 2 3 (.int .i64 t.k) (.string t.n) (.slice re t.l.length me) (.slice rv t.ats.length mv)
    refine ⟨low_all (L2.out.trans (L0.out.trans L9.out)) L2.out.size K8, ((((B0.out.low L9.out).set 0 _).set 1 _).set 2 _).set 3 _, RT.to (fun z hz hlt => ?_) HRT.out⟩
    have u1 := L2.out.size
    have u2 := LU.out.size
    have u3 := B0.out.lt
    rcases hz with hz | hz
    · exact ⟨.inl hz, K8.2.2.2 z hlt (by have := hz.2; simp; omega)⟩
    · exact ⟨.inr (by omega), K8.2.2.2 z hlt (by simp; omega)⟩
  rintro V ⟨lv, bv, rv'⟩
  have LV := Lib.hid lv
  have BV := Lib.hid bv
  have RV := Lib.hid rv'
  clear lv bv rv' HRT
  cases R with
  | none =>
    obtain ⟨rfl, rfl⟩ := HJR.out
    have HJ2 := Lib.hid (show jn (n + 1) a b = none by rw [HJ.out]; rfl)
    obtain ⟨g0, g1, g2, g3⟩ := (ZU.out.low LV.out).at4
    obtain ⟨o0, o1, o2, o3⟩ := (ZU.out.low LV.out).op4
    clear HJR HC HE HK FU
    go_wp2_with fail
    refine bodyPost_ret (v := .tuple #[.agg #[.int .i64 0, .string ⟨#[]⟩, .slice none 0 0, .slice none 0 0], .int .i64 30]) (by simp [results, Try.results21, go_sem, World.cell?_setCell_same', g0, g1, g2, g3]; try rfl) rfl ?_
    have K8 := kept4 V (w.heap.size + 2) 0 1 2 3 (.int .i64 0) (.string ⟨#[]⟩) (.slice none 0 0) (.slice none 0 0)
    refine ⟨noT, none, 0, none, 0, 30, rfl, ?_, rt_kind _ _ _ _, low_all (LU.out.trans LV.out) (by omega) K8⟩
    rw [HJ2.out]; exact ⟨rfl, rfl⟩
  | some j =>
    obtain ⟨rfl, rfl⟩ := HJR.out
    have HJ2 := Lib.hid (show jn (n + 1) a b = some (.mk 7 ⟨#[]⟩ [t] []) by rw [HJ.out]; rfl)
    obtain ⟨r0, r1, r2, r3⟩ := BV.out.at4
    obtain ⟨g0, g1, g2, g3⟩ := (ZU.out.low LV.out).at4
    obtain ⟨o0, o1, o2, o3⟩ := (ZU.out.low LV.out).op4
    have g0X := fun X => (ZU.out.low (low_new LV.out X)).at4.1
    have g1X := fun X => (ZU.out.low (low_new LV.out X)).at4.2.1
    have g2X := fun X => (ZU.out.low (low_new LV.out X)).at4.2.2.1
    have g3X := fun X => (ZU.out.low (low_new LV.out X)).at4.2.2.2
    have hlt1 : w.heap.size + 1 + 1 < V.heap.size := by have := ZU.out.lt; have := LV.out.size; omega
    clear HJR HC HE HK FU
    go_wp2_with fail
    have ZT := Lib.hid (ZU.out.low LV.out)
    have LT1 := Lib.hid (kept4 V (w.heap.size + 1 + 1) 0 1 2 3 (.int .i64 7) (.string ⟨#[]⟩) (.slice (some ⟨V.heap.size, 0, none⟩) 1 1) (.slice none 0 0))
    have hz4 : ((((V.setCell ⟨w.heap.size + 1 + 1, 0, none⟩ (.int .i64 7)).setCell ⟨w.heap.size + 1 + 1, 1, none⟩ (.string ⟨#[]⟩)).setCell ⟨w.heap.size + 1 + 1, 2, none⟩ (.slice (some ⟨V.heap.size, 0, none⟩) 1 1)).setCell ⟨w.heap.size + 1 + 1, 3, none⟩ (.slice none 0 0)).heap.size = V.heap.size := by simp
    obtain ⟨W1, hW1⟩ : ∃ W, W = (((V.setCell ⟨w.heap.size + 1 + 1, 0, none⟩ (.int .i64 7)).setCell ⟨w.heap.size + 1 + 1, 1, none⟩ (.string ⟨#[]⟩)).setCell ⟨w.heap.size + 1 + 1, 2, none⟩ (.slice (some ⟨V.heap.size, 0, none⟩) 1 1)).setCell ⟨w.heap.size + 1 + 1, 3, none⟩ (.slice none 0 0) := ⟨_, rfl⟩
    have ZW1 := Lib.hid (show BoxAt W1 (w.heap.size + 1 + 1) [.int .i64 7, .string ⟨#[]⟩, .slice (some ⟨V.heap.size, 0, none⟩) 1 1, .slice none 0 0] from hW1 ▸ ((((ZT.out.set 0 (.int .i64 7)).set 1 (.string ⟨#[]⟩)).set 2 (.slice (some ⟨V.heap.size, 0, none⟩) 1 1)).set 3 (.slice none 0 0)))
    rw [← hW1] at LT1 hz4 ⊢
    obtain ⟨h0, h1, h2, h3⟩ := (ZW1.out.low (low_new (Low.refl W1) (.cells #[.int .i64 t.k, .string t.n, .slice re t.l.length me, .slice rv t.ats.length mv] 25))).at4
    clear g0 g1 g2 g3 o0 o1 o2 o3 hW1
    refine bodyPost_ret (v := .tuple #[.agg #[.int .i64 7, .string ⟨#[]⟩, .slice (some ⟨V.heap.size, 0, none⟩) 1 1, .slice none 0 0], .int .i64 0]) (by simp [results, Try.results21, go_sem, h0, h1, h2, h3]; try rfl) rfl ?_
    have LW1 : Low W1 (W1.alloc (.cells #[.int .i64 t.k, .string t.n, .slice re t.l.length me, .slice rv t.ats.length mv] 25)) := low_new (Low.refl _) _
    have BR : BoxAt (W1.alloc (.cells #[.int .i64 t.k, .string t.n, .slice re t.l.length me, .slice rv t.ats.length mv] 25)) V.heap.size [.int .i64 t.k, .string t.n, .slice re t.l.length me, .slice rv t.ats.length mv] := BoxAt.made rfl hz4 rfl
    have hVs := LV.out.size
    refine ⟨.mk 7 ⟨#[]⟩ [t] [], some ⟨V.heap.size, 0, none⟩, 1, none, 0, 0, rfl, by rw [HJ2.out]; exact ⟨rfl, rfl⟩, ⟨(by decide : (⟨#[]⟩ : ByteArray).size ≤ 9223372036854775807), ⟨_, _, rfl, ⟨Nat.le_refl _, by decide⟩, .inr ⟨V.heap.size, 0, rfl, .inr (by have := HZS.out; omega), fun j hj => ?_⟩⟩, RAs.nil _ _ _⟩, (low_all (LU.out.trans LV.out) (by omega) LT1.out).trans LW1⟩
    obtain rfl : j = 0 := by simpa [T.l] using hj
    refine ⟨.slice re t.l.length me, .slice rv t.ats.length mv, by rw [Nat.zero_mul]; exact BR.cells, ?_⟩
    refine RT.low (RT.to (fun z hz hlt => ?_) RV.out) LW1
    have := HZS.out
    rcases hz with hz | hz
    · exact ⟨.inl hz.1, LT1.out.2.2.2 z hlt (by have := hz.2; simp; omega)⟩
    · exact ⟨.inr (by omega), LT1.out.2.2.2 z hlt (by simp; omega)⟩

end Go.Proofs.Ytjipncpgmajeeaa
