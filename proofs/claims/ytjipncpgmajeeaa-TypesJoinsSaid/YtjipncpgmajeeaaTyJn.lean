/- The program's join of types that may be, small, of as many levels as fuel. -/
import Derived.Test.YtjipncpgmajeeaaTyRr
namespace Go.Proofs.Ytjipncpgmajeeaa
open Go.RowKit
set_option maxHeartbeats 3200000 in
set_option maxRecDepth 100000 in
theorem joinA_c {A A' : Nat → Prop} {n : Nat} (a b : T) (w : World) (e v e' v' : Value) (ha : RT A w (n + 1) a e v) (hb : RT A' w (n + 1) b e' v') (ma : mayB (n + 1) a = true) (mb : mayB (n + 1) b = true) (sb : Sm (n + 1) b) (h1 : belB (n + 1) a b = true) : Calls Try.prog 32 #[tv a e v, tv b e' v'] w (JoinP (fun _ => False) (n + 1) (jn (n + 1) a b) w) := by
  obtain ⟨pe, ce, pv, cv, rfl, rfl, z1, z2, z3, z4⟩ := ha.sl
  obtain ⟨pe', ce', pv', cv', rfl, rfl, z1', z2', z3', z4'⟩ := hb.sl
  obtain ⟨U, hU⟩ : ∃ U, U = ((w.alloc (.cells #[.int .i64 a.k, .string a.n, .slice pe a.l.length ce, .slice pv a.ats.length cv] 25)).alloc (.cells #[.int .i64 b.k, .string b.n, .slice pe' b.l.length ce', .slice pv' b.ats.length cv'] 25)).alloc (.cells #[.int .i64 0, .string ⟨#[]⟩, .slice none 0 0, .slice none 0 0] 25) := ⟨_, rfl⟩
  have LU := Lib.hid (show Low w U by rw [hU]; exact low_new (low_new (low_new (Low.refl w) _) _) _)
  have FU := Lib.hid (fun W (h : Low U W) => low_box2 (w := w) (wr := W) ((show Low ((w.alloc (.cells #[.int .i64 a.k, .string a.n, .slice pe a.l.length ce, .slice pv a.ats.length cv] 25)).alloc (.cells #[.int .i64 b.k, .string b.n, .slice pe' b.l.length ce', .slice pv' b.ats.length cv'] 25)) U by rw [hU]; exact low_new (Low.refl _) _).trans h))
  have ZU := Lib.hid (show BoxAt U (w.heap.size + 2) [.int .i64 0, .string ⟨#[]⟩, .slice none 0 0, .slice none 0 0] from BoxAt.made hU (by simp) rfl)
  have HZS := Lib.hid (show U.heap.size = w.heap.size + 3 by rw [hU]; simp)
  have HU := Lib.hid hU
  have HB1 := Lib.hid (below_n (n + 1) A A' a b U _ _ _ _ (ha.low LU.out) (hb.low LU.out) ma mb)
  have HB2 := Lib.hid fun W (l : Low U W) => below_n (n + 1) A' A b a W _ _ _ _ (hb.low (LU.out.trans l)) (ha.low (LU.out.trans l)) mb ma
  rw [h1] at HB1
  have HC := Lib.hid fun W (l : Low U W) => (show Calls Try.prog 44 #[.agg #[.int .i64 b.k, .string b.n, .slice pe' b.l.length ce', .slice pv' b.ats.length cv']] W _ from clone_c b W _ _ sb (hb.low (LU.out.trans l)))
  have HJ := Lib.hid (show jn (n + 1) a b = some b by rw [jn, if_pos h1])
  unfold tv at *
  clear ha hb ma mb hU h1 HB2
  go_enter Try.func32, Try.ntmps32
  go_upto_region 1 with fail
  rw [← HU.out]
  obtain ⟨⟨f0, f1, f2, f3⟩, i0, i1, i2, i3⟩ := FU.out U (Low.refl U)
  go_wp2_with fail
  refine HB1.out.mono ?_
  rintro e w1 ⟨rfl, l1⟩
  have L1 := Lib.hid l1
  clear l1 HB1
  clear f0 f1 f2 f3 i0 i1 i2 i3
  obtain ⟨⟨f0, f1, f2, f3⟩, i0, i1, i2, i3⟩ := FU.out w1 L1.out
  have HCL := Lib.hid (HC.out w1 L1.out)
  go_wp2_with fail
  refine HCL.out.mono ?_
  rintro e w9 ⟨qe, de, qv, dv, rfl, hrt, l9⟩
  have L9 := Lib.hid (L1.out.trans l9)
  have HRT := Lib.hid hrt
  have HSZ := Lib.hid (show U.heap.size ≤ w1.heap.size from L1.out.size)
  clear l9 hrt HCL HC f0 f1 f2 f3 i0 i1 i2 i3
  obtain ⟨g0, g1, g2, g3⟩ := (ZU.out.low L9.out).at4
  obtain ⟨o0, o1, o2, o3⟩ := (ZU.out.low L9.out).op4
  go_wp2_with fail
  refine bodyPost_ret (v := .tuple #[.agg #[.int .i64 b.k, .string b.n, .slice qe b.l.length de, .slice qv b.ats.length dv], .int .i64 0]) (by simp [results, Try.results32, go_sem, World.cell?_setCell_same', g0, g1, g2, g3]; try rfl) rfl ?_
  have K8 := kept4 w9 (w.heap.size + 2) 0 1 2 3 (.int .i64 b.k) (.string b.n) (.slice qe b.l.length de) (.slice qv b.ats.length dv)
  refine ⟨b, qe, de, qv, dv, 0, rfl, by rw [HJ.out]; exact ⟨rfl, rfl⟩, ?_, low_all (LU.out.trans L9.out) (by omega) K8⟩
  refine RT.to (fun x hx hlt => ?_) HRT.out
  have := HSZ.out
  have := HZS.out
  exact ⟨.inr (by omega), K8.2.2.2 x hlt (by simp; omega)⟩
set_option maxHeartbeats 3200000 in
set_option maxRecDepth 100000 in
theorem joinB_c {A A' : Nat → Prop} {n : Nat} (a b : T) (w : World) (e v e' v' : Value) (ha : RT A w (n + 1) a e v) (hb : RT A' w (n + 1) b e' v') (ma : mayB (n + 1) a = true) (mb : mayB (n + 1) b = true) (sa : Sm (n + 1) a) (h1 : belB (n + 1) a b = false) (h2 : belB (n + 1) b a = true) : Calls Try.prog 32 #[tv a e v, tv b e' v'] w (JoinP (fun _ => False) (n + 1) (jn (n + 1) a b) w) := by
  obtain ⟨pe, ce, pv, cv, rfl, rfl, z1, z2, z3, z4⟩ := ha.sl
  obtain ⟨pe', ce', pv', cv', rfl, rfl, z1', z2', z3', z4'⟩ := hb.sl
  obtain ⟨U, hU⟩ : ∃ U, U = ((w.alloc (.cells #[.int .i64 a.k, .string a.n, .slice pe a.l.length ce, .slice pv a.ats.length cv] 25)).alloc (.cells #[.int .i64 b.k, .string b.n, .slice pe' b.l.length ce', .slice pv' b.ats.length cv'] 25)).alloc (.cells #[.int .i64 0, .string ⟨#[]⟩, .slice none 0 0, .slice none 0 0] 25) := ⟨_, rfl⟩
  have LU := Lib.hid (show Low w U by rw [hU]; exact low_new (low_new (low_new (Low.refl w) _) _) _)
  have FU := Lib.hid (fun W (h : Low U W) => low_box2 (w := w) (wr := W) ((show Low ((w.alloc (.cells #[.int .i64 a.k, .string a.n, .slice pe a.l.length ce, .slice pv a.ats.length cv] 25)).alloc (.cells #[.int .i64 b.k, .string b.n, .slice pe' b.l.length ce', .slice pv' b.ats.length cv'] 25)) U by rw [hU]; exact low_new (Low.refl _) _).trans h))
  have ZU := Lib.hid (show BoxAt U (w.heap.size + 2) [.int .i64 0, .string ⟨#[]⟩, .slice none 0 0, .slice none 0 0] from BoxAt.made hU (by simp) rfl)
  have HZS := Lib.hid (show U.heap.size = w.heap.size + 3 by rw [hU]; simp)
  have HU := Lib.hid hU
  have HB1 := Lib.hid (below_n (n + 1) A A' a b U _ _ _ _ (ha.low LU.out) (hb.low LU.out) ma mb)
  have HB2 := Lib.hid fun W (l : Low U W) => below_n (n + 1) A' A b a W _ _ _ _ (hb.low (LU.out.trans l)) (ha.low (LU.out.trans l)) mb ma
  rw [h1] at HB1
  rw [h2] at HB2
  have HC := Lib.hid fun W (l : Low U W) => (show Calls Try.prog 44 #[.agg #[.int .i64 a.k, .string a.n, .slice pe a.l.length ce, .slice pv a.ats.length cv]] W _ from clone_c a W _ _ sa (ha.low (LU.out.trans l)))
  have HJ := Lib.hid (show jn (n + 1) a b = some a by rw [jn, if_neg (by rw [h1]; simp), if_pos h2])
  unfold tv at *
  clear ha hb ma mb hU h1 h2
  go_enter Try.func32, Try.ntmps32
  go_upto_region 1 with fail
  rw [← HU.out]
  obtain ⟨⟨f0, f1, f2, f3⟩, i0, i1, i2, i3⟩ := FU.out U (Low.refl U)
  go_wp2_with fail
  refine HB1.out.mono ?_
  rintro e w1 ⟨rfl, l1⟩
  have L1 := Lib.hid l1
  clear l1 HB1
  clear f0 f1 f2 f3 i0 i1 i2 i3
  obtain ⟨⟨f0, f1, f2, f3⟩, i0, i1, i2, i3⟩ := FU.out w1 L1.out
  have HB3 := Lib.hid (HB2.out w1 L1.out)
  go_wp2_with fail
  refine HB3.out.mono ?_
  rintro e w2 ⟨rfl, l2⟩
  have L2 := Lib.hid (L1.out.trans l2)
  clear l2 HB3 HB2
  clear f0 f1 f2 f3 i0 i1 i2 i3
  obtain ⟨⟨f0, f1, f2, f3⟩, i0, i1, i2, i3⟩ := FU.out w2 L2.out
  have HCL := Lib.hid (HC.out w2 L2.out)
  go_wp2_with fail
  refine HCL.out.mono ?_
  rintro e w9 ⟨qe, de, qv, dv, rfl, hrt, l9⟩
  have L9 := Lib.hid (L2.out.trans l9)
  have HRT := Lib.hid hrt
  have HSZ := Lib.hid (show U.heap.size ≤ w2.heap.size from L2.out.size)
  clear l9 hrt HCL HC f0 f1 f2 f3 i0 i1 i2 i3
  obtain ⟨g0, g1, g2, g3⟩ := (ZU.out.low L9.out).at4
  obtain ⟨o0, o1, o2, o3⟩ := (ZU.out.low L9.out).op4
  go_wp2_with fail
  refine bodyPost_ret (v := .tuple #[.agg #[.int .i64 a.k, .string a.n, .slice qe a.l.length de, .slice qv a.ats.length dv], .int .i64 0]) (by simp [results, Try.results32, go_sem, World.cell?_setCell_same', g0, g1, g2, g3]; try rfl) rfl ?_
  have K8 := kept4 w9 (w.heap.size + 2) 0 1 2 3 (.int .i64 a.k) (.string a.n) (.slice qe a.l.length de) (.slice qv a.ats.length dv)
  refine ⟨a, qe, de, qv, dv, 0, rfl, by rw [HJ.out]; exact ⟨rfl, rfl⟩, ?_, low_all (LU.out.trans L9.out) (by omega) K8⟩
  refine RT.to (fun x hx hlt => ?_) HRT.out
  have := HSZ.out
  have := HZS.out
  exact ⟨.inr (by omega), K8.2.2.2 x hlt (by simp; omega)⟩
set_option maxHeartbeats 3200000 in
set_option maxRecDepth 100000 in
theorem join7_c {n : Nat} (hj : JnPC n) {A A' : Nat → Prop} (a b : T) (w : World) (e v e' v' : Value) (ha : RT A w (n + 1) a e v) (hb : RT A' w (n + 1) b e' v') (ma : mayB (n + 1) a = true) (mb : mayB (n + 1) b = true) (sa : Sm (n + 1) a) (sb : Sm (n + 1) b) (h1 : belB (n + 1) a b = false) (h2 : belB (n + 1) b a = false) (h3 : trB a = false) (hk : a.k = b.k) (h7 : a.k = 7) : Calls Try.prog 32 #[tv a e v, tv b e' v'] w (JoinP (fun _ => False) (n + 1) (jn (n + 1) a b) w) := by
  obtain ⟨pe, ce, pv, cv, rfl, rfl, z1, z2, z3, z4⟩ := ha.sl
  obtain ⟨pe', ce', pv', cv', rfl, rfl, z1', z2', z3', z4'⟩ := hb.sl
  obtain ⟨U, hU⟩ : ∃ U, U = ((w.alloc (.cells #[.int .i64 a.k, .string a.n, .slice pe a.l.length ce, .slice pv a.ats.length cv] 25)).alloc (.cells #[.int .i64 b.k, .string b.n, .slice pe' b.l.length ce', .slice pv' b.ats.length cv'] 25)).alloc (.cells #[.int .i64 0, .string ⟨#[]⟩, .slice none 0 0, .slice none 0 0] 25) := ⟨_, rfl⟩
  have LU := Lib.hid (show Low w U by rw [hU]; exact low_new (low_new (low_new (Low.refl w) _) _) _)
  have FU := Lib.hid (fun W (h : Low U W) => low_box2 (w := w) (wr := W) ((show Low ((w.alloc (.cells #[.int .i64 a.k, .string a.n, .slice pe a.l.length ce, .slice pv a.ats.length cv] 25)).alloc (.cells #[.int .i64 b.k, .string b.n, .slice pe' b.l.length ce', .slice pv' b.ats.length cv'] 25)) U by rw [hU]; exact low_new (Low.refl _) _).trans h))
  have ZU := Lib.hid (show BoxAt U (w.heap.size + 2) [.int .i64 0, .string ⟨#[]⟩, .slice none 0 0, .slice none 0 0] from BoxAt.made hU (by simp) rfl)
  have HZS := Lib.hid (show U.heap.size = w.heap.size + 3 by rw [hU]; simp)
  have HU := Lib.hid hU
  have HB1 := Lib.hid (below_n (n + 1) A A' a b U _ _ _ _ (ha.low LU.out) (hb.low LU.out) ma mb)
  have HB2 := Lib.hid fun W (l : Low U W) => below_n (n + 1) A' A b a W _ _ _ _ (hb.low (LU.out.trans l)) (ha.low (LU.out.trans l)) mb ma
  rw [h1] at HB1
  rw [h2] at HB2
  have HT1 := Lib.hid fun W => truth_c a W pe pv ce cv
  rw [h3] at HT1
  obtain ⟨x, hx, hxd, mx⟩ := may_set ma h7
  obtain ⟨y, hy, hyd, my⟩ := may_set mb (hk ▸ h7)
  have HC := Lib.hid fun W (l : Low U W) => (show Calls Try.prog 45 #[.agg #[.int .i64 a.k, .string a.n, .slice pe a.l.length ce, .slice pv a.ats.length cv], .agg #[.int .i64 b.k, .string b.n, .slice pe' b.l.length ce', .slice pv' b.ats.length cv']] W _ from joinSets_c hj a b x y W _ _ _ _ (ha.low (LU.out.trans l)) (hb.low (LU.out.trans l)) hx hy (sa.2.2 x (ins_l (by rw [hx]; simp))) (sb.2.2 y (ins_l (by rw [hy]; simp))) mx my)
  have HJ := Lib.hid (show jn (n + 1) a b = (jn n x y).map fun t => .mk 7 ⟨#[]⟩ [t] [] by rw [jn, if_neg (by rw [h1]; simp), if_neg (by rw [h2]; simp), if_neg (by rw [h3]; simp), if_neg (by simpa using hk), if_pos h7, hxd, hyd])
  have q0 : (a.k == b.k) = true := by simp [hk]
  have q1 : (!a.k == b.k) = false := by rw [q0]; rfl
  have q7 : (a.k == 7) = true := by simp [h7]
  clear hx hy hxd hyd mx my sa sb
  unfold tv at *
  clear ha hb ma mb hU h1 h2 h3 h7 hk hj
  go_enter Try.func32, Try.ntmps32
  go_upto_region 1 with fail
  rw [← HU.out]
  obtain ⟨⟨f0, f1, f2, f3⟩, i0, i1, i2, i3⟩ := FU.out U (Low.refl U)
  go_wp2_with fail
  refine HB1.out.mono ?_
  rintro e w1 ⟨rfl, l1⟩
  have L1 := Lib.hid l1
  clear l1 HB1
  clear f0 f1 f2 f3 i0 i1 i2 i3
  obtain ⟨⟨f0, f1, f2, f3⟩, i0, i1, i2, i3⟩ := FU.out w1 L1.out
  have HB3 := Lib.hid (HB2.out w1 L1.out)
  go_wp2_with fail
  refine HB3.out.mono ?_
  rintro e w2 ⟨rfl, l2⟩
  have L2 := Lib.hid (L1.out.trans l2)
  clear l2 HB3 HB2
  clear f0 f1 f2 f3 i0 i1 i2 i3
  obtain ⟨⟨f0, f1, f2, f3⟩, i0, i1, i2, i3⟩ := FU.out w2 L2.out
  have HT3 := Lib.hid (HT1.out w2)
  go_wp2_with fail
  refine HT3.out.mono ?_
  rintro e w3 ⟨rfl, l3⟩
  have L3 := Lib.hid (L2.out.trans l3)
  clear l3 HT3 HT1
  clear f0 f1 f2 f3 i0 i1 i2 i3
  obtain ⟨⟨f0, f1, f2, f3⟩, i0, i1, i2, i3⟩ := FU.out w3 L3.out
  have HSC := Lib.hid (HC.out w3 L3.out)
  go_wp2_with fail
  refine HSC.out.mono ?_
  rintro e w9 ⟨t, qe, de, qv, dv, er, rfl, hjr, hrt, l9⟩
  have L9 := Lib.hid (L3.out.trans l9)
  have HRT := Lib.hid hrt
  have HJR := Lib.hid hjr
  have HSZ := Lib.hid (show U.heap.size ≤ w3.heap.size from L3.out.size)
  clear l9 hrt hjr HSC HC f0 f1 f2 f3 i0 i1 i2 i3
  obtain ⟨g0, g1, g2, g3⟩ := (ZU.out.low L9.out).at4
  obtain ⟨o0, o1, o2, o3⟩ := (ZU.out.low L9.out).op4
  go_wp2_with fail
  refine bodyPost_ret (v := .tuple #[.agg #[.int .i64 t.k, .string t.n, .slice qe t.l.length de, .slice qv t.ats.length dv], .int .i64 er]) (by simp [results, Try.results32, go_sem, World.cell?_setCell_same', g0, g1, g2, g3]; try rfl) rfl ?_
  have K8 := kept4 w9 (w.heap.size + 2) 0 1 2 3 (.int .i64 t.k) (.string t.n) (.slice qe t.l.length de) (.slice qv t.ats.length dv)
  refine ⟨t, qe, de, qv, dv, er, rfl, by rw [HJ.out]; exact HJR.out, ?_, low_all (LU.out.trans L9.out) (by omega) K8⟩
  refine RT.to (fun x hx hlt => ?_) HRT.out
  have := HSZ.out
  have := HZS.out
  rcases hx with hx | hx
  · exact hx.elim
  · exact ⟨.inr (by omega), K8.2.2.2 x hlt (by simp; omega)⟩
set_option maxHeartbeats 3200000 in
set_option maxRecDepth 100000 in
theorem join8_c {n : Nat} (hj : JnPC n) {A A' : Nat → Prop} (a b : T) (w : World) (e v e' v' : Value) (ha : RT A w (n + 1) a e v) (hb : RT A' w (n + 1) b e' v') (ma : mayB (n + 1) a = true) (mb : mayB (n + 1) b = true) (sa : Sm (n + 1) a) (sb : Sm (n + 1) b) (h1 : belB (n + 1) a b = false) (h2 : belB (n + 1) b a = false) (h3 : trB a = false) (hk : a.k = b.k) (h8 : a.k = 8) : Calls Try.prog 32 #[tv a e v, tv b e' v'] w (JoinP (fun _ => False) (n + 1) (jn (n + 1) a b) w) := by
  obtain ⟨pe, ce, pv, cv, rfl, rfl, z1, z2, z3, z4⟩ := ha.sl
  obtain ⟨pe', ce', pv', cv', rfl, rfl, z1', z2', z3', z4'⟩ := hb.sl
  obtain ⟨U, hU⟩ : ∃ U, U = ((w.alloc (.cells #[.int .i64 a.k, .string a.n, .slice pe a.l.length ce, .slice pv a.ats.length cv] 25)).alloc (.cells #[.int .i64 b.k, .string b.n, .slice pe' b.l.length ce', .slice pv' b.ats.length cv'] 25)).alloc (.cells #[.int .i64 0, .string ⟨#[]⟩, .slice none 0 0, .slice none 0 0] 25) := ⟨_, rfl⟩
  have LU := Lib.hid (show Low w U by rw [hU]; exact low_new (low_new (low_new (Low.refl w) _) _) _)
  have FU := Lib.hid (fun W (h : Low U W) => low_box2 (w := w) (wr := W) ((show Low ((w.alloc (.cells #[.int .i64 a.k, .string a.n, .slice pe a.l.length ce, .slice pv a.ats.length cv] 25)).alloc (.cells #[.int .i64 b.k, .string b.n, .slice pe' b.l.length ce', .slice pv' b.ats.length cv'] 25)) U by rw [hU]; exact low_new (Low.refl _) _).trans h))
  have ZU := Lib.hid (show BoxAt U (w.heap.size + 2) [.int .i64 0, .string ⟨#[]⟩, .slice none 0 0, .slice none 0 0] from BoxAt.made hU (by simp) rfl)
  have HZS := Lib.hid (show U.heap.size = w.heap.size + 3 by rw [hU]; simp)
  have HU := Lib.hid hU
  have HB1 := Lib.hid (below_n (n + 1) A A' a b U _ _ _ _ (ha.low LU.out) (hb.low LU.out) ma mb)
  have HB2 := Lib.hid fun W (l : Low U W) => below_n (n + 1) A' A b a W _ _ _ _ (hb.low (LU.out.trans l)) (ha.low (LU.out.trans l)) mb ma
  rw [h1] at HB1
  rw [h2] at HB2
  have HT1 := Lib.hid fun W => truth_c a W pe pv ce cv
  rw [h3] at HT1
  have HC := Lib.hid fun W (l : Low U W) => (show Calls Try.prog 46 #[.agg #[.int .i64 a.k, .string a.n, .slice pe a.l.length ce, .slice pv a.ats.length cv], .agg #[.int .i64 b.k, .string b.n, .slice pe' b.l.length ce', .slice pv' b.ats.length cv']] W _ from joinRecords_c hj a b W _ _ _ _ (ha.low (LU.out.trans l)) (hb.low (LU.out.trans l)) (fun j h => ⟨sa.2.2 _ (ins_as (List.getElem_mem h)), (mayB_succ.1 ma).2.2 _ (ins_as (List.getElem_mem h))⟩) (fun j h => ⟨sb.2.2 _ (ins_as (List.getElem_mem h)), (mayB_succ.1 mb).2.2 _ (ins_as (List.getElem_mem h))⟩) (by have := sa.2.1; omega))
  have HJ := Lib.hid (show jn (n + 1) a b = (pairJ (jn n) a.ats b.ats).map fun r => .mk 8 ⟨#[]⟩ [] r by rw [jn, if_neg (by rw [h1]; simp), if_neg (by rw [h2]; simp), if_neg (by rw [h3]; simp), if_neg (by simpa using hk), if_neg (by omega), if_pos h8])
  have q0 : (a.k == b.k) = true := by simp [hk]
  have q1 : (!a.k == b.k) = false := by rw [q0]; rfl
  have q7 : (a.k == 7) = false := by simp [h8]
  have q8 : (a.k == 8) = true := by simp [h8]
  clear sa sb
  unfold tv at *
  clear ha hb ma mb hU h1 h2 h3 h8 hk hj
  go_enter Try.func32, Try.ntmps32
  go_upto_region 1 with fail
  rw [← HU.out]
  obtain ⟨⟨f0, f1, f2, f3⟩, i0, i1, i2, i3⟩ := FU.out U (Low.refl U)
  go_wp2_with fail
  refine HB1.out.mono ?_
  rintro e w1 ⟨rfl, l1⟩
  have L1 := Lib.hid l1
  clear l1 HB1
  clear f0 f1 f2 f3 i0 i1 i2 i3
  obtain ⟨⟨f0, f1, f2, f3⟩, i0, i1, i2, i3⟩ := FU.out w1 L1.out
  have HB3 := Lib.hid (HB2.out w1 L1.out)
  go_wp2_with fail
  refine HB3.out.mono ?_
  rintro e w2 ⟨rfl, l2⟩
  have L2 := Lib.hid (L1.out.trans l2)
  clear l2 HB3 HB2
  clear f0 f1 f2 f3 i0 i1 i2 i3
  obtain ⟨⟨f0, f1, f2, f3⟩, i0, i1, i2, i3⟩ := FU.out w2 L2.out
  have HT3 := Lib.hid (HT1.out w2)
  go_wp2_with fail
  refine HT3.out.mono ?_
  rintro e w3 ⟨rfl, l3⟩
  have L3 := Lib.hid (L2.out.trans l3)
  clear l3 HT3 HT1
  clear f0 f1 f2 f3 i0 i1 i2 i3
  obtain ⟨⟨f0, f1, f2, f3⟩, i0, i1, i2, i3⟩ := FU.out w3 L3.out
  have HSC := Lib.hid (HC.out w3 L3.out)
  go_wp2_with fail
  refine HSC.out.mono ?_
  rintro e w9 ⟨t, qe, de, qv, dv, er, rfl, hjr, hrt, l9⟩
  have L9 := Lib.hid (L3.out.trans l9)
  have HRT := Lib.hid hrt
  have HJR := Lib.hid hjr
  have HSZ := Lib.hid (show U.heap.size ≤ w3.heap.size from L3.out.size)
  clear l9 hrt hjr HSC HC f0 f1 f2 f3 i0 i1 i2 i3
  obtain ⟨g0, g1, g2, g3⟩ := (ZU.out.low L9.out).at4
  obtain ⟨o0, o1, o2, o3⟩ := (ZU.out.low L9.out).op4
  go_wp2_with fail
  refine bodyPost_ret (v := .tuple #[.agg #[.int .i64 t.k, .string t.n, .slice qe t.l.length de, .slice qv t.ats.length dv], .int .i64 er]) (by simp [results, Try.results32, go_sem, World.cell?_setCell_same', g0, g1, g2, g3]; try rfl) rfl ?_
  have K8 := kept4 w9 (w.heap.size + 2) 0 1 2 3 (.int .i64 t.k) (.string t.n) (.slice qe t.l.length de) (.slice qv t.ats.length dv)
  refine ⟨t, qe, de, qv, dv, er, rfl, by rw [HJ.out]; exact HJR.out, ?_, low_all (LU.out.trans L9.out) (by omega) K8⟩
  refine RT.to (fun x hx hlt => ?_) HRT.out
  have := HSZ.out
  have := HZS.out
  rcases hx with hx | hx
  · exact hx.elim
  · exact ⟨.inr (by omega), K8.2.2.2 x hlt (by simp; omega)⟩
set_option maxHeartbeats 3200000 in
set_option maxRecDepth 100000 in
theorem joinX_c {A A' : Nat → Prop} {n : Nat} (a b : T) (w : World) (e v e' v' : Value) (ha : RT A w (n + 1) a e v) (hb : RT A' w (n + 1) b e' v') (ma : mayB (n + 1) a = true) (mb : mayB (n + 1) b = true) (h1 : belB (n + 1) a b = false) (h2 : belB (n + 1) b a = false) (h3 : trB a = false) (hk : a.k = b.k) (h7 : a.k ≠ 7) (h8 : a.k ≠ 8) : Calls Try.prog 32 #[tv a e v, tv b e' v'] w (JoinP (fun _ => False) (n + 1) (jn (n + 1) a b) w) := by
  obtain ⟨pe, ce, pv, cv, rfl, rfl, z1, z2, z3, z4⟩ := ha.sl
  obtain ⟨pe', ce', pv', cv', rfl, rfl, z1', z2', z3', z4'⟩ := hb.sl
  obtain ⟨U, hU⟩ : ∃ U, U = ((w.alloc (.cells #[.int .i64 a.k, .string a.n, .slice pe a.l.length ce, .slice pv a.ats.length cv] 25)).alloc (.cells #[.int .i64 b.k, .string b.n, .slice pe' b.l.length ce', .slice pv' b.ats.length cv'] 25)).alloc (.cells #[.int .i64 0, .string ⟨#[]⟩, .slice none 0 0, .slice none 0 0] 25) := ⟨_, rfl⟩
  have LU := Lib.hid (show Low w U by rw [hU]; exact low_new (low_new (low_new (Low.refl w) _) _) _)
  have FU := Lib.hid (fun W (h : Low U W) => low_box2 (w := w) (wr := W) ((show Low ((w.alloc (.cells #[.int .i64 a.k, .string a.n, .slice pe a.l.length ce, .slice pv a.ats.length cv] 25)).alloc (.cells #[.int .i64 b.k, .string b.n, .slice pe' b.l.length ce', .slice pv' b.ats.length cv'] 25)) U by rw [hU]; exact low_new (Low.refl _) _).trans h))
  have ZU := Lib.hid (show BoxAt U (w.heap.size + 2) [.int .i64 0, .string ⟨#[]⟩, .slice none 0 0, .slice none 0 0] from BoxAt.made hU (by simp) rfl)
  have HZS := Lib.hid (show U.heap.size = w.heap.size + 3 by rw [hU]; simp)
  have HU := Lib.hid hU
  have HB1 := Lib.hid (below_n (n + 1) A A' a b U _ _ _ _ (ha.low LU.out) (hb.low LU.out) ma mb)
  have HB2 := Lib.hid fun W (l : Low U W) => below_n (n + 1) A' A b a W _ _ _ _ (hb.low (LU.out.trans l)) (ha.low (LU.out.trans l)) mb ma
  rw [h1] at HB1
  rw [h2] at HB2
  have HT1 := Lib.hid fun W => truth_c a W pe pv ce cv
  rw [h3] at HT1
  have HJ := Lib.hid (show jn (n + 1) a b = none by rw [jn, if_neg (by rw [h1]; simp), if_neg (by rw [h2]; simp), if_neg (by rw [h3]; simp), if_neg (by simpa using hk), if_neg h7, if_neg h8])
  have b7 := beq_f h7
  have b8 := beq_f h8
  have q0 : (a.k == b.k) = true := by simp [hk]
  have q1 : (!a.k == b.k) = false := by rw [q0]; rfl
  unfold tv at *
  clear ha hb ma mb hU h1 h2 h3 h7 h8 hk
  go_enter Try.func32, Try.ntmps32
  go_upto_region 1 with fail
  rw [← HU.out]
  obtain ⟨⟨f0, f1, f2, f3⟩, i0, i1, i2, i3⟩ := FU.out U (Low.refl U)
  go_wp2_with fail
  refine HB1.out.mono ?_
  rintro e w1 ⟨rfl, l1⟩
  have L1 := Lib.hid l1
  clear l1 HB1
  clear f0 f1 f2 f3 i0 i1 i2 i3
  obtain ⟨⟨f0, f1, f2, f3⟩, i0, i1, i2, i3⟩ := FU.out w1 L1.out
  have HB3 := Lib.hid (HB2.out w1 L1.out)
  go_wp2_with fail
  refine HB3.out.mono ?_
  rintro e w2 ⟨rfl, l2⟩
  have L2 := Lib.hid (L1.out.trans l2)
  clear l2 HB3 HB2
  clear f0 f1 f2 f3 i0 i1 i2 i3
  obtain ⟨⟨f0, f1, f2, f3⟩, i0, i1, i2, i3⟩ := FU.out w2 L2.out
  have HT3 := Lib.hid (HT1.out w2)
  go_wp2_with fail
  refine HT3.out.mono ?_
  rintro e w3 ⟨rfl, l3⟩
  have L3 := Lib.hid (L2.out.trans l3)
  clear l3 HT3 HT1
  clear f0 f1 f2 f3 i0 i1 i2 i3
  obtain ⟨⟨f0, f1, f2, f3⟩, i0, i1, i2, i3⟩ := FU.out w3 L3.out
  obtain ⟨g0, g1, g2, g3⟩ := (ZU.out.low L3.out).at4
  obtain ⟨o0, o1, o2, o3⟩ := (ZU.out.low L3.out).op4
  go_wp2_with fail
  refine bodyPost_ret (v := .tuple #[.agg #[.int .i64 0, .string ⟨#[]⟩, .slice none 0 0, .slice none 0 0], .int .i64 30]) (by simp [results, Try.results32, go_sem, World.cell?_setCell_same', g0, g1, g2, g3]; try rfl) rfl ?_
  have K8 := kept4 w3 (w.heap.size + 2) 0 1 2 3 (.int .i64 0) (.string ⟨#[]⟩) (.slice none 0 0) (.slice none 0 0)
  refine ⟨noT, none, 0, none, 0, 30, rfl, ?_, rt_kind _ _ _ _, low_all (LU.out.trans L3.out) (by omega) K8⟩
  rw [HJ.out]; exact ⟨rfl, rfl⟩
theorem join_n (n : Nat) : JnPC n := by
  induction n with
  | zero => intro A A' a b w e v e' v' h; exact h.elim
  | succ n ih =>
    intro A A' a b w e v e' v' ha hb sa sb ma mb
    by_cases h1 : belB (n + 1) a b = true
    · exact joinA_c a b w e v e' v' ha hb ma mb sb h1
    have h1 : belB (n + 1) a b = false := by simpa using h1
    by_cases h2 : belB (n + 1) b a = true
    · exact joinB_c a b w e v e' v' ha hb ma mb sa h1 h2
    have h2 : belB (n + 1) b a = false := by simpa using h2
    by_cases h3 : (trB a = true ∧ trB b = true) ∨ a.k ≠ b.k
    · exact joinK_c _ a b w e v e' v' ha hb ma mb h1 h2 h3
    have hk : a.k = b.k := by
      by_cases h : a.k = b.k
      · exact h
      · exact absurd (.inr h) h3
    have ht : trB a = false := by
      cases h : trB a with
      | false => rfl
      | true => exact absurd (.inl ⟨h, by unfold trB at h ⊢; rw [← hk]; exact h⟩) h3
    by_cases h7 : a.k = 7
    · exact join7_c ih a b w e v e' v' ha hb ma mb sa sb h1 h2 ht hk h7
    by_cases h8 : a.k = 8
    · exact join8_c ih a b w e v e' v' ha hb ma mb sa sb h1 h2 ht hk h8
    exact joinX_c a b w e v e' v' ha hb ma mb h1 h2 ht hk h7 h8
theorem Join_c {n : Nat} {A A' : Nat → Prop} (a b : T) (w : World) (e v e' v' : Value) (hn : n ≤ 100) (ha : RT A w n a e v) (hb : RT A' w n b e' v') (sa : Sm n a) (sb : Sm n b) (ma : mayB n a = true) (mb : mayB n b = true) :
    Calls Try.prog 20 #[tv a e v, tv b e' v'] w (JoinP (fun _ => False) n (jn n a b) w) :=
  joinW_c (jn n a b) a b w e v e' v' hn ha hb sa sb fun W l => join_n n A A' a b W e v e' v' (ha.low l) (hb.low l) sa sb ma mb
end Go.Proofs.Ytjipncpgmajeeaa
