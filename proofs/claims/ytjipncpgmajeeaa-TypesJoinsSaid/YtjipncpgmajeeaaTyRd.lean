/- The reference's Join: one of the two itself, two truths, nothing. No condition. -/
import Derived.Test.YtjipncpgmajeeaaTyC2
import Derived.Test.YtjipncpgmajeeaaTyJn
namespace Go.Proofs.Ytjipncpgmajeeaa
open Go.RowKit
set_option maxHeartbeats 3200000 in
set_option maxRecDepth 100000 in
theorem rjoinA_c {A : Nat → Prop} {n : Nat} (a b : T) (w : World) (e v e' v' : Value) (ha : RT A w (n + 1) a e v) (hb : RT A w (n + 1) b e' v') (ma : mayB (n + 1) a = true) (mb : mayB (n + 1) b = true) (h1 : belB (n + 1) a b = true) : Calls Try.prog 21 #[tv a e v, tv b e' v'] w (JoinP A (n + 1) (jn (n + 1) a b) w) := by
  obtain ⟨pe, ce, pv, cv, rfl, rfl, z1, z2, z3, z4⟩ := ha.sl
  obtain ⟨pe', ce', pv', cv', rfl, rfl, z1', z2', z3', z4'⟩ := hb.sl
  obtain ⟨U, hU⟩ : ∃ U, U = ((w.alloc (.cells #[.int .i64 a.k, .string a.n, .slice pe a.l.length ce, .slice pv a.ats.length cv] 25)).alloc (.cells #[.int .i64 b.k, .string b.n, .slice pe' b.l.length ce', .slice pv' b.ats.length cv'] 25)).alloc (.cells #[.int .i64 0, .string ⟨#[]⟩, .slice none 0 0, .slice none 0 0] 25) := ⟨_, rfl⟩
  have LU := Lib.hid (show Low w U by rw [hU]; exact low_new (low_new (low_new (Low.refl w) _) _) _)
  have FU := Lib.hid (fun W (h : Low U W) => low_box2 (w := w) (wr := W) ((show Low ((w.alloc (.cells #[.int .i64 a.k, .string a.n, .slice pe a.l.length ce, .slice pv a.ats.length cv] 25)).alloc (.cells #[.int .i64 b.k, .string b.n, .slice pe' b.l.length ce', .slice pv' b.ats.length cv'] 25)) U by rw [hU]; exact low_new (Low.refl _) _).trans h))
  have ZU := Lib.hid (show BoxAt U (w.heap.size + 2) [.int .i64 0, .string ⟨#[]⟩, .slice none 0 0, .slice none 0 0] from BoxAt.made hU (by simp) rfl)
  have HZS := Lib.hid (show U.heap.size = w.heap.size + 3 by rw [hU]; simp)
  have HU := Lib.hid hU
  have HB1 := Lib.hid (rBelow_c (n + 1) A A a b U _ _ _ _ (ha.low LU.out) (hb.low LU.out) ma mb)
  have HB2 := Lib.hid fun W (l : Low U W) => rBelow_c (n + 1) A A b a W _ _ _ _ (hb.low (LU.out.trans l)) (ha.low (LU.out.trans l)) mb ma
  rw [h1] at HB1
  have HR := Lib.hid hb
  have HJ := Lib.hid (show jn (n + 1) a b = some b by rw [jn, if_pos h1])
  unfold tv at *
  clear ha hb ma mb hU h1 HB2
  go_enter Try.func21, Try.ntmps21
  go_upto_region 1 with fail
  rw [← HU.out]
  obtain ⟨⟨f0, f1, f2, f3⟩, i0, i1, i2, i3⟩ := FU.out U (Low.refl U)
  go_wp2_with fail
  refine HB1.out.mono ?_
  rintro e w1 ⟨rfl, l1⟩
  have L1 := Lib.hid l1
  clear l1 HB1
  clear f0 f1 f2 f3 i0 i1 i2 i3
  obtain ⟨⟨f0, f1, f2, f3⟩, i0, i1, i2, i3⟩ := FU.out w1 L1.out
  obtain ⟨g0, g1, g2, g3⟩ := (ZU.out.low L1.out).at4
  obtain ⟨o0, o1, o2, o3⟩ := (ZU.out.low L1.out).op4
  go_wp2_with fail
  refine bodyPost_ret (v := .tuple #[.agg #[.int .i64 b.k, .string b.n, .slice pe' b.l.length ce', .slice pv' b.ats.length cv'], .int .i64 0]) (by simp [results, Try.results21, go_sem, World.cell?_setCell_same', g0, g1, g2, g3]; try rfl) rfl ?_
  have K8 := kept4 w1 (w.heap.size + 2) 0 1 2 3 (.int .i64 b.k) (.string b.n) (.slice pe' b.l.length ce') (.slice pv' b.ats.length cv')
  have LK := low_all (LU.out.trans L1.out) (by omega) K8
  exact ⟨b, pe', ce', pv', cv', 0, rfl, by rw [HJ.out]; exact ⟨rfl, rfl⟩, (RT.imp HR.out fun _ h => .inl h).low LK, LK⟩
set_option maxHeartbeats 3200000 in
set_option maxRecDepth 100000 in
theorem rjoinB_c {A : Nat → Prop} {n : Nat} (a b : T) (w : World) (e v e' v' : Value) (ha : RT A w (n + 1) a e v) (hb : RT A w (n + 1) b e' v') (ma : mayB (n + 1) a = true) (mb : mayB (n + 1) b = true) (h1 : belB (n + 1) a b = false) (h2 : belB (n + 1) b a = true) : Calls Try.prog 21 #[tv a e v, tv b e' v'] w (JoinP A (n + 1) (jn (n + 1) a b) w) := by
  obtain ⟨pe, ce, pv, cv, rfl, rfl, z1, z2, z3, z4⟩ := ha.sl
  obtain ⟨pe', ce', pv', cv', rfl, rfl, z1', z2', z3', z4'⟩ := hb.sl
  obtain ⟨U, hU⟩ : ∃ U, U = ((w.alloc (.cells #[.int .i64 a.k, .string a.n, .slice pe a.l.length ce, .slice pv a.ats.length cv] 25)).alloc (.cells #[.int .i64 b.k, .string b.n, .slice pe' b.l.length ce', .slice pv' b.ats.length cv'] 25)).alloc (.cells #[.int .i64 0, .string ⟨#[]⟩, .slice none 0 0, .slice none 0 0] 25) := ⟨_, rfl⟩
  have LU := Lib.hid (show Low w U by rw [hU]; exact low_new (low_new (low_new (Low.refl w) _) _) _)
  have FU := Lib.hid (fun W (h : Low U W) => low_box2 (w := w) (wr := W) ((show Low ((w.alloc (.cells #[.int .i64 a.k, .string a.n, .slice pe a.l.length ce, .slice pv a.ats.length cv] 25)).alloc (.cells #[.int .i64 b.k, .string b.n, .slice pe' b.l.length ce', .slice pv' b.ats.length cv'] 25)) U by rw [hU]; exact low_new (Low.refl _) _).trans h))
  have ZU := Lib.hid (show BoxAt U (w.heap.size + 2) [.int .i64 0, .string ⟨#[]⟩, .slice none 0 0, .slice none 0 0] from BoxAt.made hU (by simp) rfl)
  have HZS := Lib.hid (show U.heap.size = w.heap.size + 3 by rw [hU]; simp)
  have HU := Lib.hid hU
  have HB1 := Lib.hid (rBelow_c (n + 1) A A a b U _ _ _ _ (ha.low LU.out) (hb.low LU.out) ma mb)
  have HB2 := Lib.hid fun W (l : Low U W) => rBelow_c (n + 1) A A b a W _ _ _ _ (hb.low (LU.out.trans l)) (ha.low (LU.out.trans l)) mb ma
  rw [h1] at HB1
  rw [h2] at HB2
  have HR := Lib.hid ha
  have HJ := Lib.hid (show jn (n + 1) a b = some a by rw [jn, if_neg (by rw [h1]; simp), if_pos h2])
  unfold tv at *
  clear ha hb ma mb hU h1 h2
  go_enter Try.func21, Try.ntmps21
  go_upto_region 1 with fail
  rw [← HU.out]
  obtain ⟨⟨f0, f1, f2, f3⟩, i0, i1, i2, i3⟩ := FU.out U (Low.refl U)
  go_wp2_with fail
  refine HB1.out.mono ?_
  rintro e w1 ⟨rfl, l1⟩
  have L1 := Lib.hid l1
  clear l1 HB1
  clear f0 f1 f2 f3 i0 i1 i2 i3
  obtain ⟨⟨f0, f1, f2, f3⟩, i0, i1, i2, i3⟩ := FU.out w1 L1.out
  have HB3 := Lib.hid (HB2.out w1 L1.out)
  go_wp2_with fail
  refine HB3.out.mono ?_
  rintro e w2 ⟨rfl, l2⟩
  have L2 := Lib.hid (L1.out.trans l2)
  clear l2 HB3 HB2
  clear f0 f1 f2 f3 i0 i1 i2 i3
  obtain ⟨⟨f0, f1, f2, f3⟩, i0, i1, i2, i3⟩ := FU.out w2 L2.out
  obtain ⟨g0, g1, g2, g3⟩ := (ZU.out.low L2.out).at4
  obtain ⟨o0, o1, o2, o3⟩ := (ZU.out.low L2.out).op4
  go_wp2_with fail
  refine bodyPost_ret (v := .tuple #[.agg #[.int .i64 a.k, .string a.n, .slice pe a.l.length ce, .slice pv a.ats.length cv], .int .i64 0]) (by simp [results, Try.results21, go_sem, World.cell?_setCell_same', g0, g1, g2, g3]; try rfl) rfl ?_
  have K8 := kept4 w2 (w.heap.size + 2) 0 1 2 3 (.int .i64 a.k) (.string a.n) (.slice pe a.l.length ce) (.slice pv a.ats.length cv)
  have LK := low_all (LU.out.trans L2.out) (by omega) K8
  exact ⟨a, pe, ce, pv, cv, 0, rfl, by rw [HJ.out]; exact ⟨rfl, rfl⟩, (RT.imp HR.out fun _ h => .inl h).low LK, LK⟩
set_option maxHeartbeats 3200000 in
set_option maxRecDepth 100000 in
theorem rjoinT_c {A : Nat → Prop} {n : Nat} (a b : T) (w : World) (e v e' v' : Value) (ha : RT A w (n + 1) a e v) (hb : RT A w (n + 1) b e' v') (ma : mayB (n + 1) a = true) (mb : mayB (n + 1) b = true) (h1 : belB (n + 1) a b = false) (h2 : belB (n + 1) b a = false) (h3 : trB a = true ∧ trB b = true) : Calls Try.prog 21 #[tv a e v, tv b e' v'] w (JoinP A (n + 1) (jn (n + 1) a b) w) := by
  obtain ⟨pe, ce, pv, cv, rfl, rfl, z1, z2, z3, z4⟩ := ha.sl
  obtain ⟨pe', ce', pv', cv', rfl, rfl, z1', z2', z3', z4'⟩ := hb.sl
  obtain ⟨U, hU⟩ : ∃ U, U = ((w.alloc (.cells #[.int .i64 a.k, .string a.n, .slice pe a.l.length ce, .slice pv a.ats.length cv] 25)).alloc (.cells #[.int .i64 b.k, .string b.n, .slice pe' b.l.length ce', .slice pv' b.ats.length cv'] 25)).alloc (.cells #[.int .i64 0, .string ⟨#[]⟩, .slice none 0 0, .slice none 0 0] 25) := ⟨_, rfl⟩
  have LU := Lib.hid (show Low w U by rw [hU]; exact low_new (low_new (low_new (Low.refl w) _) _) _)
  have FU := Lib.hid (fun W (h : Low U W) => low_box2 (w := w) (wr := W) ((show Low ((w.alloc (.cells #[.int .i64 a.k, .string a.n, .slice pe a.l.length ce, .slice pv a.ats.length cv] 25)).alloc (.cells #[.int .i64 b.k, .string b.n, .slice pe' b.l.length ce', .slice pv' b.ats.length cv'] 25)) U by rw [hU]; exact low_new (Low.refl _) _).trans h))
  have ZU := Lib.hid (show BoxAt U (w.heap.size + 2) [.int .i64 0, .string ⟨#[]⟩, .slice none 0 0, .slice none 0 0] from BoxAt.made hU (by simp) rfl)
  have HZS := Lib.hid (show U.heap.size = w.heap.size + 3 by rw [hU]; simp)
  have HU := Lib.hid hU
  have HB1 := Lib.hid (rBelow_c (n + 1) A A a b U _ _ _ _ (ha.low LU.out) (hb.low LU.out) ma mb)
  have HB2 := Lib.hid fun W (l : Low U W) => rBelow_c (n + 1) A A b a W _ _ _ _ (hb.low (LU.out.trans l)) (ha.low (LU.out.trans l)) mb ma
  rw [h1] at HB1
  rw [h2] at HB2
  have HJ := Lib.hid (show jn (n + 1) a b = some boolT by rw [jn, if_neg (by rw [h1]; simp), if_neg (by rw [h2]; simp), if_pos h3])
  obtain ⟨t1, t2⟩ := h3
  unfold trB at t1 t2
  simp only [decide_eq_true_eq] at t1 t2
  have q1 : (1 : Int) ≤ a.k := by omega
  have q2 : a.k ≤ (3 : Int) := by omega
  have q3 : (1 : Int) ≤ b.k := by omega
  have q4 : b.k ≤ (3 : Int) := by omega
  unfold tv at *
  clear ha hb ma mb hU h1 h2 t1 t2
  go_enter Try.func21, Try.ntmps21
  go_upto_region 1 with fail
  rw [← HU.out]
  obtain ⟨⟨f0, f1, f2, f3⟩, i0, i1, i2, i3⟩ := FU.out U (Low.refl U)
  go_wp2_with fail
  refine HB1.out.mono ?_
  rintro e w1 ⟨rfl, l1⟩
  have L1 := Lib.hid l1
  clear l1 HB1
  clear f0 f1 f2 f3 i0 i1 i2 i3
  obtain ⟨⟨f0, f1, f2, f3⟩, i0, i1, i2, i3⟩ := FU.out w1 L1.out
  have HB3 := Lib.hid (HB2.out w1 L1.out)
  go_wp2_with fail
  refine HB3.out.mono ?_
  rintro e w2 ⟨rfl, l2⟩
  have L2 := Lib.hid (L1.out.trans l2)
  clear l2 HB3 HB2
  clear f0 f1 f2 f3 i0 i1 i2 i3
  obtain ⟨⟨f0, f1, f2, f3⟩, i0, i1, i2, i3⟩ := FU.out w2 L2.out
  obtain ⟨g0, g1, g2, g3⟩ := (ZU.out.low L2.out).at4
  obtain ⟨o0, o1, o2, o3⟩ := (ZU.out.low L2.out).op4
  go_wp2_with fail
  refine bodyPost_ret (v := .tuple #[.agg #[.int .i64 3, .string ⟨#[]⟩, .slice none 0 0, .slice none 0 0], .int .i64 0]) (by simp [results, Try.results21, go_sem, World.cell?_setCell_same', g0, g1, g2, g3]; try rfl) rfl ?_
  have K8 := kept4 w2 (w.heap.size + 2) 0 1 2 3 (.int .i64 3) (.string ⟨#[]⟩) (.slice none 0 0) (.slice none 0 0)
  refine ⟨boolT, none, 0, none, 0, 0, rfl, ?_, rt_kind _ _ _ _, low_all (LU.out.trans L2.out) (by omega) K8⟩
  rw [HJ.out]; exact ⟨rfl, rfl⟩
end Go.Proofs.Ytjipncpgmajeeaa
