/- The reference's Join: nothing above both. No condition. -/
import Derived.Test.YtjipncpgmajeeaaTyRd
namespace Go.Proofs.Ytjipncpgmajeeaa
open Go.RowKit
theorem names_no {f : T → T → Option T} : ∀ {l m : List At}, namesB l m = false → pairJ f l m = none := fun {l m} h => by
  cases hr : pairJ f l m with
  | none => rfl
  | some r =>
    obtain ⟨h1, h2, h3⟩ := pairJ_some.1 hr
    have := namesB_yes h1 fun j j1 j2 => (h3 j j1 j2 (by omega)).1
    rw [h] at this
    cases this
set_option maxHeartbeats 3200000 in
set_option maxRecDepth 100000 in
theorem rjoinK_c {A : Nat → Prop} {n : Nat} (a b : T) (w : World) (e v e' v' : Value) (ha : RT A w (n + 1) a e v) (hb : RT A w (n + 1) b e' v') (ma : mayB (n + 1) a = true) (mb : mayB (n + 1) b = true) (h1 : belB (n + 1) a b = false) (h2 : belB (n + 1) b a = false) (h3 : ¬ (trB a = true ∧ trB b = true)) (hk : a.k ≠ b.k) : Calls Try.prog 21 #[tv a e v, tv b e' v'] w (JoinP A (n + 1) (jn (n + 1) a b) w) := by
  obtain ⟨pe, ce, pv, cv, rfl, rfl, z1, z2, z3, z4⟩ := ha.sl
  obtain ⟨pe', ce', pv', cv', rfl, rfl, z1', z2', z3', z4'⟩ := hb.sl
  obtain ⟨U, hU⟩ : ∃ U, U = ((w.alloc (.cells #[.int .i64 a.k, .string a.n, .slice pe a.l.length ce, .slice pv a.ats.length cv] 25)).alloc (.cells #[.int .i64 b.k, .string b.n, .slice pe' b.l.length ce', .slice pv' b.ats.length cv'] 25)).alloc (.cells #[.int .i64 0, .string ⟨#[]⟩, .slice none 0 0, .slice none 0 0] 25) := ⟨_, rfl⟩
  have LU := Lib.hid (show Low w U by rw [hU]; exact low_new (low_new (low_new (Low.refl w) _) _) _)
  have FU := Lib.hid (fun W (h : Low U W) => low_box2 (w := w) (wr := W) ((show Low ((w.alloc (.cells #[.int .i64 a.k, .string a.n, .slice pe a.l.length ce, .slice pv a.ats.length cv] 25)).alloc (.cells #[.int .i64 b.k, .string b.n, .slice pe' b.l.length ce', .slice pv' b.ats.length cv'] 25)) U by rw [hU]; exact low_new (Low.refl _) _).trans h))
  have ZU := Lib.hid (show BoxAt U (w.heap.size + 2) [.int .i64 0, .string ⟨#[]⟩, .slice none 0 0, .slice none 0 0] from BoxAt.made hU (by simp) rfl)
  have HZS := Lib.hid (show U.heap.size = w.heap.size + 3 by rw [hU]; simp)
  have HU := Lib.hid hU
  have HB1 := Lib.hid (rBelow_c (n + 1) A A a b U _ _ _ _ (ha.low LU.out) (hb.low LU.out) ma mb)
  have HB2 := Lib.hid fun W (l : Low U W) => rBelow_c (n + 1) A A b a W _ _ _ _ (hb.low (LU.out.trans l)) (ha.low (LU.out.trans l)) mb ma
  rw [h1] at HB1
  rw [h2] at HB2
  have HJ := Lib.hid (show jn (n + 1) a b = none by rw [jn, if_neg (by rw [h1]; simp), if_neg (by rw [h2]; simp), if_neg h3, if_pos hk])
  have q0 : (a.k == b.k) = false := by simp [hk]
  have q1 : (!a.k == b.k) = true := by rw [q0]; rfl
  have H3 := Lib.hid h3
  unfold tv at *
  clear ha hb ma mb hU h1 h2 h3 hk
  go_enter Try.func21, Try.ntmps21
  go_upto_region 1 with fail
  rw [← HU.out]
  obtain ⟨⟨f0, f1, f2, f3⟩, i0, i1, i2, i3⟩ := FU.out U (Low.refl U)
  go_wp2_with fail
  refine HB1.out.mono ?_
  rintro e w1 ⟨rfl, l1⟩
  have L1 := Lib.hid l1
  clear l1 HB1
  clear f0 f1 f2 f3 i0 i1 i2 i3
  obtain ⟨⟨f0, f1, f2, f3⟩, i0, i1, i2, i3⟩ := FU.out w1 L1.out
  have HB3 := Lib.hid (HB2.out w1 L1.out)
  go_wp2_with fail
  refine HB3.out.mono ?_
  rintro e w2 ⟨rfl, l2⟩
  have L2 := Lib.hid (L1.out.trans l2)
  clear l2 HB3 HB2
  clear f0 f1 f2 f3 i0 i1 i2 i3
  obtain ⟨⟨f0, f1, f2, f3⟩, i0, i1, i2, i3⟩ := FU.out w2 L2.out
  by_cases c1 : (1 : Int) ≤ a.k
  rotate_left
  ·
    obtain ⟨g0, g1, g2, g3⟩ := (ZU.out.low L2.out).at4
    obtain ⟨o0, o1, o2, o3⟩ := (ZU.out.low L2.out).op4
    go_wp2_with fail
    refine bodyPost_ret (v := .tuple #[.agg #[.int .i64 0, .string ⟨#[]⟩, .slice none 0 0, .slice none 0 0], .int .i64 30]) (by simp [results, Try.results21, go_sem, World.cell?_setCell_same', g0, g1, g2, g3]; try rfl) rfl ?_
    have K8 := kept4 w2 (w.heap.size + 2) 0 1 2 3 (.int .i64 0) (.string ⟨#[]⟩) (.slice none 0 0) (.slice none 0 0)
    refine ⟨noT, none, 0, none, 0, 30, rfl, ?_, rt_kind _ _ _ _, low_all (LU.out.trans L2.out) (by omega) K8⟩
    rw [HJ.out]; exact ⟨rfl, rfl⟩
  by_cases c2 : a.k ≤ (3 : Int)
  rotate_left
  ·
    obtain ⟨g0, g1, g2, g3⟩ := (ZU.out.low L2.out).at4
    obtain ⟨o0, o1, o2, o3⟩ := (ZU.out.low L2.out).op4
    go_wp2_with fail
    refine bodyPost_ret (v := .tuple #[.agg #[.int .i64 0, .string ⟨#[]⟩, .slice none 0 0, .slice none 0 0], .int .i64 30]) (by simp [results, Try.results21, go_sem, World.cell?_setCell_same', g0, g1, g2, g3]; try rfl) rfl ?_
    have K8 := kept4 w2 (w.heap.size + 2) 0 1 2 3 (.int .i64 0) (.string ⟨#[]⟩) (.slice none 0 0) (.slice none 0 0)
    refine ⟨noT, none, 0, none, 0, 30, rfl, ?_, rt_kind _ _ _ _, low_all (LU.out.trans L2.out) (by omega) K8⟩
    rw [HJ.out]; exact ⟨rfl, rfl⟩
  by_cases c3 : (1 : Int) ≤ b.k
  rotate_left
  ·
    obtain ⟨g0, g1, g2, g3⟩ := (ZU.out.low L2.out).at4
    obtain ⟨o0, o1, o2, o3⟩ := (ZU.out.low L2.out).op4
    go_wp2_with fail
    refine bodyPost_ret (v := .tuple #[.agg #[.int .i64 0, .string ⟨#[]⟩, .slice none 0 0, .slice none 0 0], .int .i64 30]) (by simp [results, Try.results21, go_sem, World.cell?_setCell_same', g0, g1, g2, g3]; try rfl) rfl ?_
    have K8 := kept4 w2 (w.heap.size + 2) 0 1 2 3 (.int .i64 0) (.string ⟨#[]⟩) (.slice none 0 0) (.slice none 0 0)
    refine ⟨noT, none, 0, none, 0, 30, rfl, ?_, rt_kind _ _ _ _, low_all (LU.out.trans L2.out) (by omega) K8⟩
    rw [HJ.out]; exact ⟨rfl, rfl⟩
  by_cases c4 : b.k ≤ (3 : Int)
  · exact absurd (show trB a = true ∧ trB b = true by unfold trB; simp; omega) H3.out
  obtain ⟨g0, g1, g2, g3⟩ := (ZU.out.low L2.out).at4
  obtain ⟨o0, o1, o2, o3⟩ := (ZU.out.low L2.out).op4
  go_wp2_with fail
  refine bodyPost_ret (v := .tuple #[.agg #[.int .i64 0, .string ⟨#[]⟩, .slice none 0 0, .slice none 0 0], .int .i64 30]) (by simp [results, Try.results21, go_sem, World.cell?_setCell_same', g0, g1, g2, g3]; try rfl) rfl ?_
  have K8 := kept4 w2 (w.heap.size + 2) 0 1 2 3 (.int .i64 0) (.string ⟨#[]⟩) (.slice none 0 0) (.slice none 0 0)
  refine ⟨noT, none, 0, none, 0, 30, rfl, ?_, rt_kind _ _ _ _, low_all (LU.out.trans L2.out) (by omega) K8⟩
  rw [HJ.out]; exact ⟨rfl, rfl⟩
set_option maxHeartbeats 3200000 in
set_option maxRecDepth 100000 in
theorem rjoinX_c {A : Nat → Prop} {n : Nat} (a b : T) (w : World) (e v e' v' : Value) (ha : RT A w (n + 1) a e v) (hb : RT A w (n + 1) b e' v') (ma : mayB (n + 1) a = true) (mb : mayB (n + 1) b = true) (h1 : belB (n + 1) a b = false) (h2 : belB (n + 1) b a = false) (h3 : trB a = false) (hk : a.k = b.k) (h7 : a.k ≠ 7) (h8 : a.k ≠ 8) : Calls Try.prog 21 #[tv a e v, tv b e' v'] w (JoinP A (n + 1) (jn (n + 1) a b) w) := by
  obtain ⟨pe, ce, pv, cv, rfl, rfl, z1, z2, z3, z4⟩ := ha.sl
  obtain ⟨pe', ce', pv', cv', rfl, rfl, z1', z2', z3', z4'⟩ := hb.sl
  obtain ⟨U, hU⟩ : ∃ U, U = ((w.alloc (.cells #[.int .i64 a.k, .string a.n, .slice pe a.l.length ce, .slice pv a.ats.length cv] 25)).alloc (.cells #[.int .i64 b.k, .string b.n, .slice pe' b.l.length ce', .slice pv' b.ats.length cv'] 25)).alloc (.cells #[.int .i64 0, .string ⟨#[]⟩, .slice none 0 0, .slice none 0 0] 25) := ⟨_, rfl⟩
  have LU := Lib.hid (show Low w U by rw [hU]; exact low_new (low_new (low_new (Low.refl w) _) _) _)
  have FU := Lib.hid (fun W (h : Low U W) => low_box2 (w := w) (wr := W) ((show Low ((w.alloc (.cells #[.int .i64 a.k, .string a.n, .slice pe a.l.length ce, .slice pv a.ats.length cv] 25)).alloc (.cells #[.int .i64 b.k, .string b.n, .slice pe' b.l.length ce', .slice pv' b.ats.length cv'] 25)) U by rw [hU]; exact low_new (Low.refl _) _).trans h))
  have ZU := Lib.hid (show BoxAt U (w.heap.size + 2) [.int .i64 0, .string ⟨#[]⟩, .slice none 0 0, .slice none 0 0] from BoxAt.made hU (by simp) rfl)
  have HZS := Lib.hid (show U.heap.size = w.heap.size + 3 by rw [hU]; simp)
  have HU := Lib.hid hU
  have HB1 := Lib.hid (rBelow_c (n + 1) A A a b U _ _ _ _ (ha.low LU.out) (hb.low LU.out) ma mb)
  have HB2 := Lib.hid fun W (l : Low U W) => rBelow_c (n + 1) A A b a W _ _ _ _ (hb.low (LU.out.trans l)) (ha.low (LU.out.trans l)) mb ma
  rw [h1] at HB1
  rw [h2] at HB2
  have q0 : (a.k == b.k) = true := by simp [hk]
  have q1 : (!a.k == b.k) = false := by rw [q0]; rfl
  obtain ⟨-, -, hla⟩ := rt_succ.1 ha
  obtain ⟨-, -, hlb⟩ := rt_succ.1 hb
  have HNM := Lib.hid fun W (l : Low U W) => rNames_c a.ats b.ats W _ _ (hla.low (LU.out.trans l)) (hlb.low (LU.out.trans l))
  have HJ := Lib.hid (show jn (n + 1) a b = none by rw [jn, if_neg (by rw [h1]; simp), if_neg (by rw [h2]; simp), if_neg (by rw [h3]; simp), if_neg (by simpa using hk), if_neg h7, if_neg h8])
  have b7 := beq_f h7
  have b8 := beq_f h8
  have H8 := Lib.hid h8
  obtain ⟨nm, hnm⟩ : ∃ x, x = namesB a.ats b.ats := ⟨_, rfl⟩
  rw [← hnm] at HNM
  have H3 := Lib.hid (show ¬ (1 ≤ a.k ∧ a.k ≤ 3) by unfold trB at h3; simp at h3; omega)
  unfold tv at *
  clear ha hb ma mb hU h1 h2 h3 h7 h8 hk hnm hla hlb
  go_enter Try.func21, Try.ntmps21
  go_upto_region 1 with fail
  rw [← HU.out]
  obtain ⟨⟨f0, f1, f2, f3⟩, i0, i1, i2, i3⟩ := FU.out U (Low.refl U)
  go_wp2_with fail
  refine HB1.out.mono ?_
  rintro e w1 ⟨rfl, l1⟩
  have L1 := Lib.hid l1
  clear l1 HB1
  clear f0 f1 f2 f3 i0 i1 i2 i3
  obtain ⟨⟨f0, f1, f2, f3⟩, i0, i1, i2, i3⟩ := FU.out w1 L1.out
  have HB3 := Lib.hid (HB2.out w1 L1.out)
  go_wp2_with fail
  refine HB3.out.mono ?_
  rintro e w2 ⟨rfl, l2⟩
  have L2 := Lib.hid (L1.out.trans l2)
  clear l2 HB3 HB2
  clear f0 f1 f2 f3 i0 i1 i2 i3
  obtain ⟨⟨f0, f1, f2, f3⟩, i0, i1, i2, i3⟩ := FU.out w2 L2.out
  by_cases c1 : (1 : Int) ≤ a.k
  rotate_left
  ·
    have HN := Lib.hid (HNM.out w2 L2.out)
    go_wp2_with fail
    refine HN.out.mono ?_
    rintro e w3 ⟨rfl, l3⟩
    have L3 := Lib.hid (L2.out.trans l3)
    clear l3 HN HNM
    clear f0 f1 f2 f3 i0 i1 i2 i3
    obtain ⟨⟨f0, f1, f2, f3⟩, i0, i1, i2, i3⟩ := FU.out w3 L3.out
    obtain ⟨g0, g1, g2, g3⟩ := (ZU.out.low L3.out).at4
    obtain ⟨o0, o1, o2, o3⟩ := (ZU.out.low L3.out).op4
    go_wp2_with fail
    all_goals (try (exfalso; first | (exact H8.out (by assumption)) | (exact absurd H8.out (by assumption))))
    refine bodyPost_ret (v := .tuple #[.agg #[.int .i64 0, .string ⟨#[]⟩, .slice none 0 0, .slice none 0 0], .int .i64 30]) (by simp [results, Try.results21, go_sem, World.cell?_setCell_same', g0, g1, g2, g3]; try rfl) rfl ?_
    have K8 := kept4 w3 (w.heap.size + 2) 0 1 2 3 (.int .i64 0) (.string ⟨#[]⟩) (.slice none 0 0) (.slice none 0 0)
    refine ⟨noT, none, 0, none, 0, 30, rfl, ?_, rt_kind _ _ _ _, low_all (LU.out.trans L3.out) (by omega) K8⟩
    rw [HJ.out]; exact ⟨rfl, rfl⟩
  have c2 : ¬ a.k ≤ (3 : Int) := fun h => H3.out ⟨c1, h⟩
  have HN := Lib.hid (HNM.out w2 L2.out)
  go_wp2_with fail
  refine HN.out.mono ?_
  rintro e w3 ⟨rfl, l3⟩
  have L3 := Lib.hid (L2.out.trans l3)
  clear l3 HN HNM
  clear f0 f1 f2 f3 i0 i1 i2 i3
  obtain ⟨⟨f0, f1, f2, f3⟩, i0, i1, i2, i3⟩ := FU.out w3 L3.out
  obtain ⟨g0, g1, g2, g3⟩ := (ZU.out.low L3.out).at4
  obtain ⟨o0, o1, o2, o3⟩ := (ZU.out.low L3.out).op4
  go_wp2_with fail
  all_goals (try (exfalso; first | (exact H8.out (by assumption)) | (exact absurd H8.out (by assumption))))
  refine bodyPost_ret (v := .tuple #[.agg #[.int .i64 0, .string ⟨#[]⟩, .slice none 0 0, .slice none 0 0], .int .i64 30]) (by simp [results, Try.results21, go_sem, World.cell?_setCell_same', g0, g1, g2, g3]; try rfl) rfl ?_
  have K8 := kept4 w3 (w.heap.size + 2) 0 1 2 3 (.int .i64 0) (.string ⟨#[]⟩) (.slice none 0 0) (.slice none 0 0)
  refine ⟨noT, none, 0, none, 0, 30, rfl, ?_, rt_kind _ _ _ _, low_all (LU.out.trans L3.out) (by omega) K8⟩
  rw [HJ.out]; exact ⟨rfl, rfl⟩
set_option maxHeartbeats 3200000 in
set_option maxRecDepth 100000 in
theorem rjoinN_c {A : Nat → Prop} {n : Nat} (a b : T) (w : World) (e v e' v' : Value) (ha : RT A w (n + 1) a e v) (hb : RT A w (n + 1) b e' v') (ma : mayB (n + 1) a = true) (mb : mayB (n + 1) b = true) (h1 : belB (n + 1) a b = false) (h2 : belB (n + 1) b a = false) (h3 : trB a = false) (hk : a.k = b.k) (h8 : a.k = 8) (hnm : namesB a.ats b.ats = false) : Calls Try.prog 21 #[tv a e v, tv b e' v'] w (JoinP A (n + 1) (jn (n + 1) a b) w) := by
  obtain ⟨pe, ce, pv, cv, rfl, rfl, z1, z2, z3, z4⟩ := ha.sl
  obtain ⟨pe', ce', pv', cv', rfl, rfl, z1', z2', z3', z4'⟩ := hb.sl
  obtain ⟨U, hU⟩ : ∃ U, U = ((w.alloc (.cells #[.int .i64 a.k, .string a.n, .slice pe a.l.length ce, .slice pv a.ats.length cv] 25)).alloc (.cells #[.int .i64 b.k, .string b.n, .slice pe' b.l.length ce', .slice pv' b.ats.length cv'] 25)).alloc (.cells #[.int .i64 0, .string ⟨#[]⟩, .slice none 0 0, .slice none 0 0] 25) := ⟨_, rfl⟩
  have LU := Lib.hid (show Low w U by rw [hU]; exact low_new (low_new (low_new (Low.refl w) _) _) _)
  have FU := Lib.hid (fun W (h : Low U W) => low_box2 (w := w) (wr := W) ((show Low ((w.alloc (.cells #[.int .i64 a.k, .string a.n, .slice pe a.l.length ce, .slice pv a.ats.length cv] 25)).alloc (.cells #[.int .i64 b.k, .string b.n, .slice pe' b.l.length ce', .slice pv' b.ats.length cv'] 25)) U by rw [hU]; exact low_new (Low.refl _) _).trans h))
  have ZU := Lib.hid (show BoxAt U (w.heap.size + 2) [.int .i64 0, .string ⟨#[]⟩, .slice none 0 0, .slice none 0 0] from BoxAt.made hU (by simp) rfl)
  have HZS := Lib.hid (show U.heap.size = w.heap.size + 3 by rw [hU]; simp)
  have HU := Lib.hid hU
  have HB1 := Lib.hid (rBelow_c (n + 1) A A a b U _ _ _ _ (ha.low LU.out) (hb.low LU.out) ma mb)
  have HB2 := Lib.hid fun W (l : Low U W) => rBelow_c (n + 1) A A b a W _ _ _ _ (hb.low (LU.out.trans l)) (ha.low (LU.out.trans l)) mb ma
  rw [h1] at HB1
  rw [h2] at HB2
  have q0 : (a.k == b.k) = true := by simp [hk]
  have q1 : (!a.k == b.k) = false := by rw [q0]; rfl
  obtain ⟨-, -, hla⟩ := rt_succ.1 ha
  obtain ⟨-, -, hlb⟩ := rt_succ.1 hb
  have HNM := Lib.hid fun W (l : Low U W) => rNames_c a.ats b.ats W _ _ (hla.low (LU.out.trans l)) (hlb.low (LU.out.trans l))
  have HJ := Lib.hid (show jn (n + 1) a b = none by rw [jn, if_neg (by rw [h1]; simp), if_neg (by rw [h2]; simp), if_neg (by rw [h3]; simp), if_neg (by simpa using hk), if_neg (by omega), if_pos h8, names_no hnm]; rfl)
  have q7 : (a.k == 7) = false := by simp [h8]
  have H8 := Lib.hid h8
  have q8 : (a.k == 8) = true := by simp [h8]
  have q9 : (!a.k == 8) = false := by rw [q8]; rfl
  have c1 : (1 : Int) ≤ a.k := by omega
  have c2 : ¬ a.k ≤ (3 : Int) := by omega
  rw [hnm] at HNM
  unfold tv at *
  clear ha hb ma mb hU h1 h2 h3 h8 hk hnm hla hlb
  go_enter Try.func21, Try.ntmps21
  go_upto_region 1 with fail
  rw [← HU.out]
  obtain ⟨⟨f0, f1, f2, f3⟩, i0, i1, i2, i3⟩ := FU.out U (Low.refl U)
  go_wp2_with fail
  refine HB1.out.mono ?_
  rintro e w1 ⟨rfl, l1⟩
  have L1 := Lib.hid l1
  clear l1 HB1
  clear f0 f1 f2 f3 i0 i1 i2 i3
  obtain ⟨⟨f0, f1, f2, f3⟩, i0, i1, i2, i3⟩ := FU.out w1 L1.out
  have HB3 := Lib.hid (HB2.out w1 L1.out)
  go_wp2_with fail
  refine HB3.out.mono ?_
  rintro e w2 ⟨rfl, l2⟩
  have L2 := Lib.hid (L1.out.trans l2)
  clear l2 HB3 HB2
  clear f0 f1 f2 f3 i0 i1 i2 i3
  obtain ⟨⟨f0, f1, f2, f3⟩, i0, i1, i2, i3⟩ := FU.out w2 L2.out
  have HN := Lib.hid (HNM.out w2 L2.out)
  go_wp2_with fail
  refine HN.out.mono ?_
  rintro e w3 ⟨rfl, l3⟩
  have L3 := Lib.hid (L2.out.trans l3)
  clear l3 HN HNM
  clear f0 f1 f2 f3 i0 i1 i2 i3
  obtain ⟨⟨f0, f1, f2, f3⟩, i0, i1, i2, i3⟩ := FU.out w3 L3.out
  obtain ⟨g0, g1, g2, g3⟩ := (ZU.out.low L3.out).at4
  obtain ⟨o0, o1, o2, o3⟩ := (ZU.out.low L3.out).op4
  go_wp2_with fail
  all_goals (try (exfalso; first | (exact H8.out (by assumption)) | (exact absurd H8.out (by assumption))))
  refine bodyPost_ret (v := .tuple #[.agg #[.int .i64 0, .string ⟨#[]⟩, .slice none 0 0, .slice none 0 0], .int .i64 30]) (by simp [results, Try.results21, go_sem, World.cell?_setCell_same', g0, g1, g2, g3]; try rfl) rfl ?_
  have K8 := kept4 w3 (w.heap.size + 2) 0 1 2 3 (.int .i64 0) (.string ⟨#[]⟩) (.slice none 0 0) (.slice none 0 0)
  refine ⟨noT, none, 0, none, 0, 30, rfl, ?_, rt_kind _ _ _ _, low_all (LU.out.trans L3.out) (by omega) K8⟩
  rw [HJ.out]; exact ⟨rfl, rfl⟩
end Go.Proofs.Ytjipncpgmajeeaa
