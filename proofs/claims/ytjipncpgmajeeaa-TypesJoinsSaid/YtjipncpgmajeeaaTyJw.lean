/- The program's Join, over its join. Condition: types that may be, small. -/
import Derived.Test.YtjipncpgmajeeaaTyAt
namespace Go.Proofs.Ytjipncpgmajeeaa
open Go.RowKit
set_option maxHeartbeats 3200000 in
set_option maxRecDepth 100000 in
theorem joinW_c {A A' : Nat → Prop} {n : Nat} (o : Option T) (a b : T) (w : World) (e v e' v' : Value) (hn : n ≤ 100) (ha : RT A w n a e v) (hb : RT A' w n b e' v') (sa : Sm n a) (sb : Sm n b)
    (hj : ∀ W, Low w W → Calls Try.prog 32 #[tv a e v, tv b e' v'] W (JoinP (fun _ => False) n o W)) : Calls Try.prog 20 #[tv a e v, tv b e' v'] w (JoinP (fun _ => False) n o w) := by
  obtain ⟨pe, ce, pv, cv, rfl, rfl, z1, z2, z3, z4⟩ := ha.sl
  obtain ⟨pe', ce', pv', cv', rfl, rfl, z1', z2', z3', z4'⟩ := hb.sl
  obtain ⟨U, hU⟩ : ∃ U, U = ((w.alloc (.cells #[.int .i64 a.k, .string a.n, .slice pe a.l.length ce, .slice pv a.ats.length cv] 25)).alloc (.cells #[.int .i64 b.k, .string b.n, .slice pe' b.l.length ce', .slice pv' b.ats.length cv'] 25)).alloc (.cells #[.int .i64 0, .string ⟨#[]⟩, .slice none 0 0, .slice none 0 0] 25) := ⟨_, rfl⟩
  have LU := Lib.hid (show Low w U by rw [hU]; exact low_new (low_new (low_new (Low.refl w) _) _) _)
  have FU := Lib.hid (fun W (h : Low U W) => low_box2 (w := w) (wr := W) ((show Low ((w.alloc (.cells #[.int .i64 a.k, .string a.n, .slice pe a.l.length ce, .slice pv a.ats.length cv] 25)).alloc (.cells #[.int .i64 b.k, .string b.n, .slice pe' b.l.length ce', .slice pv' b.ats.length cv'] 25)) U by rw [hU]; exact low_new (Low.refl _) _).trans h))
  have ZU := Lib.hid (show BoxAt U (w.heap.size + 2) [.int .i64 0, .string ⟨#[]⟩, .slice none 0 0, .slice none 0 0] from BoxAt.made hU (by simp) rfl)
  have HZS := Lib.hid (show U.heap.size = w.heap.size + 3 by rw [hU]; simp)
  have HU := Lib.hid hU
  have HS := Lib.hid (shallow_c a b U _ _ _ _ hn (ha.low LU.out) (hb.low LU.out) sa sb)
  have HJ := Lib.hid hj
  unfold tv at *
  clear ha hb sa sb hU hj
  go_enter Try.func20, Try.ntmps20
  go_upto_region 1 with fail
  rw [← HU.out]
  obtain ⟨⟨f0, f1, f2, f3⟩, i0, i1, i2, i3⟩ := FU.out U (Low.refl U)
  go_wp2_with fail
  refine HS.out.mono ?_
  rintro e w1 ⟨rfl, l1⟩
  have L1 := Lib.hid l1
  clear l1 HS
  clear f0 f1 f2 f3 i0 i1 i2 i3
  obtain ⟨⟨f0, f1, f2, f3⟩, i0, i1, i2, i3⟩ := FU.out w1 L1.out
  have HJ1 := Lib.hid (HJ.out w1 (LU.out.trans L1.out))
  go_wp2_with fail
  refine HJ1.out.mono ?_
  rintro e w2 ⟨t, qe, de, qv, dv, er, rfl, hjr, hrt, l2⟩
  have L2 := Lib.hid (L1.out.trans l2)
  have HRT := Lib.hid hrt
  have HJR := Lib.hid hjr
  have HW1 := Lib.hid (show w.heap.size + 3 ≤ w1.heap.size by have := L1.out.size; have := HZS.out; omega)
  clear l2 hrt hjr HJ HJ1 f0 f1 f2 f3 i0 i1 i2 i3
  obtain ⟨g0, g1, g2, g3⟩ := (ZU.out.low L2.out).at4
  obtain ⟨o0, o1, o2, o3⟩ := (ZU.out.low L2.out).op4
  go_wp2_with fail
  refine bodyPost_ret (v := .tuple #[.agg #[.int .i64 t.k, .string t.n, .slice qe t.l.length de, .slice qv t.ats.length dv], .int .i64 er]) (by simp [results, Try.results20, go_sem, World.cell?_setCell_same', g0, g1, g2, g3]; try rfl) rfl ?_
  have K8 := kept4 w2 (w.heap.size + 2) 0 1 2 3 (.int .i64 t.k) (.string t.n) (.slice qe t.l.length de) (.slice qv t.ats.length dv)
  refine ⟨t, qe, de, qv, dv, er, rfl, HJR.out, ?_, low_all (LU.out.trans L2.out) (by omega) K8⟩
  refine RT.to (fun x hx hlt => ?_) HRT.out
  rcases hx with hx | hx
  · exact hx.elim
  · exact ⟨.inr (by have := HW1.out; omega), K8.2.2.2 x hlt (by have := HW1.out; simp; omega)⟩
end Go.Proofs.Ytjipncpgmajeeaa
