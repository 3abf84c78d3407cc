/- The program's Below and Same, of small types. Condition: types that may be, no deeper than a hundred. -/
import Derived.Test.YtjipncpgmajeeaaTyI
namespace Go.Proofs.Ytjipncpgmajeeaa
open Go.RowKit
set_option maxHeartbeats 1600000 in
theorem shallow_c {A A' : Nat → Prop} {n : Nat} (a b : T) (w : World) (e v e' v' : Value) (hn : n ≤ 100) (ha : RT A w n a e v) (hb : RT A' w n b e' v') (sa : Sm n a) (sb : Sm n b) : Calls Try.prog 28 #[tv a e v, tv b e' v'] w fun e w' => e = .returned (.bool true) ∧ Low w w' := by
  obtain ⟨pe, ce, pv, cv, rfl, rfl, z1, z2, z3, z4⟩ := ha.sl
  obtain ⟨pe', ce', pv', cv', rfl, rfl, z1', z2', z3', z4'⟩ := hb.sl
  obtain ⟨U, hU⟩ : ∃ U, U = (w.alloc (.cells #[.int .i64 a.k, .string a.n, .slice pe a.l.length ce, .slice pv a.ats.length cv] 25)).alloc (.cells #[.int .i64 b.k, .string b.n, .slice pe' b.l.length ce', .slice pv' b.ats.length cv'] 25) := ⟨_, rfl⟩
  have LU := Lib.hid (show Low w U by rw [hU]; exact low_new (low_new (Low.refl w) _) _)
  have FU := Lib.hid (fun W (h : Low U W) => low_box2 (w := w) (wr := W) (hU ▸ h))
  have HD1 := deep_c n A a 100 U _ _ (by omega) sa (ha.low LU.out)
  have HD2 := Lib.hid fun W (l : Low U W) => deep_c n A' b 100 W _ _ (by omega) sb (hb.low (LU.out.trans l))
  rw [dG_no sa.dp hn] at HD1
  rw [dG_no sb.dp hn] at HD2
  have HU := Lib.hid hU
  unfold tv at *
  have HD1 := Lib.hid HD1
  clear ha hb sa sb hU
  go_enter Try.func28, Try.ntmps28
  go_upto_region 1 with fail
  rw [← HU.out]
  obtain ⟨⟨f0, f1, f2, f3⟩, i0, i1, i2, i3⟩ := FU.out U (Low.refl U)
  go_wp2_with fail
  refine HD1.out.mono ?_
  rintro e w1 ⟨rfl, l1⟩
  have L1 := Lib.hid (LU.out.trans l1)
  have HD3 := Lib.hid (HD2.out w1 l1)
  clear f0 f1 f2 f3 i0 i1 i2 i3
  obtain ⟨⟨f0, f1, f2, f3⟩, i0, i1, i2, i3⟩ := FU.out w1 l1
  clear l1 HD1 HD2
  go_wp2_with fail
  refine HD3.out.mono ?_
  rintro e w2 ⟨rfl, l2⟩
  have L2 := Lib.hid (L1.out.trans l2)
  clear l2 HD3 f0 f1 f2 f3 i0 i1 i2 i3
  go_wp2_with fail
  go_ret
  exact ⟨rfl, L2.out⟩
set_option maxHeartbeats 1600000 in
theorem Below_c {A A' : Nat → Prop} {n : Nat} (a b : T) (w : World) (e v e' v' : Value) (hn : n ≤ 100) (ha : RT A w n a e v) (hb : RT A' w n b e' v') (sa : Sm n a) (sb : Sm n b) (ma : mayB n a = true) (mb : mayB n b = true) : Calls Try.prog 16 #[tv a e v, tv b e' v'] w fun e w' => e = .returned (.bool (belB n a b)) ∧ Low w w' := by
  obtain ⟨pe, ce, pv, cv, rfl, rfl, z1, z2, z3, z4⟩ := ha.sl
  obtain ⟨pe', ce', pv', cv', rfl, rfl, z1', z2', z3', z4'⟩ := hb.sl
  obtain ⟨U, hU⟩ : ∃ U, U = (w.alloc (.cells #[.int .i64 a.k, .string a.n, .slice pe a.l.length ce, .slice pv a.ats.length cv] 25)).alloc (.cells #[.int .i64 b.k, .string b.n, .slice pe' b.l.length ce', .slice pv' b.ats.length cv'] 25) := ⟨_, rfl⟩
  have LU := Lib.hid (show Low w U by rw [hU]; exact low_new (low_new (Low.refl w) _) _)
  have FU := Lib.hid (fun W (h : Low U W) => low_box2 (w := w) (wr := W) (hU ▸ h))
  have HD1 := Lib.hid (shallow_c a b U _ _ _ _ hn (ha.low LU.out) (hb.low LU.out) sa sb)
  have HD2 := Lib.hid fun W (l : Low U W) => below_n n A A' a b W _ _ _ _ (ha.low (LU.out.trans l)) (hb.low (LU.out.trans l)) ma mb
  have HU := Lib.hid hU
  unfold tv at *
  clear ha hb sa sb ma mb hU
  go_enter Try.func16, Try.ntmps16
  go_upto_region 1 with fail
  rw [← HU.out]
  obtain ⟨⟨f0, f1, f2, f3⟩, i0, i1, i2, i3⟩ := FU.out U (Low.refl U)
  go_wp2_with fail
  refine HD1.out.mono ?_
  rintro e w1 ⟨rfl, l1⟩
  have L1 := Lib.hid (LU.out.trans l1)
  have HD3 := Lib.hid (HD2.out w1 l1)
  clear f0 f1 f2 f3 i0 i1 i2 i3
  obtain ⟨⟨f0, f1, f2, f3⟩, i0, i1, i2, i3⟩ := FU.out w1 l1
  clear l1 HD1 HD2
  go_wp2_with fail
  refine HD3.out.mono ?_
  rintro e w2 ⟨rfl, l2⟩
  have L2 := Lib.hid (L1.out.trans l2)
  clear l2 HD3 f0 f1 f2 f3 i0 i1 i2 i3
  go_wp2_with fail
  go_ret
  exact ⟨rfl, L2.out⟩
set_option maxHeartbeats 1600000 in
theorem Same_c {A A' : Nat → Prop} {n : Nat} (a b : T) (w : World) (e v e' v' : Value) (hn : n ≤ 100) (ha : RT A w n a e v) (hb : RT A' w n b e' v') (sa : Sm n a) (sb : Sm n b) (ma : mayB n a = true) (mb : mayB n b = true) : Calls Try.prog 18 #[tv a e v, tv b e' v'] w fun e w' => e = .returned (.bool (smB n a b)) ∧ Low w w' := by
  obtain ⟨pe, ce, pv, cv, rfl, rfl, z1, z2, z3, z4⟩ := ha.sl
  obtain ⟨pe', ce', pv', cv', rfl, rfl, z1', z2', z3', z4'⟩ := hb.sl
  obtain ⟨U, hU⟩ : ∃ U, U = (w.alloc (.cells #[.int .i64 a.k, .string a.n, .slice pe a.l.length ce, .slice pv a.ats.length cv] 25)).alloc (.cells #[.int .i64 b.k, .string b.n, .slice pe' b.l.length ce', .slice pv' b.ats.length cv'] 25) := ⟨_, rfl⟩
  have LU := Lib.hid (show Low w U by rw [hU]; exact low_new (low_new (Low.refl w) _) _)
  have FU := Lib.hid (fun W (h : Low U W) => low_box2 (w := w) (wr := W) (hU ▸ h))
  have HD1 := Lib.hid (shallow_c a b U _ _ _ _ hn (ha.low LU.out) (hb.low LU.out) sa sb)
  have HD2 := Lib.hid fun W (l : Low U W) => same_n n A A' a b W _ _ _ _ (ha.low (LU.out.trans l)) (hb.low (LU.out.trans l)) ma mb
  have HU := Lib.hid hU
  unfold tv at *
  clear ha hb sa sb ma mb hU
  go_enter Try.func18, Try.ntmps18
  go_upto_region 1 with fail
  rw [← HU.out]
  obtain ⟨⟨f0, f1, f2, f3⟩, i0, i1, i2, i3⟩ := FU.out U (Low.refl U)
  go_wp2_with fail
  refine HD1.out.mono ?_
  rintro e w1 ⟨rfl, l1⟩
  have L1 := Lib.hid (LU.out.trans l1)
  have HD3 := Lib.hid (HD2.out w1 l1)
  clear f0 f1 f2 f3 i0 i1 i2 i3
  obtain ⟨⟨f0, f1, f2, f3⟩, i0, i1, i2, i3⟩ := FU.out w1 l1
  clear l1 HD1 HD2
  go_wp2_with fail
  refine HD3.out.mono ?_
  rintro e w2 ⟨rfl, l2⟩
  have L2 := Lib.hid (L1.out.trans l2)
  clear l2 HD3 f0 f1 f2 f3 i0 i1 i2 i3
  go_wp2_with fail
  go_ret
  exact ⟨rfl, L2.out⟩
end Go.Proofs.Ytjipncpgmajeeaa
