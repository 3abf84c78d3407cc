/- Law ExprDepths. Condition: the table of marks is as it was laid. -/
import Derived.Test.YtflpidnkppljlaaDoorExX
import Derived.Test.YtflpidnkppljlaaDoorExpA5
import Derived.Test.YtflpidnkppljlaaDoorExA
import Derived.Deep.RegionLaw
set_option linter.unusedVariables false
set_option linter.unnecessarySimpa false
set_option linter.unusedSimpArgs false
namespace Go.Proofs.YtflpidnkppljlaaDoor
open Go.RowKit
set_option maxHeartbeats 3200000 in
theorem exprDepths_walk (x : Ro) (h : Hx) (ka : Option Addr) (n kc : Nat) (w : World) (hk : KAt w x ka n kc) (hm : MkAt w) :
    Calls Tryd.prog 3 #[.agg #[.int .i64 h.op, .int .i64 h.k, .bool h.b, .int .i64 h.n, .string h.s, .string h.t, .string h.i, .slice h.ia h.il h.ic, .slice h.ma h.ml h.mc, .string h.nm, .slice ka n kc, .slice h.na h.nl h.nc]] w fun e w' => e = .returned (.bool true) ∧ Low w w' := by
  have HK := Lib.hid hk
  have HM := Lib.hid hm
  have LB := Lib.hid (low_new (Low.refl w) (.cells #[.int .i64 h.op, .int .i64 h.k, .bool h.b, .int .i64 h.n, .string h.s, .string h.t, .string h.i, .slice h.ia h.il h.ic, .slice h.ma h.ml h.mc, .string h.nm, .slice ka n kc, .slice h.na h.nl h.nc] 30))
  have GB := Lib.hid (boxL12 (Low.refl (w.alloc (.cells #[.int .i64 h.op, .int .i64 h.k, .bool h.b, .int .i64 h.n, .string h.s, .string h.t, .string h.i, .slice h.ia h.il h.ic, .slice h.ma h.ml h.mc, .string h.nm, .slice ka n kc, .slice h.na h.nl h.nc] 30))))
  clear hk hm
  go_enter Tryd.func3, Tryd.ntmps3
  go_wp2_with fail
  refine (awake8_c _ (HM.out.low LB.out)).mono ?_
  rintro e w1 ⟨rfl, l1⟩
  have L1 := Lib.hid (LB.out.trans l1)
  have G1 := Lib.hid (boxL12 l1)
  clear l1
  obtain ⟨⟨c0, c1, c2, c3, c4, c5, c6, c7, c8, c9, c10, c11⟩, -⟩ := G1.out
  go_wp2_with fail
  refine (few_n8 61 0 (by decide) (by decide) x w1 h ka n kc (KAt.low L1.out _ HK.out)).mono ?_
  rintro e w2 ⟨b, rfl, hb, l2⟩
  have L2 := Lib.hid (L1.out.trans l2)
  replace c0 := l2.keep c0
  replace c1 := l2.keep c1
  replace c2 := l2.keep c2
  replace c3 := l2.keep c3
  replace c4 := l2.keep c4
  replace c5 := l2.keep c5
  replace c6 := l2.keep c6
  replace c7 := l2.keep c7
  replace c8 := l2.keep c8
  replace c9 := l2.keep c9
  replace c10 := l2.keep c10
  replace c11 := l2.keep c11
  clear l2 G1 GB
  cases b with
  | false =>
    clear hb
    go_wp2_with fail
    go_ret
    exact ⟨rfl, L2.out⟩
  | true =>
    have HD := Lib.hid (show rdep x ≤ 1000000 by have := hb rfl; omega)
    clear hb
    go_wp2_with fail
    refine (size_c8 x HD.out w2 h ka n kc (KAt.low L2.out _ HK.out)).mono ?_
    rintro e w3 ⟨v, rfl, hv0, hv1, l3⟩
    have L3 := Lib.hid (L2.out.trans l3)
    replace c0 := l3.keep c0
    replace c1 := l3.keep c1
    replace c2 := l3.keep c2
    replace c3 := l3.keep c3
    replace c4 := l3.keep c4
    replace c5 := l3.keep c5
    replace c6 := l3.keep c6
    replace c7 := l3.keep c7
    replace c8 := l3.keep c8
    replace c9 := l3.keep c9
    replace c10 := l3.keep c10
    replace c11 := l3.keep c11
    clear l3 hv0 hv1
    by_cases h5 : (500 : Int) < v
    · go_wp2_with fail
      go_ret
      exact ⟨rfl, L3.out⟩
    · go_wp2_with fail
      have HA := Lib.hid fun W (l : Low w3 W) => depth_c8 x HD.out W h ka n kc (KAt.low (L3.out.trans l) _ HK.out)
      have HB := Lib.hid fun W (l : Low w3 W) => rdepth_c8 x HD.out W h ka n kc (KAt.low (L3.out.trans l) _ HK.out)
      go_region_law (first
       | (go_simp; go_at_call 7; (refine (HA.out _ ?hL).mono ?_); (case hL => first | exact LA.out | exact Low.of_drew ⟨1, rfl⟩); rintro e wx ⟨rfl, lx⟩; (first | (have LZ := Lib.hid (LA.out.trans lx); clear lx) | (have LA := Lib.hid ((Low.of_drew ⟨1, rfl⟩).trans lx); clear lx; replace c0 := LA.out.keep c0; replace c1 := LA.out.keep c1; replace c2 := LA.out.keep c2; replace c3 := LA.out.keep c3; replace c4 := LA.out.keep c4; replace c5 := LA.out.keep c5; replace c6 := LA.out.keep c6; replace c7 := LA.out.keep c7; replace c8 := LA.out.keep c8; replace c9 := LA.out.keep c9; replace c10 := LA.out.keep c10; replace c11 := LA.out.keep c11)))
       | (go_simp; go_at_call 8; (refine (HB.out _ ?hL).mono ?_); (case hL => first | exact LA.out | exact Low.of_drew ⟨1, rfl⟩); rintro e wx ⟨rfl, lx⟩; (first | (have LZ := Lib.hid (LA.out.trans lx); clear lx) | (have LA := Lib.hid ((Low.of_drew ⟨1, rfl⟩).trans lx); clear lx; replace c0 := LA.out.keep c0; replace c1 := LA.out.keep c1; replace c2 := LA.out.keep c2; replace c3 := LA.out.keep c3; replace c4 := LA.out.keep c4; replace c5 := LA.out.keep c5; replace c6 := LA.out.keep c6; replace c7 := LA.out.keep c7; replace c8 := LA.out.keep c8; replace c9 := LA.out.keep c9; replace c10 := LA.out.keep c10; replace c11 := LA.out.keep c11))))
      all_goals
        go_wp2_with fail
        go_ret
        exact ⟨rfl, L3.out.trans LZ.out⟩
end Go.Proofs.YtflpidnkppljlaaDoor
