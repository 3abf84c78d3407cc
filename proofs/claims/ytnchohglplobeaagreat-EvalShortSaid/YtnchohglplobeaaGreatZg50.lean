/- EvalShort. No condition. EvalShort: behind a false, a true, a choice any expression may stand. No condition. -/
import Derived.Test.YtnchohglplobeaaGreatZg49
import Derived.ShutString
import Derived.ChangeOld
import Derived.Below
import Derived.WideKeyArgs
set_option linter.unusedVariables false
set_option linter.unusedSimpArgs false
set_option linter.unnecessarySimpa false
namespace Go.Proofs.YtnchohglplobeaaGreat
open Go.RowKit Go.Sort Go.Maps
set_option maxRecDepth 100000 in
set_option maxHeartbeats 4000000 in
theorem evalShort_v (n : Nat) (x : E) (ai : Option Addr) (ci : Nat) (an : Option Addr) (cn : Nat) (ak : Option Addr) (ck : Nat) (am : Option Addr) (cm : Nat) (op : Int) (w : World) (hr : RE n w x (p4 x ai ci an cn ak ck am cm)) (hg : RgE n x) : Calls Tryz.prog 6 #[ex12 x ai ci an cn ak ck am cm, .int .i64 op] w fun e w' => e = .returned (.bool true) ∧ Low w w' := by
 obtain ⟨k, hk, hk4⟩ := and3k op
 have HAW := Lib.hid (fun W => awake14_c W)
 have HNF := Lib.hid (show ∀ W, _ from fun W => lit_c (truV false) W none 0 none 0)
 have HNT := Lib.hid (show ∀ W, _ from fun W => lit_c (truV true) W none 0 none 0)
 simp only [truV, V.h, V.l, V.ns, hd0, List.length_nil] at HNF HNT
 have HFT := Lib.hid fun W (l : Low w W) => fit0_c n x ai ci an cn ak ck am cm W (hr.low l)
 have HR := Lib.hid fun W (l : Low w W) => hr.low l
 have HRG := Lib.hid hg
 clear hr hg
 obtain ⟨U, HU, LU, ZU, BX⟩ := boxes1 w [.int .i64 x.op, .int .i64 x.v.h.k, .bool x.v.h.b, .int .i64 x.v.h.n, .string x.v.h.s, .string x.v.h.t, .string x.v.h.i, .slice ai x.v.l.length ci, .slice an x.v.ns.length cn, .string x.nm, .slice ak x.ks.length ck, .slice am x.ns.length cm] 30
 go_enter Tryz.func6, Tryz.ntmps6
 go_upto_region 1 with fail
 rw [← HU.out]
 clear HU
 go_wp2_with fail
 refine (HAW.out _).mono ?_
 rintro e w0 ⟨rfl, l0⟩
 have L0 := Lib.hid (LU.out.trans l0)
 have BX0 := Lib.hid (BX.out.low l0)
 clear l0 HAW BX
 obtain ⟨x0, x1, x2, x3, x4, x5, x6, x7, x8, x9, x10, x11⟩ := BX0.out.at12
 go_wp2_with fail
 refine (HFT.out _ L0.out).mono ?_
 rintro e w1 ⟨bf, rfl, hb, l1⟩
 have L1 := Lib.hid (L0.out.trans l1)
 have BX1 := Lib.hid (BX0.out.low l1)
 have HB := Lib.hid hb
 clear l1 HFT BX0 hb x0 x1 x2 x3 x4 x5 x6 x7 x8 x9 x10 x11
 cases bf with
 | false =>
  go_wp2_with fail
  refine bodyPost_ret (v := .bool true) (by simp [results, Tryz.results6, go_sem]; try rfl) rfl ?_
  exact ⟨rfl, L1.out⟩
 | true =>
 obtain ⟨hs, hd61, hl⟩ := HB.out rfl
 have HO := Lib.hid (okE_of hs hl HRG.out)
 have HD61 := Lib.hid hd61
 clear HB hs hl HRG hd61
 go_upto_region 8 with (go_at_call 17; refine (HNF.out _).mono ?_; rintro e w7 ⟨rfl, l7⟩)
 have M7 := Lib.hid l7
 clear l7 HNF
 obtain ⟨B7, hB7⟩ : ∃ W, W = w7.alloc (.cells #[.int .i64 1, .int .i64 1, .bool false, .int .i64 0, .string ⟨#[]⟩, .string ⟨#[]⟩, .string ⟨#[]⟩, .slice none 0 0, .slice none 0 0, .string ⟨#[]⟩, .slice none 0 0, .slice none 0 0] 30) := ⟨_, rfl⟩
 have LB7 := Lib.hid (show Low w7 B7 by rw [hB7]; exact Low.alloc (Low.refl _) _)
 have XB7 := Lib.hid (show BoxAtv B7 w7.heap.size [.int .i64 1, .int .i64 1, .bool false, .int .i64 0, .string ⟨#[]⟩, .string ⟨#[]⟩, .string ⟨#[]⟩, .slice none 0 0, .slice none 0 0, .string ⟨#[]⟩, .slice none 0 0, .slice none 0 0] from BoxAtv.made hB7 rfl rfl)
 rw [← hB7]
 clear hB7
 have T7 := Lib.hid (M7.out.trans LB7.out)
 go_upto_region 9 with (go_at_call 17; refine (HNT.out _).mono ?_; rintro e w8 ⟨rfl, l8⟩)
 have M8 := Lib.hid l8
 clear l8 HNT
 obtain ⟨B8, hB8⟩ : ∃ W, W = w8.alloc (.cells #[.int .i64 1, .int .i64 1, .bool true, .int .i64 0, .string ⟨#[]⟩, .string ⟨#[]⟩, .string ⟨#[]⟩, .slice none 0 0, .slice none 0 0, .string ⟨#[]⟩, .slice none 0 0, .slice none 0 0] 30) := ⟨_, rfl⟩
 have LB8 := Lib.hid (show Low w8 B8 by rw [hB8]; exact Low.alloc (Low.refl _) _)
 have XB8 := Lib.hid (show BoxAtv B8 w8.heap.size [.int .i64 1, .int .i64 1, .bool true, .int .i64 0, .string ⟨#[]⟩, .string ⟨#[]⟩, .string ⟨#[]⟩, .slice none 0 0, .slice none 0 0, .string ⟨#[]⟩, .slice none 0 0, .slice none 0 0] from BoxAtv.made hB8 rfl rfl)
 rw [← hB8]
 clear hB8
 have T8 := Lib.hid (M8.out.trans LB8.out)
 have GX := Lib.hid (BX1.out.low (T7.out.trans T8.out))
 have GF := Lib.hid (XB7.out.low T8.out)
 have GT := Lib.hid XB8.out
 have LL := Lib.hid (L1.out.trans (T7.out.trans T8.out))
 clear BX1 XB7 XB8 T7 T8 M7 M8
 have v1 := GX.out.lt
 have v2 := GF.out.lt
 have v3 := GT.out.lt
 obtain ⟨x0, x1, x2, x3, x4, x5, x6, x7, x8, x9, x10, x11⟩ := GX.out.at12
 obtain ⟨y0, y1, y2, y3, y4, y5, y6, y7, y8, y9, y10, y11⟩ := GF.out.at12
 obtain ⟨z0, z1, z2, z3, z4, z5, z6, z7, z8, z9, z10, z11⟩ := GT.out.at12
 have xx0 := fun X Y Z => (GX.out.low (Low.alloc (Low.alloc (Low.alloc (Low.refl B8) X) Y) Z)).at 0 _ rfl
 have xx1 := fun X Y Z => (GX.out.low (Low.alloc (Low.alloc (Low.alloc (Low.refl B8) X) Y) Z)).at 1 _ rfl
 have xx2 := fun X Y Z => (GX.out.low (Low.alloc (Low.alloc (Low.alloc (Low.refl B8) X) Y) Z)).at 2 _ rfl
 have xx3 := fun X Y Z => (GX.out.low (Low.alloc (Low.alloc (Low.alloc (Low.refl B8) X) Y) Z)).at 3 _ rfl
 have xx4 := fun X Y Z => (GX.out.low (Low.alloc (Low.alloc (Low.alloc (Low.refl B8) X) Y) Z)).at 4 _ rfl
 have xx5 := fun X Y Z => (GX.out.low (Low.alloc (Low.alloc (Low.alloc (Low.refl B8) X) Y) Z)).at 5 _ rfl
 have xx6 := fun X Y Z => (GX.out.low (Low.alloc (Low.alloc (Low.alloc (Low.refl B8) X) Y) Z)).at 6 _ rfl
 have xx7 := fun X Y Z => (GX.out.low (Low.alloc (Low.alloc (Low.alloc (Low.refl B8) X) Y) Z)).at 7 _ rfl
 have xx8 := fun X Y Z => (GX.out.low (Low.alloc (Low.alloc (Low.alloc (Low.refl B8) X) Y) Z)).at 8 _ rfl
 have xx9 := fun X Y Z => (GX.out.low (Low.alloc (Low.alloc (Low.alloc (Low.refl B8) X) Y) Z)).at 9 _ rfl
 have xx10 := fun X Y Z => (GX.out.low (Low.alloc (Low.alloc (Low.alloc (Low.refl B8) X) Y) Z)).at 10 _ rfl
 have xx11 := fun X Y Z => (GX.out.low (Low.alloc (Low.alloc (Low.alloc (Low.refl B8) X) Y) Z)).at 11 _ rfl
 have yy0 := fun X Y Z => (GF.out.low (Low.alloc (Low.alloc (Low.alloc (Low.refl B8) X) Y) Z)).at 0 _ rfl
 have yy1 := fun X Y Z => (GF.out.low (Low.alloc (Low.alloc (Low.alloc (Low.refl B8) X) Y) Z)).at 1 _ rfl
 have yy2 := fun X Y Z => (GF.out.low (Low.alloc (Low.alloc (Low.alloc (Low.refl B8) X) Y) Z)).at 2 _ rfl
 have yy3 := fun X Y Z => (GF.out.low (Low.alloc (Low.alloc (Low.alloc (Low.refl B8) X) Y) Z)).at 3 _ rfl
 have yy4 := fun X Y Z => (GF.out.low (Low.alloc (Low.alloc (Low.alloc (Low.refl B8) X) Y) Z)).at 4 _ rfl
 have yy5 := fun X Y Z => (GF.out.low (Low.alloc (Low.alloc (Low.alloc (Low.refl B8) X) Y) Z)).at 5 _ rfl
 have yy6 := fun X Y Z => (GF.out.low (Low.alloc (Low.alloc (Low.alloc (Low.refl B8) X) Y) Z)).at 6 _ rfl
 have yy7 := fun X Y Z => (GF.out.low (Low.alloc (Low.alloc (Low.alloc (Low.refl B8) X) Y) Z)).at 7 _ rfl
 have yy8 := fun X Y Z => (GF.out.low (Low.alloc (Low.alloc (Low.alloc (Low.refl B8) X) Y) Z)).at 8 _ rfl
 have yy9 := fun X Y Z => (GF.out.low (Low.alloc (Low.alloc (Low.alloc (Low.refl B8) X) Y) Z)).at 9 _ rfl
 have yy10 := fun X Y Z => (GF.out.low (Low.alloc (Low.alloc (Low.alloc (Low.refl B8) X) Y) Z)).at 10 _ rfl
 have yy11 := fun X Y Z => (GF.out.low (Low.alloc (Low.alloc (Low.alloc (Low.refl B8) X) Y) Z)).at 11 _ rfl
 have zz0 := fun X Y Z => (GT.out.low (Low.alloc (Low.alloc (Low.alloc (Low.refl B8) X) Y) Z)).at 0 _ rfl
 have zz1 := fun X Y Z => (GT.out.low (Low.alloc (Low.alloc (Low.alloc (Low.refl B8) X) Y) Z)).at 1 _ rfl
 have zz2 := fun X Y Z => (GT.out.low (Low.alloc (Low.alloc (Low.alloc (Low.refl B8) X) Y) Z)).at 2 _ rfl
 have zz3 := fun X Y Z => (GT.out.low (Low.alloc (Low.alloc (Low.alloc (Low.refl B8) X) Y) Z)).at 3 _ rfl
 have zz4 := fun X Y Z => (GT.out.low (Low.alloc (Low.alloc (Low.alloc (Low.refl B8) X) Y) Z)).at 4 _ rfl
 have zz5 := fun X Y Z => (GT.out.low (Low.alloc (Low.alloc (Low.alloc (Low.refl B8) X) Y) Z)).at 5 _ rfl
 have zz6 := fun X Y Z => (GT.out.low (Low.alloc (Low.alloc (Low.alloc (Low.refl B8) X) Y) Z)).at 6 _ rfl
 have zz7 := fun X Y Z => (GT.out.low (Low.alloc (Low.alloc (Low.alloc (Low.refl B8) X) Y) Z)).at 7 _ rfl
 have zz8 := fun X Y Z => (GT.out.low (Low.alloc (Low.alloc (Low.alloc (Low.refl B8) X) Y) Z)).at 8 _ rfl
 have zz9 := fun X Y Z => (GT.out.low (Low.alloc (Low.alloc (Low.alloc (Low.refl B8) X) Y) Z)).at 9 _ rfl
 have zz10 := fun X Y Z => (GT.out.low (Low.alloc (Low.alloc (Low.alloc (Low.refl B8) X) Y) Z)).at 10 _ rfl
 have zz11 := fun X Y Z => (GT.out.low (Low.alloc (Low.alloc (Low.alloc (Low.refl B8) X) Y) Z)).at 11 _ rfl
 go_upto_region 10 with fail
 clear x0 x1 x2 x3 x4 x5 x6 x7 x8 x9 x10 x11 y0 y1 y2 y3 y4 y5 y6 y7 y8 y9 y10 y11 z0 z1 z2 z3 z4 z5 z6 z7 z8 z9 z10 z11 xx0 xx1 xx2 xx3 xx4 xx5 xx6 xx7 xx8 xx9 xx10 xx11 yy0 yy1 yy2 yy3 yy4 yy5 yy6 yy7 yy8 yy9 yy10 yy11 zz0 zz1 zz2 zz3 zz4 zz5 zz6 zz7 zz8 zz9 zz10 zz11 v1 v2 v3
 obtain ⟨N, HN, LN, K0, K1, K2, K3, K4⟩ := boxes5u B8 30 [.int .i64 1, .int .i64 1, .bool false, .int .i64 0, .string ⟨#[]⟩, .string ⟨#[]⟩, .string ⟨#[]⟩, .slice none 0 0, .slice none 0 0, .string ⟨#[]⟩, .slice none 0 0, .slice none 0 0, .int .i64 x.op, .int .i64 x.v.h.k, .bool x.v.h.b, .int .i64 x.v.h.n, .string x.v.h.s, .string x.v.h.t, .string x.v.h.i, .slice ai x.v.l.length ci, .slice an x.v.ns.length cn, .string x.nm, .slice ak x.ks.length ck, .slice am x.ns.length cm] [.int .i64 1, .int .i64 1, .bool true, .int .i64 0, .string ⟨#[]⟩, .string ⟨#[]⟩, .string ⟨#[]⟩, .slice none 0 0, .slice none 0 0, .string ⟨#[]⟩, .slice none 0 0, .slice none 0 0, .int .i64 x.op, .int .i64 x.v.h.k, .bool x.v.h.b, .int .i64 x.v.h.n, .string x.v.h.s, .string x.v.h.t, .string x.v.h.i, .slice ai x.v.l.length ci, .slice an x.v.ns.length cn, .string x.nm, .slice ak x.ks.length ck, .slice am x.ns.length cm] [.int .i64 1, .int .i64 1, .bool true, .int .i64 0, .string ⟨#[]⟩, .string ⟨#[]⟩, .string ⟨#[]⟩, .slice none 0 0, .slice none 0 0, .string ⟨#[]⟩, .slice none 0 0, .slice none 0 0, .int .i64 1, .int .i64 1, .bool true, .int .i64 0, .string ⟨#[]⟩, .string ⟨#[]⟩, .string ⟨#[]⟩, .slice none 0 0, .slice none 0 0, .string ⟨#[]⟩, .slice none 0 0, .slice none 0 0, .int .i64 x.op, .int .i64 x.v.h.k, .bool x.v.h.b, .int .i64 x.v.h.n, .string x.v.h.s, .string x.v.h.t, .string x.v.h.i, .slice ai x.v.l.length ci, .slice an x.v.ns.length cn, .string x.nm, .slice ak x.ks.length ck, .slice am x.ns.length cm] [.int .i64 1, .int .i64 1, .bool false, .int .i64 0, .string ⟨#[]⟩, .string ⟨#[]⟩, .string ⟨#[]⟩, .slice none 0 0, .slice none 0 0, .string ⟨#[]⟩, .slice none 0 0, .slice none 0 0, .int .i64 x.op, .int .i64 x.v.h.k, .bool x.v.h.b, .int .i64 x.v.h.n, .string x.v.h.s, .string x.v.h.t, .string x.v.h.i, .slice ai x.v.l.length ci, .slice an x.v.ns.length cn, .string x.nm, .slice ak x.ks.length ck, .slice am x.ns.length cm, .int .i64 1, .int .i64 1, .bool true, .int .i64 0, .string ⟨#[]⟩, .string ⟨#[]⟩, .string ⟨#[]⟩, .slice none 0 0, .slice none 0 0, .string ⟨#[]⟩, .slice none 0 0, .slice none 0 0] [.int .i64 4, .int .i64 0, .bool false, .int .i64 0, .string ⟨#[]⟩, .string ⟨#[]⟩, .string ⟨#[]⟩, .slice none 0 0, .slice none 0 0, .string ⟨#[]⟩, .slice (some ⟨B8.heap.size, 0, none⟩) 2 2, .slice none 0 0, .int .i64 5, .int .i64 0, .bool false, .int .i64 0, .string ⟨#[]⟩, .string ⟨#[]⟩, .string ⟨#[]⟩, .slice none 0 0, .slice none 0 0, .string ⟨#[]⟩, .slice (some ⟨B8.heap.size + 1, 0, none⟩) 2 2, .slice none 0 0, .int .i64 7, .int .i64 0, .bool false, .int .i64 0, .string ⟨#[]⟩, .string ⟨#[]⟩, .string ⟨#[]⟩, .slice none 0 0, .slice none 0 0, .string ⟨#[]⟩, .slice (some ⟨B8.heap.size + 1 + 1, 0, none⟩) 3 3, .slice none 0 0, .int .i64 7, .int .i64 0, .bool false, .int .i64 0, .string ⟨#[]⟩, .string ⟨#[]⟩, .string ⟨#[]⟩, .slice none 0 0, .slice none 0 0, .string ⟨#[]⟩, .slice (some ⟨B8.heap.size + 1 + 1 + 1, 0, none⟩) 3 3, .slice none 0 0]
 rw [← HN.out]
 clear HN GF GT GX
 have LT := Lib.hid (LL.out.trans LN.out)
 have HX := Lib.hid (HR.out N LT.out)
 by_cases hdeep : 50 < dpE x + 1
 ·have hdi : (50 : Int) < (dpE x : Int) + 1 := by omega
  match k, hk4 with
  | 0, _ =>
   have HE := Lib.hid (evSh0d_c ai ci an cn ak ck am cm HO.out hdeep N B8.heap.size K0.out.cells HX.out)
   have HD := Lib.hid fun W (l : Low N W) => dpSh0_c ai ci an cn ak ck am cm HD61.out W B8.heap.size (K0.out.low l).cells (HX.out.low l)
   have hk' : bits BinOp.and IntKind.i64 op 3 = 0 := hk
   clear HO HX HD61 K0 K1 K2 K3 hk
   have c0 : N.cell? ⟨B8.heap.size + 1 + 1 + 1 + 1, 0, none⟩ = some (.int .i64 4) := K4.out.at 0 _ rfl
   have c1 : N.cell? ⟨B8.heap.size + 1 + 1 + 1 + 1, 1, none⟩ = some (.int .i64 0) := K4.out.at 1 _ rfl
   have c2 : N.cell? ⟨B8.heap.size + 1 + 1 + 1 + 1, 2, none⟩ = some (.bool false) := K4.out.at 2 _ rfl
   have c3 : N.cell? ⟨B8.heap.size + 1 + 1 + 1 + 1, 3, none⟩ = some (.int .i64 0) := K4.out.at 3 _ rfl
   have c4 : N.cell? ⟨B8.heap.size + 1 + 1 + 1 + 1, 4, none⟩ = some (.string ⟨#[]⟩) := K4.out.at 4 _ rfl
   have c5 : N.cell? ⟨B8.heap.size + 1 + 1 + 1 + 1, 5, none⟩ = some (.string ⟨#[]⟩) := K4.out.at 5 _ rfl
   have c6 : N.cell? ⟨B8.heap.size + 1 + 1 + 1 + 1, 6, none⟩ = some (.string ⟨#[]⟩) := K4.out.at 6 _ rfl
   have c7 : N.cell? ⟨B8.heap.size + 1 + 1 + 1 + 1, 7, none⟩ = some (.slice none 0 0) := K4.out.at 7 _ rfl
   have c8 : N.cell? ⟨B8.heap.size + 1 + 1 + 1 + 1, 8, none⟩ = some (.slice none 0 0) := K4.out.at 8 _ rfl
   have c9 : N.cell? ⟨B8.heap.size + 1 + 1 + 1 + 1, 9, none⟩ = some (.string ⟨#[]⟩) := K4.out.at 9 _ rfl
   have c10 : N.cell? ⟨B8.heap.size + 1 + 1 + 1 + 1, 10, none⟩ = some (.slice (some ⟨B8.heap.size, 0, none⟩) 2 2) := K4.out.at 10 _ rfl
   have c11 : N.cell? ⟨B8.heap.size + 1 + 1 + 1 + 1, 11, none⟩ = some (.slice none 0 0) := K4.out.at 11 _ rfl
   go_upto_region 11 with (go_at_call 14; refine HE.out.mono ?_; rintro e w5 ⟨bi, di, bn, dn, rfl, l5⟩)
   have M5 := Lib.hid l5
   clear l5 HE c0 c1 c2 c3 c4 c5 c6 c7 c8 c9 c10 c11
   obtain ⟨D5, hD5⟩ : ∃ W, W = w5.alloc (.cells #[.int .i64 0, .bool false, .int .i64 0, .string ⟨#[]⟩, .string ⟨#[]⟩, .string ⟨#[]⟩, .slice bi 0 di, .slice bn 0 dn] 27) := ⟨_, rfl⟩
   have LD5 := Lib.hid (show Low w5 D5 by rw [hD5]; exact Low.alloc (Low.refl _) _)
   have XD5 := Lib.hid (show BoxAtv D5 w5.heap.size [.int .i64 0, .bool false, .int .i64 0, .string ⟨#[]⟩, .string ⟨#[]⟩, .string ⟨#[]⟩, .slice bi 0 di, .slice bn 0 dn] from BoxAtv.made hD5 rfl rfl)
   rw [← hD5]
   clear hD5
   have T5 := Lib.hid (M5.out.trans LD5.out)
   have K5 := Lib.hid (K4.out.low T5.out)
   have HD5 := Lib.hid (HD.out D5 T5.out)
   have c0 : D5.cell? ⟨B8.heap.size + 1 + 1 + 1 + 1, 0, none⟩ = some (.int .i64 4) := K5.out.at 0 _ rfl
   have c1 : D5.cell? ⟨B8.heap.size + 1 + 1 + 1 + 1, 1, none⟩ = some (.int .i64 0) := K5.out.at 1 _ rfl
   have c2 : D5.cell? ⟨B8.heap.size + 1 + 1 + 1 + 1, 2, none⟩ = some (.bool false) := K5.out.at 2 _ rfl
   have c3 : D5.cell? ⟨B8.heap.size + 1 + 1 + 1 + 1, 3, none⟩ = some (.int .i64 0) := K5.out.at 3 _ rfl
   have c4 : D5.cell? ⟨B8.heap.size + 1 + 1 + 1 + 1, 4, none⟩ = some (.string ⟨#[]⟩) := K5.out.at 4 _ rfl
   have c5 : D5.cell? ⟨B8.heap.size + 1 + 1 + 1 + 1, 5, none⟩ = some (.string ⟨#[]⟩) := K5.out.at 5 _ rfl
   have c6 : D5.cell? ⟨B8.heap.size + 1 + 1 + 1 + 1, 6, none⟩ = some (.string ⟨#[]⟩) := K5.out.at 6 _ rfl
   have c7 : D5.cell? ⟨B8.heap.size + 1 + 1 + 1 + 1, 7, none⟩ = some (.slice none 0 0) := K5.out.at 7 _ rfl
   have c8 : D5.cell? ⟨B8.heap.size + 1 + 1 + 1 + 1, 8, none⟩ = some (.slice none 0 0) := K5.out.at 8 _ rfl
   have c9 : D5.cell? ⟨B8.heap.size + 1 + 1 + 1 + 1, 9, none⟩ = some (.string ⟨#[]⟩) := K5.out.at 9 _ rfl
   have c10 : D5.cell? ⟨B8.heap.size + 1 + 1 + 1 + 1, 10, none⟩ = some (.slice (some ⟨B8.heap.size, 0, none⟩) 2 2) := K5.out.at 10 _ rfl
   have c11 : D5.cell? ⟨B8.heap.size + 1 + 1 + 1 + 1, 11, none⟩ = some (.slice none 0 0) := K5.out.at 11 _ rfl
   go_wp2_with fail
   refine HD5.out.mono ?_
   rintro e w6 ⟨rfl, l6⟩
   have L6 := Lib.hid l6
   clear l6 HD5 HD c0 c1 c2 c3 c4 c5 c6 c7 c8 c9 c10 c11
   obtain ⟨r0, r1, r2, r3, r4, r5, r6, r7⟩ := (XD5.out.low L6.out).at8
   go_wp2_with fail
   refine bodyPost_ret (v := .bool true) (by simp [results, Tryz.results6, go_sem]; try rfl) rfl ?_
   exact ⟨rfl, LT.out.trans (T5.out.trans L6.out)⟩
  | 1, _ =>
   have HE := Lib.hid (evSh1d_c ai ci an cn ak ck am cm HO.out hdeep N (B8.heap.size + 1) K1.out.cells HX.out)
   have HD := Lib.hid fun W (l : Low N W) => dpSh1_c ai ci an cn ak ck am cm HD61.out W (B8.heap.size + 1) (K1.out.low l).cells (HX.out.low l)
   have hk' : bits BinOp.and IntKind.i64 op 3 = 1 := hk
   clear HO HX HD61 K0 K1 K2 K3 hk
   have c0 : N.cell? ⟨B8.heap.size + 1 + 1 + 1 + 1, 12, none⟩ = some (.int .i64 5) := K4.out.at 12 _ rfl
   have c1 : N.cell? ⟨B8.heap.size + 1 + 1 + 1 + 1, 13, none⟩ = some (.int .i64 0) := K4.out.at 13 _ rfl
   have c2 : N.cell? ⟨B8.heap.size + 1 + 1 + 1 + 1, 14, none⟩ = some (.bool false) := K4.out.at 14 _ rfl
   have c3 : N.cell? ⟨B8.heap.size + 1 + 1 + 1 + 1, 15, none⟩ = some (.int .i64 0) := K4.out.at 15 _ rfl
   have c4 : N.cell? ⟨B8.heap.size + 1 + 1 + 1 + 1, 16, none⟩ = some (.string ⟨#[]⟩) := K4.out.at 16 _ rfl
   have c5 : N.cell? ⟨B8.heap.size + 1 + 1 + 1 + 1, 17, none⟩ = some (.string ⟨#[]⟩) := K4.out.at 17 _ rfl
   have c6 : N.cell? ⟨B8.heap.size + 1 + 1 + 1 + 1, 18, none⟩ = some (.string ⟨#[]⟩) := K4.out.at 18 _ rfl
   have c7 : N.cell? ⟨B8.heap.size + 1 + 1 + 1 + 1, 19, none⟩ = some (.slice none 0 0) := K4.out.at 19 _ rfl
   have c8 : N.cell? ⟨B8.heap.size + 1 + 1 + 1 + 1, 20, none⟩ = some (.slice none 0 0) := K4.out.at 20 _ rfl
   have c9 : N.cell? ⟨B8.heap.size + 1 + 1 + 1 + 1, 21, none⟩ = some (.string ⟨#[]⟩) := K4.out.at 21 _ rfl
   have c10 : N.cell? ⟨B8.heap.size + 1 + 1 + 1 + 1, 22, none⟩ = some (.slice (some ⟨B8.heap.size + 1, 0, none⟩) 2 2) := K4.out.at 22 _ rfl
   have c11 : N.cell? ⟨B8.heap.size + 1 + 1 + 1 + 1, 23, none⟩ = some (.slice none 0 0) := K4.out.at 23 _ rfl
   go_upto_region 11 with (go_at_call 14; refine HE.out.mono ?_; rintro e w5 ⟨bi, di, bn, dn, rfl, l5⟩)
   have M5 := Lib.hid l5
   clear l5 HE c0 c1 c2 c3 c4 c5 c6 c7 c8 c9 c10 c11
   obtain ⟨D5, hD5⟩ : ∃ W, W = w5.alloc (.cells #[.int .i64 0, .bool false, .int .i64 0, .string ⟨#[]⟩, .string ⟨#[]⟩, .string ⟨#[]⟩, .slice bi 0 di, .slice bn 0 dn] 27) := ⟨_, rfl⟩
   have LD5 := Lib.hid (show Low w5 D5 by rw [hD5]; exact Low.alloc (Low.refl _) _)
   have XD5 := Lib.hid (show BoxAtv D5 w5.heap.size [.int .i64 0, .bool false, .int .i64 0, .string ⟨#[]⟩, .string ⟨#[]⟩, .string ⟨#[]⟩, .slice bi 0 di, .slice bn 0 dn] from BoxAtv.made hD5 rfl rfl)
   rw [← hD5]
   clear hD5
   have T5 := Lib.hid (M5.out.trans LD5.out)
   have K5 := Lib.hid (K4.out.low T5.out)
   have HD5 := Lib.hid (HD.out D5 T5.out)
   have c0 : D5.cell? ⟨B8.heap.size + 1 + 1 + 1 + 1, 12, none⟩ = some (.int .i64 5) := K5.out.at 12 _ rfl
   have c1 : D5.cell? ⟨B8.heap.size + 1 + 1 + 1 + 1, 13, none⟩ = some (.int .i64 0) := K5.out.at 13 _ rfl
   have c2 : D5.cell? ⟨B8.heap.size + 1 + 1 + 1 + 1, 14, none⟩ = some (.bool false) := K5.out.at 14 _ rfl
   have c3 : D5.cell? ⟨B8.heap.size + 1 + 1 + 1 + 1, 15, none⟩ = some (.int .i64 0) := K5.out.at 15 _ rfl
   have c4 : D5.cell? ⟨B8.heap.size + 1 + 1 + 1 + 1, 16, none⟩ = some (.string ⟨#[]⟩) := K5.out.at 16 _ rfl
   have c5 : D5.cell? ⟨B8.heap.size + 1 + 1 + 1 + 1, 17, none⟩ = some (.string ⟨#[]⟩) := K5.out.at 17 _ rfl
   have c6 : D5.cell? ⟨B8.heap.size + 1 + 1 + 1 + 1, 18, none⟩ = some (.string ⟨#[]⟩) := K5.out.at 18 _ rfl
   have c7 : D5.cell? ⟨B8.heap.size + 1 + 1 + 1 + 1, 19, none⟩ = some (.slice none 0 0) := K5.out.at 19 _ rfl
   have c8 : D5.cell? ⟨B8.heap.size + 1 + 1 + 1 + 1, 20, none⟩ = some (.slice none 0 0) := K5.out.at 20 _ rfl
   have c9 : D5.cell? ⟨B8.heap.size + 1 + 1 + 1 + 1, 21, none⟩ = some (.string ⟨#[]⟩) := K5.out.at 21 _ rfl
   have c10 : D5.cell? ⟨B8.heap.size + 1 + 1 + 1 + 1, 22, none⟩ = some (.slice (some ⟨B8.heap.size + 1, 0, none⟩) 2 2) := K5.out.at 22 _ rfl
   have c11 : D5.cell? ⟨B8.heap.size + 1 + 1 + 1 + 1, 23, none⟩ = some (.slice none 0 0) := K5.out.at 23 _ rfl
   go_wp2_with fail
   refine HD5.out.mono ?_
   rintro e w6 ⟨rfl, l6⟩
   have L6 := Lib.hid l6
   clear l6 HD5 HD c0 c1 c2 c3 c4 c5 c6 c7 c8 c9 c10 c11
   obtain ⟨r0, r1, r2, r3, r4, r5, r6, r7⟩ := (XD5.out.low L6.out).at8
   go_wp2_with fail
   refine bodyPost_ret (v := .bool true) (by simp [results, Tryz.results6, go_sem]; try rfl) rfl ?_
   exact ⟨rfl, LT.out.trans (T5.out.trans L6.out)⟩
  | 2, _ =>
   have HE := Lib.hid (evSh2d_c ai ci an cn ak ck am cm HO.out hdeep N (B8.heap.size + 1 + 1) K2.out.cells HX.out)
   have HD := Lib.hid fun W (l : Low N W) => dpSh2_c ai ci an cn ak ck am cm HD61.out W (B8.heap.size + 1 + 1) (K2.out.low l).cells (HX.out.low l)
   have hk' : bits BinOp.and IntKind.i64 op 3 = 2 := hk
   clear HO HX HD61 K0 K1 K2 K3 hk
   have c0 : N.cell? ⟨B8.heap.size + 1 + 1 + 1 + 1, 24, none⟩ = some (.int .i64 7) := K4.out.at 24 _ rfl
   have c1 : N.cell? ⟨B8.heap.size + 1 + 1 + 1 + 1, 25, none⟩ = some (.int .i64 0) := K4.out.at 25 _ rfl
   have c2 : N.cell? ⟨B8.heap.size + 1 + 1 + 1 + 1, 26, none⟩ = some (.bool false) := K4.out.at 26 _ rfl
   have c3 : N.cell? ⟨B8.heap.size + 1 + 1 + 1 + 1, 27, none⟩ = some (.int .i64 0) := K4.out.at 27 _ rfl
   have c4 : N.cell? ⟨B8.heap.size + 1 + 1 + 1 + 1, 28, none⟩ = some (.string ⟨#[]⟩) := K4.out.at 28 _ rfl
   have c5 : N.cell? ⟨B8.heap.size + 1 + 1 + 1 + 1, 29, none⟩ = some (.string ⟨#[]⟩) := K4.out.at 29 _ rfl
   have c6 : N.cell? ⟨B8.heap.size + 1 + 1 + 1 + 1, 30, none⟩ = some (.string ⟨#[]⟩) := K4.out.at 30 _ rfl
   have c7 : N.cell? ⟨B8.heap.size + 1 + 1 + 1 + 1, 31, none⟩ = some (.slice none 0 0) := K4.out.at 31 _ rfl
   have c8 : N.cell? ⟨B8.heap.size + 1 + 1 + 1 + 1, 32, none⟩ = some (.slice none 0 0) := K4.out.at 32 _ rfl
   have c9 : N.cell? ⟨B8.heap.size + 1 + 1 + 1 + 1, 33, none⟩ = some (.string ⟨#[]⟩) := K4.out.at 33 _ rfl
   have c10 : N.cell? ⟨B8.heap.size + 1 + 1 + 1 + 1, 34, none⟩ = some (.slice (some ⟨B8.heap.size + 1 + 1, 0, none⟩) 3 3) := K4.out.at 34 _ rfl
   have c11 : N.cell? ⟨B8.heap.size + 1 + 1 + 1 + 1, 35, none⟩ = some (.slice none 0 0) := K4.out.at 35 _ rfl
   go_upto_region 11 with (go_at_call 14; refine HE.out.mono ?_; rintro e w5 ⟨bi, di, bn, dn, rfl, l5⟩)
   have M5 := Lib.hid l5
   clear l5 HE c0 c1 c2 c3 c4 c5 c6 c7 c8 c9 c10 c11
   obtain ⟨D5, hD5⟩ : ∃ W, W = w5.alloc (.cells #[.int .i64 0, .bool false, .int .i64 0, .string ⟨#[]⟩, .string ⟨#[]⟩, .string ⟨#[]⟩, .slice bi 0 di, .slice bn 0 dn] 27) := ⟨_, rfl⟩
   have LD5 := Lib.hid (show Low w5 D5 by rw [hD5]; exact Low.alloc (Low.refl _) _)
   have XD5 := Lib.hid (show BoxAtv D5 w5.heap.size [.int .i64 0, .bool false, .int .i64 0, .string ⟨#[]⟩, .string ⟨#[]⟩, .string ⟨#[]⟩, .slice bi 0 di, .slice bn 0 dn] from BoxAtv.made hD5 rfl rfl)
   rw [← hD5]
   clear hD5
   have T5 := Lib.hid (M5.out.trans LD5.out)
   have K5 := Lib.hid (K4.out.low T5.out)
   have HD5 := Lib.hid (HD.out D5 T5.out)
   have c0 : D5.cell? ⟨B8.heap.size + 1 + 1 + 1 + 1, 24, none⟩ = some (.int .i64 7) := K5.out.at 24 _ rfl
   have c1 : D5.cell? ⟨B8.heap.size + 1 + 1 + 1 + 1, 25, none⟩ = some (.int .i64 0) := K5.out.at 25 _ rfl
   have c2 : D5.cell? ⟨B8.heap.size + 1 + 1 + 1 + 1, 26, none⟩ = some (.bool false) := K5.out.at 26 _ rfl
   have c3 : D5.cell? ⟨B8.heap.size + 1 + 1 + 1 + 1, 27, none⟩ = some (.int .i64 0) := K5.out.at 27 _ rfl
   have c4 : D5.cell? ⟨B8.heap.size + 1 + 1 + 1 + 1, 28, none⟩ = some (.string ⟨#[]⟩) := K5.out.at 28 _ rfl
   have c5 : D5.cell? ⟨B8.heap.size + 1 + 1 + 1 + 1, 29, none⟩ = some (.string ⟨#[]⟩) := K5.out.at 29 _ rfl
   have c6 : D5.cell? ⟨B8.heap.size + 1 + 1 + 1 + 1, 30, none⟩ = some (.string ⟨#[]⟩) := K5.out.at 30 _ rfl
   have c7 : D5.cell? ⟨B8.heap.size + 1 + 1 + 1 + 1, 31, none⟩ = some (.slice none 0 0) := K5.out.at 31 _ rfl
   have c8 : D5.cell? ⟨B8.heap.size + 1 + 1 + 1 + 1, 32, none⟩ = some (.slice none 0 0) := K5.out.at 32 _ rfl
   have c9 : D5.cell? ⟨B8.heap.size + 1 + 1 + 1 + 1, 33, none⟩ = some (.string ⟨#[]⟩) := K5.out.at 33 _ rfl
   have c10 : D5.cell? ⟨B8.heap.size + 1 + 1 + 1 + 1, 34, none⟩ = some (.slice (some ⟨B8.heap.size + 1 + 1, 0, none⟩) 3 3) := K5.out.at 34 _ rfl
   have c11 : D5.cell? ⟨B8.heap.size + 1 + 1 + 1 + 1, 35, none⟩ = some (.slice none 0 0) := K5.out.at 35 _ rfl
   go_wp2_with fail
   refine HD5.out.mono ?_
   rintro e w6 ⟨rfl, l6⟩
   have L6 := Lib.hid l6
   clear l6 HD5 HD c0 c1 c2 c3 c4 c5 c6 c7 c8 c9 c10 c11
   obtain ⟨r0, r1, r2, r3, r4, r5, r6, r7⟩ := (XD5.out.low L6.out).at8
   go_wp2_with fail
   refine bodyPost_ret (v := .bool true) (by simp [results, Tryz.results6, go_sem]; try rfl) rfl ?_
   exact ⟨rfl, LT.out.trans (T5.out.trans L6.out)⟩
  | 3, _ =>
   have HE := Lib.hid (evSh3d_c ai ci an cn ak ck am cm HO.out hdeep N (B8.heap.size + 1 + 1 + 1) K3.out.cells HX.out)
   have HD := Lib.hid fun W (l : Low N W) => dpSh3_c ai ci an cn ak ck am cm HD61.out W (B8.heap.size + 1 + 1 + 1) (K3.out.low l).cells (HX.out.low l)
   have hk' : bits BinOp.and IntKind.i64 op 3 = 3 := hk
   clear HO HX HD61 K0 K1 K2 K3 hk
   have c0 : N.cell? ⟨B8.heap.size + 1 + 1 + 1 + 1, 36, none⟩ = some (.int .i64 7) := K4.out.at 36 _ rfl
   have c1 : N.cell? ⟨B8.heap.size + 1 + 1 + 1 + 1, 37, none⟩ = some (.int .i64 0) := K4.out.at 37 _ rfl
   have c2 : N.cell? ⟨B8.heap.size + 1 + 1 + 1 + 1, 38, none⟩ = some (.bool false) := K4.out.at 38 _ rfl
   have c3 : N.cell? ⟨B8.heap.size + 1 + 1 + 1 + 1, 39, none⟩ = some (.int .i64 0) := K4.out.at 39 _ rfl
   have c4 : N.cell? ⟨B8.heap.size + 1 + 1 + 1 + 1, 40, none⟩ = some (.string ⟨#[]⟩) := K4.out.at 40 _ rfl
   have c5 : N.cell? ⟨B8.heap.size + 1 + 1 + 1 + 1, 41, none⟩ = some (.string ⟨#[]⟩) := K4.out.at 41 _ rfl
   have c6 : N.cell? ⟨B8.heap.size + 1 + 1 + 1 + 1, 42, none⟩ = some (.string ⟨#[]⟩) := K4.out.at 42 _ rfl
   have c7 : N.cell? ⟨B8.heap.size + 1 + 1 + 1 + 1, 43, none⟩ = some (.slice none 0 0) := K4.out.at 43 _ rfl
   have c8 : N.cell? ⟨B8.heap.size + 1 + 1 + 1 + 1, 44, none⟩ = some (.slice none 0 0) := K4.out.at 44 _ rfl
   have c9 : N.cell? ⟨B8.heap.size + 1 + 1 + 1 + 1, 45, none⟩ = some (.string ⟨#[]⟩) := K4.out.at 45 _ rfl
   have c10 : N.cell? ⟨B8.heap.size + 1 + 1 + 1 + 1, 46, none⟩ = some (.slice (some ⟨B8.heap.size + 1 + 1 + 1, 0, none⟩) 3 3) := K4.out.at 46 _ rfl
   have c11 : N.cell? ⟨B8.heap.size + 1 + 1 + 1 + 1, 47, none⟩ = some (.slice none 0 0) := K4.out.at 47 _ rfl
   go_upto_region 11 with (go_at_call 14; refine HE.out.mono ?_; rintro e w5 ⟨bi, di, bn, dn, rfl, l5⟩)
   have M5 := Lib.hid l5
   clear l5 HE c0 c1 c2 c3 c4 c5 c6 c7 c8 c9 c10 c11
   obtain ⟨D5, hD5⟩ : ∃ W, W = w5.alloc (.cells #[.int .i64 0, .bool false, .int .i64 0, .string ⟨#[]⟩, .string ⟨#[]⟩, .string ⟨#[]⟩, .slice bi 0 di, .slice bn 0 dn] 27) := ⟨_, rfl⟩
   have LD5 := Lib.hid (show Low w5 D5 by rw [hD5]; exact Low.alloc (Low.refl _) _)
   have XD5 := Lib.hid (show BoxAtv D5 w5.heap.size [.int .i64 0, .bool false, .int .i64 0, .string ⟨#[]⟩, .string ⟨#[]⟩, .string ⟨#[]⟩, .slice bi 0 di, .slice bn 0 dn] from BoxAtv.made hD5 rfl rfl)
   rw [← hD5]
   clear hD5
   have T5 := Lib.hid (M5.out.trans LD5.out)
   have K5 := Lib.hid (K4.out.low T5.out)
   have HD5 := Lib.hid (HD.out D5 T5.out)
   have c0 : D5.cell? ⟨B8.heap.size + 1 + 1 + 1 + 1, 36, none⟩ = some (.int .i64 7) := K5.out.at 36 _ rfl
   have c1 : D5.cell? ⟨B8.heap.size + 1 + 1 + 1 + 1, 37, none⟩ = some (.int .i64 0) := K5.out.at 37 _ rfl
   have c2 : D5.cell? ⟨B8.heap.size + 1 + 1 + 1 + 1, 38, none⟩ = some (.bool false) := K5.out.at 38 _ rfl
   have c3 : D5.cell? ⟨B8.heap.size + 1 + 1 + 1 + 1, 39, none⟩ = some (.int .i64 0) := K5.out.at 39 _ rfl
   have c4 : D5.cell? ⟨B8.heap.size + 1 + 1 + 1 + 1, 40, none⟩ = some (.string ⟨#[]⟩) := K5.out.at 40 _ rfl
   have c5 : D5.cell? ⟨B8.heap.size + 1 + 1 + 1 + 1, 41, none⟩ = some (.string ⟨#[]⟩) := K5.out.at 41 _ rfl
   have c6 : D5.cell? ⟨B8.heap.size + 1 + 1 + 1 + 1, 42, none⟩ = some (.string ⟨#[]⟩) := K5.out.at 42 _ rfl
   have c7 : D5.cell? ⟨B8.heap.size + 1 + 1 + 1 + 1, 43, none⟩ = some (.slice none 0 0) := K5.out.at 43 _ rfl
   have c8 : D5.cell? ⟨B8.heap.size + 1 + 1 + 1 + 1, 44, none⟩ = some (.slice none 0 0) := K5.out.at 44 _ rfl
   have c9 : D5.cell? ⟨B8.heap.size + 1 + 1 + 1 + 1, 45, none⟩ = some (.string ⟨#[]⟩) := K5.out.at 45 _ rfl
   have c10 : D5.cell? ⟨B8.heap.size + 1 + 1 + 1 + 1, 46, none⟩ = some (.slice (some ⟨B8.heap.size + 1 + 1 + 1, 0, none⟩) 3 3) := K5.out.at 46 _ rfl
   have c11 : D5.cell? ⟨B8.heap.size + 1 + 1 + 1 + 1, 47, none⟩ = some (.slice none 0 0) := K5.out.at 47 _ rfl
   go_wp2_with fail
   refine HD5.out.mono ?_
   rintro e w6 ⟨rfl, l6⟩
   have L6 := Lib.hid l6
   clear l6 HD5 HD c0 c1 c2 c3 c4 c5 c6 c7 c8 c9 c10 c11
   obtain ⟨r0, r1, r2, r3, r4, r5, r6, r7⟩ := (XD5.out.low L6.out).at8
   go_wp2_with fail
   refine bodyPost_ret (v := .bool true) (by simp [results, Tryz.results6, go_sem]; try rfl) rfl ?_
   exact ⟨rfl, LT.out.trans (T5.out.trans L6.out)⟩
 ·have hdi : ¬ (50 : Int) < (dpE x : Int) + 1 := by omega
  match k, hk4 with
  | 0, _ =>
   have HE := Lib.hid (evSh0_c ai ci an cn ak ck am cm HO.out hdeep N B8.heap.size K0.out.cells HX.out)
   have HD := Lib.hid fun W (l : Low N W) => dpSh0_c ai ci an cn ak ck am cm HD61.out W B8.heap.size (K0.out.low l).cells (HX.out.low l)
   have hk' : bits BinOp.and IntKind.i64 op 3 = 0 := hk
   clear HO HX HD61 K0 K1 K2 K3 hk
   have c0 : N.cell? ⟨B8.heap.size + 1 + 1 + 1 + 1, 0, none⟩ = some (.int .i64 4) := K4.out.at 0 _ rfl
   have c1 : N.cell? ⟨B8.heap.size + 1 + 1 + 1 + 1, 1, none⟩ = some (.int .i64 0) := K4.out.at 1 _ rfl
   have c2 : N.cell? ⟨B8.heap.size + 1 + 1 + 1 + 1, 2, none⟩ = some (.bool false) := K4.out.at 2 _ rfl
   have c3 : N.cell? ⟨B8.heap.size + 1 + 1 + 1 + 1, 3, none⟩ = some (.int .i64 0) := K4.out.at 3 _ rfl
   have c4 : N.cell? ⟨B8.heap.size + 1 + 1 + 1 + 1, 4, none⟩ = some (.string ⟨#[]⟩) := K4.out.at 4 _ rfl
   have c5 : N.cell? ⟨B8.heap.size + 1 + 1 + 1 + 1, 5, none⟩ = some (.string ⟨#[]⟩) := K4.out.at 5 _ rfl
   have c6 : N.cell? ⟨B8.heap.size + 1 + 1 + 1 + 1, 6, none⟩ = some (.string ⟨#[]⟩) := K4.out.at 6 _ rfl
   have c7 : N.cell? ⟨B8.heap.size + 1 + 1 + 1 + 1, 7, none⟩ = some (.slice none 0 0) := K4.out.at 7 _ rfl
   have c8 : N.cell? ⟨B8.heap.size + 1 + 1 + 1 + 1, 8, none⟩ = some (.slice none 0 0) := K4.out.at 8 _ rfl
   have c9 : N.cell? ⟨B8.heap.size + 1 + 1 + 1 + 1, 9, none⟩ = some (.string ⟨#[]⟩) := K4.out.at 9 _ rfl
   have c10 : N.cell? ⟨B8.heap.size + 1 + 1 + 1 + 1, 10, none⟩ = some (.slice (some ⟨B8.heap.size, 0, none⟩) 2 2) := K4.out.at 10 _ rfl
   have c11 : N.cell? ⟨B8.heap.size + 1 + 1 + 1 + 1, 11, none⟩ = some (.slice none 0 0) := K4.out.at 11 _ rfl
   go_upto_region 11 with (go_at_call 14; refine HE.out.mono ?_; rintro e w5 ⟨bi, di, bn, dn, rfl, l5⟩)
   have M5 := Lib.hid l5
   clear l5 HE c0 c1 c2 c3 c4 c5 c6 c7 c8 c9 c10 c11
   obtain ⟨D5, hD5⟩ : ∃ W, W = w5.alloc (.cells #[.int .i64 1, .bool false, .int .i64 0, .string ⟨#[]⟩, .string ⟨#[]⟩, .string ⟨#[]⟩, .slice bi 0 di, .slice bn 0 dn] 27) := ⟨_, rfl⟩
   have LD5 := Lib.hid (show Low w5 D5 by rw [hD5]; exact Low.alloc (Low.refl _) _)
   have XD5 := Lib.hid (show BoxAtv D5 w5.heap.size [.int .i64 1, .bool false, .int .i64 0, .string ⟨#[]⟩, .string ⟨#[]⟩, .string ⟨#[]⟩, .slice bi 0 di, .slice bn 0 dn] from BoxAtv.made hD5 rfl rfl)
   rw [← hD5]
   clear hD5
   have T5 := Lib.hid (M5.out.trans LD5.out)
   have K5 := Lib.hid (K4.out.low T5.out)
   have HD5 := Lib.hid (HD.out D5 T5.out)
   have c0 : D5.cell? ⟨B8.heap.size + 1 + 1 + 1 + 1, 0, none⟩ = some (.int .i64 4) := K5.out.at 0 _ rfl
   have c1 : D5.cell? ⟨B8.heap.size + 1 + 1 + 1 + 1, 1, none⟩ = some (.int .i64 0) := K5.out.at 1 _ rfl
   have c2 : D5.cell? ⟨B8.heap.size + 1 + 1 + 1 + 1, 2, none⟩ = some (.bool false) := K5.out.at 2 _ rfl
   have c3 : D5.cell? ⟨B8.heap.size + 1 + 1 + 1 + 1, 3, none⟩ = some (.int .i64 0) := K5.out.at 3 _ rfl
   have c4 : D5.cell? ⟨B8.heap.size + 1 + 1 + 1 + 1, 4, none⟩ = some (.string ⟨#[]⟩) := K5.out.at 4 _ rfl
   have c5 : D5.cell? ⟨B8.heap.size + 1 + 1 + 1 + 1, 5, none⟩ = some (.string ⟨#[]⟩) := K5.out.at 5 _ rfl
   have c6 : D5.cell? ⟨B8.heap.size + 1 + 1 + 1 + 1, 6, none⟩ = some (.string ⟨#[]⟩) := K5.out.at 6 _ rfl
   have c7 : D5.cell? ⟨B8.heap.size + 1 + 1 + 1 + 1, 7, none⟩ = some (.slice none 0 0) := K5.out.at 7 _ rfl
   have c8 : D5.cell? ⟨B8.heap.size + 1 + 1 + 1 + 1, 8, none⟩ = some (.slice none 0 0) := K5.out.at 8 _ rfl
   have c9 : D5.cell? ⟨B8.heap.size + 1 + 1 + 1 + 1, 9, none⟩ = some (.string ⟨#[]⟩) := K5.out.at 9 _ rfl
   have c10 : D5.cell? ⟨B8.heap.size + 1 + 1 + 1 + 1, 10, none⟩ = some (.slice (some ⟨B8.heap.size, 0, none⟩) 2 2) := K5.out.at 10 _ rfl
   have c11 : D5.cell? ⟨B8.heap.size + 1 + 1 + 1 + 1, 11, none⟩ = some (.slice none 0 0) := K5.out.at 11 _ rfl
   go_wp2_with fail
   refine HD5.out.mono ?_
   rintro e w6 ⟨rfl, l6⟩
   have L6 := Lib.hid l6
   clear l6 HD5 HD c0 c1 c2 c3 c4 c5 c6 c7 c8 c9 c10 c11
   obtain ⟨r0, r1, r2, r3, r4, r5, r6, r7⟩ := (XD5.out.low L6.out).at8
   go_wp2_with fail
   refine bodyPost_ret (v := .bool true) (by simp [results, Tryz.results6, go_sem]; try rfl) rfl ?_
   exact ⟨rfl, LT.out.trans (T5.out.trans L6.out)⟩
  | 1, _ =>
   have HE := Lib.hid (evSh1_c ai ci an cn ak ck am cm HO.out hdeep N (B8.heap.size + 1) K1.out.cells HX.out)
   have HD := Lib.hid fun W (l : Low N W) => dpSh1_c ai ci an cn ak ck am cm HD61.out W (B8.heap.size + 1) (K1.out.low l).cells (HX.out.low l)
   have hk' : bits BinOp.and IntKind.i64 op 3 = 1 := hk
   clear HO HX HD61 K0 K1 K2 K3 hk
   have c0 : N.cell? ⟨B8.heap.size + 1 + 1 + 1 + 1, 12, none⟩ = some (.int .i64 5) := K4.out.at 12 _ rfl
   have c1 : N.cell? ⟨B8.heap.size + 1 + 1 + 1 + 1, 13, none⟩ = some (.int .i64 0) := K4.out.at 13 _ rfl
   have c2 : N.cell? ⟨B8.heap.size + 1 + 1 + 1 + 1, 14, none⟩ = some (.bool false) := K4.out.at 14 _ rfl
   have c3 : N.cell? ⟨B8.heap.size + 1 + 1 + 1 + 1, 15, none⟩ = some (.int .i64 0) := K4.out.at 15 _ rfl
   have c4 : N.cell? ⟨B8.heap.size + 1 + 1 + 1 + 1, 16, none⟩ = some (.string ⟨#[]⟩) := K4.out.at 16 _ rfl
   have c5 : N.cell? ⟨B8.heap.size + 1 + 1 + 1 + 1, 17, none⟩ = some (.string ⟨#[]⟩) := K4.out.at 17 _ rfl
   have c6 : N.cell? ⟨B8.heap.size + 1 + 1 + 1 + 1, 18, none⟩ = some (.string ⟨#[]⟩) := K4.out.at 18 _ rfl
   have c7 : N.cell? ⟨B8.heap.size + 1 + 1 + 1 + 1, 19, none⟩ = some (.slice none 0 0) := K4.out.at 19 _ rfl
   have c8 : N.cell? ⟨B8.heap.size + 1 + 1 + 1 + 1, 20, none⟩ = some (.slice none 0 0) := K4.out.at 20 _ rfl
   have c9 : N.cell? ⟨B8.heap.size + 1 + 1 + 1 + 1, 21, none⟩ = some (.string ⟨#[]⟩) := K4.out.at 21 _ rfl
   have c10 : N.cell? ⟨B8.heap.size + 1 + 1 + 1 + 1, 22, none⟩ = some (.slice (some ⟨B8.heap.size + 1, 0, none⟩) 2 2) := K4.out.at 22 _ rfl
   have c11 : N.cell? ⟨B8.heap.size + 1 + 1 + 1 + 1, 23, none⟩ = some (.slice none 0 0) := K4.out.at 23 _ rfl
   go_upto_region 11 with (go_at_call 14; refine HE.out.mono ?_; rintro e w5 ⟨bi, di, bn, dn, rfl, l5⟩)
   have M5 := Lib.hid l5
   clear l5 HE c0 c1 c2 c3 c4 c5 c6 c7 c8 c9 c10 c11
   obtain ⟨D5, hD5⟩ : ∃ W, W = w5.alloc (.cells #[.int .i64 1, .bool true, .int .i64 0, .string ⟨#[]⟩, .string ⟨#[]⟩, .string ⟨#[]⟩, .slice bi 0 di, .slice bn 0 dn] 27) := ⟨_, rfl⟩
   have LD5 := Lib.hid (show Low w5 D5 by rw [hD5]; exact Low.alloc (Low.refl _) _)
   have XD5 := Lib.hid (show BoxAtv D5 w5.heap.size [.int .i64 1, .bool true, .int .i64 0, .string ⟨#[]⟩, .string ⟨#[]⟩, .string ⟨#[]⟩, .slice bi 0 di, .slice bn 0 dn] from BoxAtv.made hD5 rfl rfl)
   rw [← hD5]
   clear hD5
   have T5 := Lib.hid (M5.out.trans LD5.out)
   have K5 := Lib.hid (K4.out.low T5.out)
   have HD5 := Lib.hid (HD.out D5 T5.out)
   have c0 : D5.cell? ⟨B8.heap.size + 1 + 1 + 1 + 1, 12, none⟩ = some (.int .i64 5) := K5.out.at 12 _ rfl
   have c1 : D5.cell? ⟨B8.heap.size + 1 + 1 + 1 + 1, 13, none⟩ = some (.int .i64 0) := K5.out.at 13 _ rfl
   have c2 : D5.cell? ⟨B8.heap.size + 1 + 1 + 1 + 1, 14, none⟩ = some (.bool false) := K5.out.at 14 _ rfl
   have c3 : D5.cell? ⟨B8.heap.size + 1 + 1 + 1 + 1, 15, none⟩ = some (.int .i64 0) := K5.out.at 15 _ rfl
   have c4 : D5.cell? ⟨B8.heap.size + 1 + 1 + 1 + 1, 16, none⟩ = some (.string ⟨#[]⟩) := K5.out.at 16 _ rfl
   have c5 : D5.cell? ⟨B8.heap.size + 1 + 1 + 1 + 1, 17, none⟩ = some (.string ⟨#[]⟩) := K5.out.at 17 _ rfl
   have c6 : D5.cell? ⟨B8.heap.size + 1 + 1 + 1 + 1, 18, none⟩ = some (.string ⟨#[]⟩) := K5.out.at 18 _ rfl
   have c7 : D5.cell? ⟨B8.heap.size + 1 + 1 + 1 + 1, 19, none⟩ = some (.slice none 0 0) := K5.out.at 19 _ rfl
   have c8 : D5.cell? ⟨B8.heap.size + 1 + 1 + 1 + 1, 20, none⟩ = some (.slice none 0 0) := K5.out.at 20 _ rfl
   have c9 : D5.cell? ⟨B8.heap.size + 1 + 1 + 1 + 1, 21, none⟩ = some (.string ⟨#[]⟩) := K5.out.at 21 _ rfl
   have c10 : D5.cell? ⟨B8.heap.size + 1 + 1 + 1 + 1, 22, none⟩ = some (.slice (some ⟨B8.heap.size + 1, 0, none⟩) 2 2) := K5.out.at 22 _ rfl
   have c11 : D5.cell? ⟨B8.heap.size + 1 + 1 + 1 + 1, 23, none⟩ = some (.slice none 0 0) := K5.out.at 23 _ rfl
   go_wp2_with fail
   refine HD5.out.mono ?_
   rintro e w6 ⟨rfl, l6⟩
   have L6 := Lib.hid l6
   clear l6 HD5 HD c0 c1 c2 c3 c4 c5 c6 c7 c8 c9 c10 c11
   obtain ⟨r0, r1, r2, r3, r4, r5, r6, r7⟩ := (XD5.out.low L6.out).at8
   go_wp2_with fail
   refine bodyPost_ret (v := .bool true) (by simp [results, Tryz.results6, go_sem]; try rfl) rfl ?_
   exact ⟨rfl, LT.out.trans (T5.out.trans L6.out)⟩
  | 2, _ =>
   have HE := Lib.hid (evSh2_c ai ci an cn ak ck am cm HO.out hdeep N (B8.heap.size + 1 + 1) K2.out.cells HX.out)
   have HD := Lib.hid fun W (l : Low N W) => dpSh2_c ai ci an cn ak ck am cm HD61.out W (B8.heap.size + 1 + 1) (K2.out.low l).cells (HX.out.low l)
   have hk' : bits BinOp.and IntKind.i64 op 3 = 2 := hk
   clear HO HX HD61 K0 K1 K2 K3 hk
   have c0 : N.cell? ⟨B8.heap.size + 1 + 1 + 1 + 1, 24, none⟩ = some (.int .i64 7) := K4.out.at 24 _ rfl
   have c1 : N.cell? ⟨B8.heap.size + 1 + 1 + 1 + 1, 25, none⟩ = some (.int .i64 0) := K4.out.at 25 _ rfl
   have c2 : N.cell? ⟨B8.heap.size + 1 + 1 + 1 + 1, 26, none⟩ = some (.bool false) := K4.out.at 26 _ rfl
   have c3 : N.cell? ⟨B8.heap.size + 1 + 1 + 1 + 1, 27, none⟩ = some (.int .i64 0) := K4.out.at 27 _ rfl
   have c4 : N.cell? ⟨B8.heap.size + 1 + 1 + 1 + 1, 28, none⟩ = some (.string ⟨#[]⟩) := K4.out.at 28 _ rfl
   have c5 : N.cell? ⟨B8.heap.size + 1 + 1 + 1 + 1, 29, none⟩ = some (.string ⟨#[]⟩) := K4.out.at 29 _ rfl
   have c6 : N.cell? ⟨B8.heap.size + 1 + 1 + 1 + 1, 30, none⟩ = some (.string ⟨#[]⟩) := K4.out.at 30 _ rfl
   have c7 : N.cell? ⟨B8.heap.size + 1 + 1 + 1 + 1, 31, none⟩ = some (.slice none 0 0) := K4.out.at 31 _ rfl
   have c8 : N.cell? ⟨B8.heap.size + 1 + 1 + 1 + 1, 32, none⟩ = some (.slice none 0 0) := K4.out.at 32 _ rfl
   have c9 : N.cell? ⟨B8.heap.size + 1 + 1 + 1 + 1, 33, none⟩ = some (.string ⟨#[]⟩) := K4.out.at 33 _ rfl
   have c10 : N.cell? ⟨B8.heap.size + 1 + 1 + 1 + 1, 34, none⟩ = some (.slice (some ⟨B8.heap.size + 1 + 1, 0, none⟩) 3 3) := K4.out.at 34 _ rfl
   have c11 : N.cell? ⟨B8.heap.size + 1 + 1 + 1 + 1, 35, none⟩ = some (.slice none 0 0) := K4.out.at 35 _ rfl
   go_upto_region 11 with (go_at_call 14; refine HE.out.mono ?_; rintro e w5 ⟨bi, di, bn, dn, rfl, l5⟩)
   have M5 := Lib.hid l5
   clear l5 HE c0 c1 c2 c3 c4 c5 c6 c7 c8 c9 c10 c11
   obtain ⟨D5, hD5⟩ : ∃ W, W = w5.alloc (.cells #[.int .i64 1, .bool true, .int .i64 0, .string ⟨#[]⟩, .string ⟨#[]⟩, .string ⟨#[]⟩, .slice bi 0 di, .slice bn 0 dn] 27) := ⟨_, rfl⟩
   have LD5 := Lib.hid (show Low w5 D5 by rw [hD5]; exact Low.alloc (Low.refl _) _)
   have XD5 := Lib.hid (show BoxAtv D5 w5.heap.size [.int .i64 1, .bool true, .int .i64 0, .string ⟨#[]⟩, .string ⟨#[]⟩, .string ⟨#[]⟩, .slice bi 0 di, .slice bn 0 dn] from BoxAtv.made hD5 rfl rfl)
   rw [← hD5]
   clear hD5
   have T5 := Lib.hid (M5.out.trans LD5.out)
   have K5 := Lib.hid (K4.out.low T5.out)
   have HD5 := Lib.hid (HD.out D5 T5.out)
   have c0 : D5.cell? ⟨B8.heap.size + 1 + 1 + 1 + 1, 24, none⟩ = some (.int .i64 7) := K5.out.at 24 _ rfl
   have c1 : D5.cell? ⟨B8.heap.size + 1 + 1 + 1 + 1, 25, none⟩ = some (.int .i64 0) := K5.out.at 25 _ rfl
   have c2 : D5.cell? ⟨B8.heap.size + 1 + 1 + 1 + 1, 26, none⟩ = some (.bool false) := K5.out.at 26 _ rfl
   have c3 : D5.cell? ⟨B8.heap.size + 1 + 1 + 1 + 1, 27, none⟩ = some (.int .i64 0) := K5.out.at 27 _ rfl
   have c4 : D5.cell? ⟨B8.heap.size + 1 + 1 + 1 + 1, 28, none⟩ = some (.string ⟨#[]⟩) := K5.out.at 28 _ rfl
   have c5 : D5.cell? ⟨B8.heap.size + 1 + 1 + 1 + 1, 29, none⟩ = some (.string ⟨#[]⟩) := K5.out.at 29 _ rfl
   have c6 : D5.cell? ⟨B8.heap.size + 1 + 1 + 1 + 1, 30, none⟩ = some (.string ⟨#[]⟩) := K5.out.at 30 _ rfl
   have c7 : D5.cell? ⟨B8.heap.size + 1 + 1 + 1 + 1, 31, none⟩ = some (.slice none 0 0) := K5.out.at 31 _ rfl
   have c8 : D5.cell? ⟨B8.heap.size + 1 + 1 + 1 + 1, 32, none⟩ = some (.slice none 0 0) := K5.out.at 32 _ rfl
   have c9 : D5.cell? ⟨B8.heap.size + 1 + 1 + 1 + 1, 33, none⟩ = some (.string ⟨#[]⟩) := K5.out.at 33 _ rfl
   have c10 : D5.cell? ⟨B8.heap.size + 1 + 1 + 1 + 1, 34, none⟩ = some (.slice (some ⟨B8.heap.size + 1 + 1, 0, none⟩) 3 3) := K5.out.at 34 _ rfl
   have c11 : D5.cell? ⟨B8.heap.size + 1 + 1 + 1 + 1, 35, none⟩ = some (.slice none 0 0) := K5.out.at 35 _ rfl
   go_wp2_with fail
   refine HD5.out.mono ?_
   rintro e w6 ⟨rfl, l6⟩
   have L6 := Lib.hid l6
   clear l6 HD5 HD c0 c1 c2 c3 c4 c5 c6 c7 c8 c9 c10 c11
   obtain ⟨r0, r1, r2, r3, r4, r5, r6, r7⟩ := (XD5.out.low L6.out).at8
   go_wp2_with fail
   refine bodyPost_ret (v := .bool true) (by simp [results, Tryz.results6, go_sem]; try rfl) rfl ?_
   exact ⟨rfl, LT.out.trans (T5.out.trans L6.out)⟩
  | 3, _ =>
   have HE := Lib.hid (evSh3_c ai ci an cn ak ck am cm HO.out hdeep N (B8.heap.size + 1 + 1 + 1) K3.out.cells HX.out)
   have HD := Lib.hid fun W (l : Low N W) => dpSh3_c ai ci an cn ak ck am cm HD61.out W (B8.heap.size + 1 + 1 + 1) (K3.out.low l).cells (HX.out.low l)
   have hk' : bits BinOp.and IntKind.i64 op 3 = 3 := hk
   clear HO HX HD61 K0 K1 K2 K3 hk
   have c0 : N.cell? ⟨B8.heap.size + 1 + 1 + 1 + 1, 36, none⟩ = some (.int .i64 7) := K4.out.at 36 _ rfl
   have c1 : N.cell? ⟨B8.heap.size + 1 + 1 + 1 + 1, 37, none⟩ = some (.int .i64 0) := K4.out.at 37 _ rfl
   have c2 : N.cell? ⟨B8.heap.size + 1 + 1 + 1 + 1, 38, none⟩ = some (.bool false) := K4.out.at 38 _ rfl
   have c3 : N.cell? ⟨B8.heap.size + 1 + 1 + 1 + 1, 39, none⟩ = some (.int .i64 0) := K4.out.at 39 _ rfl
   have c4 : N.cell? ⟨B8.heap.size + 1 + 1 + 1 + 1, 40, none⟩ = some (.string ⟨#[]⟩) := K4.out.at 40 _ rfl
   have c5 : N.cell? ⟨B8.heap.size + 1 + 1 + 1 + 1, 41, none⟩ = some (.string ⟨#[]⟩) := K4.out.at 41 _ rfl
   have c6 : N.cell? ⟨B8.heap.size + 1 + 1 + 1 + 1, 42, none⟩ = some (.string ⟨#[]⟩) := K4.out.at 42 _ rfl
   have c7 : N.cell? ⟨B8.heap.size + 1 + 1 + 1 + 1, 43, none⟩ = some (.slice none 0 0) := K4.out.at 43 _ rfl
   have c8 : N.cell? ⟨B8.heap.size + 1 + 1 + 1 + 1, 44, none⟩ = some (.slice none 0 0) := K4.out.at 44 _ rfl
   have c9 : N.cell? ⟨B8.heap.size + 1 + 1 + 1 + 1, 45, none⟩ = some (.string ⟨#[]⟩) := K4.out.at 45 _ rfl
   have c10 : N.cell? ⟨B8.heap.size + 1 + 1 + 1 + 1, 46, none⟩ = some (.slice (some ⟨B8.heap.size + 1 + 1 + 1, 0, none⟩) 3 3) := K4.out.at 46 _ rfl
   have c11 : N.cell? ⟨B8.heap.size + 1 + 1 + 1 + 1, 47, none⟩ = some (.slice none 0 0) := K4.out.at 47 _ rfl
   go_upto_region 11 with (go_at_call 14; refine HE.out.mono ?_; rintro e w5 ⟨bi, di, bn, dn, rfl, l5⟩)
   have M5 := Lib.hid l5
   clear l5 HE c0 c1 c2 c3 c4 c5 c6 c7 c8 c9 c10 c11
   obtain ⟨D5, hD5⟩ : ∃ W, W = w5.alloc (.cells #[.int .i64 1, .bool true, .int .i64 0, .string ⟨#[]⟩, .string ⟨#[]⟩, .string ⟨#[]⟩, .slice bi 0 di, .slice bn 0 dn] 27) := ⟨_, rfl⟩
   have LD5 := Lib.hid (show Low w5 D5 by rw [hD5]; exact Low.alloc (Low.refl _) _)
   have XD5 := Lib.hid (show BoxAtv D5 w5.heap.size [.int .i64 1, .bool true, .int .i64 0, .string ⟨#[]⟩, .string ⟨#[]⟩, .string ⟨#[]⟩, .slice bi 0 di, .slice bn 0 dn] from BoxAtv.made hD5 rfl rfl)
   rw [← hD5]
   clear hD5
   have T5 := Lib.hid (M5.out.trans LD5.out)
   have K5 := Lib.hid (K4.out.low T5.out)
   have HD5 := Lib.hid (HD.out D5 T5.out)
   have c0 : D5.cell? ⟨B8.heap.size + 1 + 1 + 1 + 1, 36, none⟩ = some (.int .i64 7) := K5.out.at 36 _ rfl
   have c1 : D5.cell? ⟨B8.heap.size + 1 + 1 + 1 + 1, 37, none⟩ = some (.int .i64 0) := K5.out.at 37 _ rfl
   have c2 : D5.cell? ⟨B8.heap.size + 1 + 1 + 1 + 1, 38, none⟩ = some (.bool false) := K5.out.at 38 _ rfl
   have c3 : D5.cell? ⟨B8.heap.size + 1 + 1 + 1 + 1, 39, none⟩ = some (.int .i64 0) := K5.out.at 39 _ rfl
   have c4 : D5.cell? ⟨B8.heap.size + 1 + 1 + 1 + 1, 40, none⟩ = some (.string ⟨#[]⟩) := K5.out.at 40 _ rfl
   have c5 : D5.cell? ⟨B8.heap.size + 1 + 1 + 1 + 1, 41, none⟩ = some (.string ⟨#[]⟩) := K5.out.at 41 _ rfl
   have c6 : D5.cell? ⟨B8.heap.size + 1 + 1 + 1 + 1, 42, none⟩ = some (.string ⟨#[]⟩) := K5.out.at 42 _ rfl
   have c7 : D5.cell? ⟨B8.heap.size + 1 + 1 + 1 + 1, 43, none⟩ = some (.slice none 0 0) := K5.out.at 43 _ rfl
   have c8 : D5.cell? ⟨B8.heap.size + 1 + 1 + 1 + 1, 44, none⟩ = some (.slice none 0 0) := K5.out.at 44 _ rfl
   have c9 : D5.cell? ⟨B8.heap.size + 1 + 1 + 1 + 1, 45, none⟩ = some (.string ⟨#[]⟩) := K5.out.at 45 _ rfl
   have c10 : D5.cell? ⟨B8.heap.size + 1 + 1 + 1 + 1, 46, none⟩ = some (.slice (some ⟨B8.heap.size + 1 + 1 + 1, 0, none⟩) 3 3) := K5.out.at 46 _ rfl
   have c11 : D5.cell? ⟨B8.heap.size + 1 + 1 + 1 + 1, 47, none⟩ = some (.slice none 0 0) := K5.out.at 47 _ rfl
   go_wp2_with fail
   refine HD5.out.mono ?_
   rintro e w6 ⟨rfl, l6⟩
   have L6 := Lib.hid l6
   clear l6 HD5 HD c0 c1 c2 c3 c4 c5 c6 c7 c8 c9 c10 c11
   obtain ⟨r0, r1, r2, r3, r4, r5, r6, r7⟩ := (XD5.out.low L6.out).at8
   go_wp2_with fail
   refine bodyPost_ret (v := .bool true) (by simp [results, Tryz.results6, go_sem]; try rfl) rfl ?_
   exact ⟨rfl, LT.out.trans (T5.out.trans L6.out)⟩
end Go.Proofs.YtnchohglplobeaaGreat
namespace Go.Proofs.YtnchohglplobeaaGreat.evalShort
open Go.ChangeShapes Go.WideShapes Go.ChangeAt Go.RowKit
open Go.ChangeMaps (open_string shut_string)
theorem own : ownKnob Tryz.prog.godebug = none := by kernel_rfl
theorem laidOut : laidOutB Tryz.prog = true := by kernel_rfl
set_option maxRecDepth 100000 in
theorem lifted (os : Os) (started : os.Started) (H : Type) (enc : TypeId × Value → H) :
  ReturnsInHanded {} Tryz.checked os 6 .any (Rows.evalShortSpec.pre6 enc Tryz.prog Tryz.f6 Rows.evalShortRow.domain false) (Rows.evalShortSpec.post enc Tryz.prog Tryz.f6 false true false false) := by
 refine returnsInHanded_of_change (C := Tryz.checked) own started (by kernel_rfl) Tryz.func6
  (ChangeSpec.witness6 (enc := enc) (C := Tryz.checked) false ⟨#[], #[.agg #[.int .i64 0, .int .i64 0, .bool false, .int .i64 0, .string ByteArray.empty, .string ByteArray.empty, .string ByteArray.empty, .slice none 0 0, .slice none 0 0, .string ByteArray.empty, .slice none 0 0, .slice none 0 0], .int .i64 0], []⟩ 8 (by kernel_rfl) (by kernel_rfl) (by kernel_rfl) (by kernel_rfl)) ?_
 intro W base args ds gs before hval0 hW hcnd _
 have hval : ∀ (j : Nat) t v, Tryz.f6.params[j]? = some t → args[j]? = some v → Value.okWide Tryz.prog W .any base t v := hval0
 have hW' := hW
 obtain ⟨p, q, hA0, hV, rfl, hfz, hnd⟩ := hW
 have hA : DataW.TrodAll enc Tryz.prog W 0 (fun _ => true) true Tryz.f6.params.toList args.toList ds p := hA0
 rw [Tryz.params6] at hA hval
 obtain ⟨v0, vs0, d0, ds0, p0, q0, hargs, rfl, rfl, h0, r0⟩ := trodAll_cons hA
 obtain ⟨v1, vs1, d1, ds1, p1, q1, rfl, rfl, rfl, h1, r1⟩ := trodAll_cons r0
 obtain ⟨rfl, rfl, rfl⟩ := trodAll_nil r1
 obtain rfl : args = #[v0, v1] := by cases args; simp_all
 obtain ⟨rfl, rfl⟩ := trodVars_none hV
 have k0 := h0
 have k1 := h1
 obtain ⟨n0, x0, ai0, ci0, an0, cn0, ak0, ck0, am0, cm0, rfl, w0, g0⟩ := open_expr (hval 0 30 v0 rfl rfl) h0
 obtain ⟨b1, rfl, rfl, rfl, w1⟩ := open_int Tryz.underlying3 (hval 1 3 v1 rfl rfl) h1
 clear hA0 hval0
 refine (evalShort_v n0 x0 ai0 ci0 an0 cn0 ak0 ck0 am0 cm0 b1 W w0 g0).mono fun e W' ⟨he, hg⟩ => ?_
 subst he
 have hlt := hW'.lt
 exact ⟨_, rfl, post_of_low (pv := []) hW' (fun _ _ _ => (trodAll_cons_mk (shut_bool Tryz.underlying4 _) trodAll_mk0)) (fun sp hs => (trodAll_cons_mk (WideElems.Trod_stays laidOut (by kernel_rfl) (of_decide_eq_true (by kernel_rfl)) k0 (fun x hx => hg.same (hlt x (by simp [hx]))) (fun x hx => hs x (by simp [hx]))) (trodAll_cons_mk (shut_int Tryz.underlying3 w1) trodAll_mk0))) (fun _ _ => rfl) rfl
  hg (ok_one (by kernel_rfl) rfl (okWide_bool_mk Tryz.underlying4 _))⟩
theorem over : Rows.evalShortRow.holds Tryz.pinned (OpenSpec.ofChange Rows.evalShortSpec) :=
 OpenClaim.holds_of_wide 6 Tryz.f6 rfl rfl rfl rfl rfl rfl rfl ⟨rfl, rfl, rfl, rfl, rfl⟩ rfl rfl rfl rfl rfl (by kernel_rfl) Tryz.func6 (by kernel_rfl)
  (of_decide_eq_true (by kernel_rfl)) (by unfold Func.isWrapper; first | (rw [if_pos (by decide +kernel)]; kernel_rfl) | (rw [if_neg (by decide +kernel)]; exact ⟨rfl, rfl⟩))
  (fun os started H enc _ => lifted os started H enc)
theorem proved : Rows.EvalShortSaid := over
#print axioms proved
end Go.Proofs.YtnchohglplobeaaGreat.evalShort
