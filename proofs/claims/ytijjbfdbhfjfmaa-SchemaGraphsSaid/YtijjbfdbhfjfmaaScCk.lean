/- Any schema may be just where the document says. Conditions: the library's variable holds a number; names shorter than the library's bound. -/
import Derived.Test.YtijjbfdbhfjfmaaScX
import Derived.Test.YtijjbfdbhfjfmaaScY
namespace Go.Proofs.Ytijjbfdbhfjfmaa
open Go.RowKit
set_option linter.unusedVariables false
theorem ras_re {n : Nat} {w : World} {l : List At} {v : Value} (hs : Sm 61 (recT l)) (h : RAs (fun _ => True) w n l v) : RAs (fun _ => True) w 60 l v :=
  (rt_succ.1 (RT.re (m := 61) hs.dp (rec_rt h))).2.2
theorem RowB.imp {α β : Type} {w : World} {sz : Nat} {enc : α → β → List Value} {R R' : World → α → β → Prop} {l : List α} {it : Value} (h : RowB w sz enc R l it) (hR : ∀ x ∈ l, ∀ e, R w x e → R' w x e) : RowB w sz enc R' l it := by
  obtain ⟨p, cap, rfl, hc, hx⟩ := h
  refine ⟨p, cap, rfl, hc, fun j hj => ?_⟩
  obtain ⟨b, o, e, rfl, h1, h2⟩ := hx j hj
  exact ⟨b, o, e, rfl, h1, hR _ (List.getElem_mem hj) _ h2⟩
theorem ets_re {n : Nat} {w : World} {ts : List Et} {acs : List Ac} {v : Value} (hs : Sized ts acs) (h : EtsAt n w ts v) : EtsAt 60 w ts v := RowB.imp h fun x hx e he => ⟨he.1, ras_re (hs.ts x hx).1 he.2⟩
theorem acs_re {n : Nat} {w : World} {ts : List Et} {acs : List Ac} {v : Value} (hs : Sized ts acs) (h : AcsAt n w acs v) : AcsAt 60 w acs v := RowB.imp h fun x hx e he => ⟨he.1, he.2.1, he.2.2.1, ras_re (hs.as' x hx).1 he.2.2.2⟩
set_option maxRecDepth 100000 in
set_option maxHeartbeats 6400000 in
theorem schemaChecks_v (n : Nat) (ts : List Et) (acs : List Ac) (w : World) (vt va : Value) (hx : Mx w) (hnm : ∀ t ∈ ts, t.nm.s.size < 4294967281) (h : EtsAt n w ts vt) (h2 : AcsAt n w acs va) : Calls Try.prog 3 #[.agg #[vt, va]] w fun e w' => e = .returned (.bool true) ∧ Low w w' := by
  obtain ⟨U, hU⟩ : ∃ U, U = w.alloc (.cells #[vt, va] 25) := ⟨_, rfl⟩
  have LU := Lib.hid (show Low w U by rw [hU]; exact low_new (Low.refl w) _)
  have HB := Lib.hid fun (V : World) (hl : Low U V) => box2 (w := w) (wr := V) (c0 := vt) (c1 := va) (t := 25) (by rw [← hU]; exact hl)
  have HU := Lib.hid hU
  have HAw := Lib.hid (awake12_c U (hx.low LU.out))
  have HSz := Lib.hid fun (V : World) (hl : Low U V) => sized_c n ts acs V vt va (h.low (LU.out.trans hl)) (h2.low (LU.out.trans hl))
  have HT := Lib.hid h
  have HA := Lib.hid h2
  have HX := Lib.hid hx
  have HN := Lib.hid hnm
  clear h h2 hU hx hnm
  obtain ⟨b0, b1⟩ := HB.out U (Low.refl U)
  go_enter Try.func3, Try.ntmps3
  go_upto_region 1 with fail
  rw [← HU.out]
  go_wp2_with fail
  refine HAw.out.mono ?_
  rintro e w1 ⟨rfl, l1⟩
  have HS1 := Lib.hid (HSz.out w1 l1)
  have L1 := Lib.hid l1
  clear l1 b0 b1 HAw
  obtain ⟨b0, b1⟩ := HB.out w1 L1.out
  go_wp2_with fail
  refine HS1.out.mono ?_
  rintro e w2 ⟨q, rfl, hq, l2⟩
  have L2 := Lib.hid (L1.out.trans l2)
  clear l2 b0 b1 HS1 HSz
  obtain ⟨b0, b1⟩ := HB.out w2 L2.out
  cases q with
  | false =>
    go_wp2_with fail
    go_ret
    exact ⟨rfl, LU.out.trans L2.out⟩
  | true =>
    have HSD := Lib.hid (hq (by first | rfl | trivial))
    have HG := Lib.hid (sz_g HSD.out)
    obtain ⟨R, hR⟩ : ∃ R, R = chkS 60 ts acs := ⟨_, rfl⟩
    have C1 := Lib.hid fun q : InL w2 => Calls.low q (check12_c 60 ts acs q.w vt va (HX.out.low (LU.out.trans (L2.out.trans q.ok))) HN.out (fun t ht => (HSD.out.ts t ht).1) (fun t ht => (HSD.out.as' t ht).1) HG.out.1 HG.out.2 ((ets_re HSD.out HT.out).low (LU.out.trans (L2.out.trans q.ok))) ((acs_re HSD.out HA.out).low (LU.out.trans (L2.out.trans q.ok))))
    have C2 := Lib.hid fun q : InL w2 => Calls.low q (rcheck12_c 60 (by omega) ts acs q.w vt va HN.out HG.out.2 ((ets_re HSD.out HT.out).low (LU.out.trans (L2.out.trans q.ok))) ((acs_re HSD.out HA.out).low (LU.out.trans (L2.out.trans q.ok))))
    rw [← hR] at C1 C2
    clear hR hq
    go_wp2_with fail
    have b0 := fun q : InL w2 => q.cell b0
    have b1 := fun q : InL w2 => q.cell b1
    haveI := InL.some w2
    have rr : (R == R) = true := by simp
    refine wp_region_low mixedT (by kernel_rfl) ?_
    repeat (go_big_quiet_step (first | (with_reducible exact C1.out _) | (with_reducible exact C2.out _)))
    refine wpQuiet_nil ?_
    rintro W8 ⟨p8, hW8⟩
    have LL := Lib.hid (show Low U W8 by rw [hW8]; exact L2.out.trans p8.ok)
    clear hW8 p8 b0 b1 this C1 C2
    go_wp2_with fail
    go_ret
    exact ⟨rfl, LU.out.trans LL.out⟩
end Go.Proofs.Ytijjbfdbhfjfmaa
