/- Which types may be above which, and which actions are in which, is what the document says; both go over three. No condition but that the library's variable holds a number. -/
import Derived.Test.YtijjbfdbhfjfmaaScA
import Derived.Test.YtijjbfdbhfjfmaaGrQ
import Derived.Test.YtijjbfdbhfjfmaaScZ
namespace Go.Proofs.Ytijjbfdbhfjfmaa
open Go.RowKit
set_option linter.unusedVariables false
theorem sz_g {ts : List Et} {acs : List Ac} (h : Sized ts acs) : FewG (ts.map Et.r) ∧ FewG (acs.map Ac.r) := by
  refine ⟨⟨by have := h.t; simp; omega, fun p hp => ?_⟩, ⟨by have := h.a; simp; omega, fun p hp => ?_⟩⟩
  · obtain ⟨x, hx, rfl⟩ := List.mem_map.1 hp
    exact Nat.le_trans (h.ts x hx).2 (by omega)
  · obtain ⟨x, hx, rfl⟩ := List.mem_map.1 hp
    exact Nat.le_trans (h.as' x hx).2.1 (by omega)
theorem inB_trans {g : Gra} {a b c : Nm} (h : inB g a b = true) (k : inB g b c = true) : inB g a c = true := by
  unfold inB at *
  rw [Bool.or_eq_true, decide_eq_true_iff] at *
  rcases h with rfl | h
  · exact k
  · rcases k with rfl | k
    · exact .inr h
    · exact .inr (ways_trans h k)
theorem three {f : Nm → Nm → Bool} (ht : ∀ {a b c : Nm}, f a b = true → f b c = true → f a c = true) (a b c : Nm) : f a b = false ∨ (f a b = true ∧ f b c = false) ∨ (f a b = true ∧ f b c = true ∧ f a c = true) := by
  cases h1 : f a b with
  | false => exact .inl rfl
  | true =>
    cases h2 : f b c with
    | false => exact .inr (.inl ⟨rfl, rfl⟩)
    | true => exact .inr (.inr ⟨rfl, rfl, ht h1 h2⟩)
set_option maxRecDepth 100000 in
set_option maxHeartbeats 6400000 in
theorem schemaAbove_v (n : Nat) (ts : List Et) (acs : List Ac) (a b c : Nm) (w : World) (vt va : Value) (hx : Mx w) (h : EtsAt n w ts vt) (h2 : AcsAt n w acs va) : Calls Try.prog 5 #[.agg #[vt, va], .string a.s, .string b.s, .string c.s] w fun e w' => e = .returned (.bool true) ∧ Low w w' := by
  obtain ⟨U, hU⟩ : ∃ U, U = w.alloc (.cells #[vt, va] 25) := ⟨_, rfl⟩
  have LU := Lib.hid (show Low w U by rw [hU]; exact low_new (Low.refl w) _)
  have HB := Lib.hid fun (V : World) (hl : Low U V) => box2 (w := w) (wr := V) (c0 := vt) (c1 := va) (t := 25) (by rw [← hU]; exact hl)
  have HU := Lib.hid hU
  have HAw := Lib.hid (awake12_c U (hx.low LU.out))
  have HSz := Lib.hid fun (V : World) (hl : Low U V) => sized_c n ts acs V vt va (h.low (LU.out.trans hl)) (h2.low (LU.out.trans hl))
  have HT := Lib.hid h
  have HA := Lib.hid h2
  clear h h2 hU hx
  obtain ⟨b0, b1⟩ := HB.out U (Low.refl U)
  go_enter Try.func5, Try.ntmps5
  go_upto_region 1 with fail
  rw [← HU.out]
  go_wp2_with fail
  refine HAw.out.mono ?_
  rintro e w1 ⟨rfl, l1⟩
  have HS1 := Lib.hid (HSz.out w1 l1)
  have L1 := Lib.hid l1
  clear l1 b0 b1 HAw
  obtain ⟨b0, b1⟩ := HB.out w1 L1.out
  go_wp2_with fail
  refine HS1.out.mono ?_
  rintro e w2 ⟨q, rfl, hq, l2⟩
  have L2 := Lib.hid (L1.out.trans l2)
  clear l2 b0 b1 HS1 HSz
  obtain ⟨b0, b1⟩ := HB.out w2 L2.out
  cases q with
  | false =>
    go_wp2_with fail
    go_ret
    exact ⟨rfl, LU.out.trans L2.out⟩
  | true =>
    have HSD := Lib.hid (hq (by first | rfl | trivial))
    have hl1 : ts.length ≤ 100000 := by have := HSD.out.t; omega
    have hl2 : acs.length ≤ 100000 := by have := HSD.out.a; omega
    have HG := Lib.hid (sz_g HSD.out)
    have AB := Lib.hid fun (x y : Nm) (V : World) (hl : Low U V) => above_c n ts x y V vt va hl1 HG.out.1 (HT.out.low (LU.out.trans hl))
    have AI := Lib.hid fun (x y : Nm) (V : World) (hl : Low U V) => actin_c n acs x y V vt va hl2 HG.out.2 (HA.out.low (LU.out.trans hl))
    have RB := Lib.hid fun (x y : Nm) (V : World) (hl : Low U V) => rleads_c (ts.map Et.r) false x y V vt va HG.out.1 fun z => rnextT n ts z V vt va (HT.out.low (LU.out.trans hl))
    have RI := Lib.hid fun (x y : Nm) (V : World) (hl : Low U V) => ractin_c n acs x y V vt va HG.out.2 (HA.out.low (LU.out.trans hl))
    obtain ⟨f, hf⟩ : ∃ f, f = ways (ts.map Et.r) := ⟨_, rfl⟩
    obtain ⟨g, hg⟩ : ∃ g, g = inB (acs.map Ac.r) := ⟨_, rfl⟩
    rw [← hf] at AB RB
    rw [← hg] at AI RI
    have HD := Lib.hid (three (f := f) (fun h k => by rw [hf] at *; exact ways_trans h k) a b c)
    have HE := Lib.hid (three (f := g) (fun h k => by rw [hg] at *; exact inB_trans h k) a b c)
    clear hf hg hq
    obtain ⟨f1, hf1⟩ : ∃ q, q = f a b := ⟨_, rfl⟩
    obtain ⟨g1, hg1⟩ : ∃ q, q = g a b := ⟨_, rfl⟩
    obtain ⟨f2, hf2⟩ : ∃ q, q = f b c := ⟨_, rfl⟩
    obtain ⟨g2, hg2⟩ : ∃ q, q = g b c := ⟨_, rfl⟩
    obtain ⟨f3, hf3⟩ : ∃ q, q = f a c := ⟨_, rfl⟩
    obtain ⟨g3, hg3⟩ : ∃ q, q = g a c := ⟨_, rfl⟩
    have A1 := Lib.hid (AB.out a b)
    have A2 := Lib.hid (AB.out b c)
    have A3 := Lib.hid (AB.out a c)
    have B1 := Lib.hid (AI.out a b)
    have B2 := Lib.hid (AI.out b c)
    have B3 := Lib.hid (AI.out a c)
    rw [← hf1] at A1
    rw [← hf2] at A2
    rw [← hf3] at A3
    rw [← hg1] at B1
    rw [← hg2] at B2
    rw [← hg3] at B3
    rw [← hf1, ← hf2, ← hf3] at HD
    rw [← hg1, ← hg2, ← hg3] at HE
    have C1 := Lib.hid fun q : InL w2 => Calls.low q (AB.out a b q.w (L2.out.trans q.ok))
    have C2 := Lib.hid fun q : InL w2 => Calls.low q (RB.out a b q.w (L2.out.trans q.ok))
    have C3 := Lib.hid fun q : InL w2 => Calls.low q (AI.out a b q.w (L2.out.trans q.ok))
    have C4 := Lib.hid fun q : InL w2 => Calls.low q (RI.out a b q.w (L2.out.trans q.ok))
    rw [← hf1] at C1 C2
    rw [← hg1] at C3 C4
    go_wp2_with fail
    have b0 := fun q : InL w2 => q.cell b0
    have b1 := fun q : InL w2 => q.cell b1
    haveI := InL.some w2
    have ff : (f1 != f1) = false := by cases f1 <;> rfl
    have gg : (g1 != g1) = false := by cases g1 <;> rfl
    refine wp_region_low mixedT (by kernel_rfl) ?_
    repeat (go_big_quiet_step (first | (with_reducible exact C1.out _) | (with_reducible exact C2.out _) | (with_reducible exact C3.out _) | (with_reducible exact C4.out _)))
    refine wpQuiet_nil ?_
    rintro W8 ⟨p8, hW8⟩
    have LL := Lib.hid (show Low U W8 by rw [hW8]; exact L2.out.trans p8.ok)
    clear hW8 p8 b0 b1 this C1 C2 C3 C4
    obtain ⟨b0, b1⟩ := HB.out W8 LL.out
    clear hf1 hf2 hf3 hg1 hg2 hg3 AB AI RB RI ff gg HG hl1 hl2 HSD HT HA
    rcases HD.out with rfl | ⟨rfl, rfl⟩ | ⟨rfl, rfl, rfl⟩ <;> rcases HE.out with rfl | ⟨rfl, rfl⟩ | ⟨rfl, rfl, rfl⟩ <;>
    (clear HD HE
     go_wp2_with (first
      | (go_at_call 17; (first | with_reducible refine (A1.out _ LL.out).mono ?_ | with_reducible refine (A2.out _ LL.out).mono ?_ | with_reducible refine (A3.out _ LL.out).mono ?_); rintro e w9 ⟨rfl, l9⟩; replace LL := Lib.hid (LL.out.trans l9); clear l9 b0 b1; obtain ⟨b0, b1⟩ := HB.out w9 LL.out)
      | (go_at_call 19; (first | with_reducible refine (B1.out _ LL.out).mono ?_ | with_reducible refine (B2.out _ LL.out).mono ?_ | with_reducible refine (B3.out _ LL.out).mono ?_); rintro e w9 ⟨rfl, l9⟩; replace LL := Lib.hid (LL.out.trans l9); clear l9 b0 b1; obtain ⟨b0, b1⟩ := HB.out w9 LL.out))
     go_ret
     exact ⟨rfl, LU.out.trans LL.out⟩)
end Go.Proofs.Ytijjbfdbhfjfmaa
