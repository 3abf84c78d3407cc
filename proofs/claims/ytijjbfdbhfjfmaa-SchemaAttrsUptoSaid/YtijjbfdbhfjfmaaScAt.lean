/- A schema of one type and one action with any attributes may be just where the document says. Conditions: the library's variable holds a number; the name is shorter than the library's bound. -/
import Derived.Test.YtijjbfdbhfjfmaaScCk
import Derived.Test.YtijjbfdbhfjfmaaScO
namespace Go.Proofs.Ytijjbfdbhfjfmaa
open Go.RowKit
set_option linter.unusedVariables false
def atT (name : Nm) (a : List At) : List Et := [⟨name, [], a⟩, ⟨nmU, [], []⟩]
def atA (name : Nm) (b : List At) : List Ac := [⟨nmV, [], [nmU], [name], b⟩]
theorem ets_at {n : Nat} {W : World} {name : Nm} {a : List At} {v : Value} {C : Array Value} {t : TypeId} (h : RAs (fun _ => True) W n a v) (hC : C = #[.string name.s, .slice none 0 0, v, .string nmU.s, .slice none 0 0, .slice none 0 0]) : EtsAt n (W.alloc (.cells C t)) (atT name a) (.slice (some ⟨W.heap.size, 0, none⟩) 2 2) :=
  RowB.alloc (enc := encEt) (R := EtOk n) [(⟨name, [], a⟩, (.slice none 0 0, v)), (⟨nmU, [], []⟩, (.slice none 0 0, .slice none 0 0))] (fun _ _ => rfl) hC (by simp) fun p hp => by
    have l := low_new (Low.refl W) (.cells C t)
    simp at hp
    rcases hp with rfl | rfl
    · exact ⟨NsAt.nil _, RAs.low h l⟩
    · exact ⟨NsAt.nil _, RAs.nil _ _ _⟩
theorem acs_at {n : Nat} {W : World} {name : Nm} {b : List At} {v v2 v3 : Value} {C : Array Value} {t : TypeId} (h : RAs (fun _ => True) W n b v) (h2 : NsAt W [nmU] v2) (h3 : NsAt W [name] v3) (hC : C = #[.string nmV.s, .slice none 0 0, v2, v3, v]) : AcsAt n (W.alloc (.cells C t)) (atA name b) (.slice (some ⟨W.heap.size, 0, none⟩) 1 1) :=
  RowB.alloc (enc := encAc) (R := AcOk n) [(⟨nmV, [], [nmU], [name], b⟩, ((.slice none 0 0, v2), v3, v))] (fun _ _ => rfl) hC (by simp) fun p hp => by
    have l := low_new (Low.refl W) (.cells C t)
    simp at hp
    rcases hp with rfl
    exact ⟨NsAt.nil _, h2.low l, h3.low l, RAs.low h l⟩
set_option maxRecDepth 100000 in
set_option maxHeartbeats 6400000 in
theorem schemaAttrs_v (n m : Nat) (a b : List At) (name : Nm) (w : World) (e1 e2 : Value) (hx : Mx w) (hnm : name.s.size < 4294967281) (h : RAs (fun _ => True) w n a e1) (h2 : RAs (fun _ => True) w m b e2) : Calls Try.prog 7 #[e1, e2, .string name.s] w fun e w' => e = .returned (.bool true) ∧ Low w w' := by
  obtain ⟨pa, ca, rfl, z1, z2⟩ := RowR.sl h
  obtain ⟨pb, cb, rfl, z3, z4⟩ := RowR.sl h2
  have HAw := Lib.hid (awake12_c w hx)
  have H1 := Lib.hid (RAs.mono h (Nat.le_add_right n m))
  have H2 := Lib.hid (RAs.mono h2 (Nat.le_add_left m n))
  have HX := Lib.hid hx
  have HN := Lib.hid hnm
  clear h h2 hx hnm
  go_enter Try.func7, Try.ntmps7
  go_wp2_with fail
  refine HAw.out.mono ?_
  rintro e w1 ⟨rfl, l1⟩
  have L1 := Lib.hid l1
  clear l1 HAw
  obtain ⟨A0, hA0⟩ : ∃ A, A = w1.alloc (.cells #[.string name.s, .slice none 0 0, .slice pa a.length ca, .string ⟨#[85, 115, 101, 114]⟩, .slice none 0 0, .slice none 0 0] 33) := ⟨_, rfl⟩
  have s0 : A0.heap.size = w1.heap.size + 1 := by rw [hA0]; simp
  have l0 : Low w1 A0 := by rw [hA0]; exact low_new (Low.refl _) _
  obtain ⟨A1, hA1⟩ : ∃ A, A = A0.alloc (.cells #[.string ⟨#[85, 115, 101, 114]⟩] 9) := ⟨_, rfl⟩
  have s1 : A1.heap.size = w1.heap.size + 1 + 1 := by rw [hA1]; simp [s0]
  have l1 : Low A0 A1 := by rw [hA1]; exact low_new (Low.refl _) _
  obtain ⟨A2, hA2⟩ : ∃ A, A = A1.alloc (.cells #[.string name.s] 9) := ⟨_, rfl⟩
  have s2 : A2.heap.size = w1.heap.size + 1 + 1 + 1 := by rw [hA2]; simp [s1]
  have l2 : Low A1 A2 := by rw [hA2]; exact low_new (Low.refl _) _
  obtain ⟨A3, hA3⟩ : ∃ A, A = A2.alloc (.cells #[.string ⟨#[118]⟩, .slice none 0 0, .slice (some ⟨w1.heap.size + 1, 0, none⟩) 1 1, .slice (some ⟨w1.heap.size + 1 + 1, 0, none⟩) 1 1, .slice pb b.length cb] 37) := ⟨_, rfl⟩
  have s3 : A3.heap.size = w1.heap.size + 1 + 1 + 1 + 1 := by rw [hA3]; simp [s2]
  have l3 : Low A2 A3 := by rw [hA3]; exact low_new (Low.refl _) _
  obtain ⟨A4, hA4⟩ : ∃ A, A = A3.alloc (.cells #[.slice (some ⟨w1.heap.size, 0, none⟩) 2 2, .slice (some ⟨w1.heap.size + 1 + 1 + 1, 0, none⟩) 1 1] 25) := ⟨_, rfl⟩
  have s4 : A4.heap.size = w1.heap.size + 1 + 1 + 1 + 1 + 1 := by rw [hA4]; simp [s3]
  have l4 : Low A3 A4 := by rw [hA4]; exact low_new (Low.refl _) _
  have t0 : EtsAt (n + m) A0 (atT name a) (.slice (some ⟨w1.heap.size, 0, none⟩) 2 2) := by rw [hA0]; exact ets_at (RAs.low H1.out L1.out) rfl
  have n1 : NsAt A1 [nmU] (.slice (some ⟨w1.heap.size + 1, 0, none⟩) 1 1) := by rw [hA1, ← s0]; exact ns_alloc [nmU] rfl (by decide)
  have n2 : NsAt A2 [name] (.slice (some ⟨w1.heap.size + 1 + 1, 0, none⟩) 1 1) := by rw [hA2, ← s1]; exact ns_alloc [name] rfl (by simp)
  have t3 : AcsAt (n + m) A3 (atA name b) (.slice (some ⟨w1.heap.size + 1 + 1 + 1, 0, none⟩) 1 1) := by rw [hA3, ← s2]; exact acs_at (RAs.low H2.out (((L1.out.trans l0).trans l1).trans l2)) (n1.low l2) n2 rfl
  have LW := Lib.hid (show Low w A4 from ((((L1.out.trans l0).trans l1).trans l2).trans l3).trans l4)
  have HT := Lib.hid (show EtsAt (n + m) A4 (atT name a) (.slice (some ⟨w1.heap.size, 0, none⟩) 2 2) from (((t0.low l1).low l2).low l3).low l4)
  have HA := Lib.hid (show AcsAt (n + m) A4 (atA name b) (.slice (some ⟨w1.heap.size + 1 + 1 + 1, 0, none⟩) 1 1) from t3.low l4)
  have HB0 := Lib.hid (show A4.cell? ⟨w1.heap.size + 1 + 1 + 1 + 1, 0, none⟩ = some (.slice (some ⟨w1.heap.size, 0, none⟩) 2 2) ∧ A4.cell? ⟨w1.heap.size + 1 + 1 + 1 + 1, 1, none⟩ = some (.slice (some ⟨w1.heap.size + 1 + 1 + 1, 0, none⟩) 1 1) by rw [hA4, ← s3]; exact ⟨by rw [World.cell?_alloc_mark]; rfl, by rw [World.cell?_alloc_mark]; rfl⟩)
  rw [hA3, hA2, hA1, hA0] at hA4
  have HW := Lib.hid hA4
  clear hA4 t0 n1 n2 t3 hA0 hA1 hA2 hA3 s0 s1 s2 s3 s4 l0 l1 l2 l3 l4
  go_upto_region 5 with fail
  rw [← HW.out]
  obtain ⟨U, hUU⟩ : ∃ W, W = A4 := ⟨_, rfl⟩
  rw [← hUU]
  rw [← hUU] at HB0 HT HA LW
  clear HW hUU H1 H2 L1
  have HB := Lib.hid fun (V : World) (hl : Low U V) => (show V.cell? ⟨w1.heap.size + 1 + 1 + 1 + 1, 0, none⟩ = some (.slice (some ⟨w1.heap.size, 0, none⟩) 2 2) ∧ V.cell? ⟨w1.heap.size + 1 + 1 + 1 + 1, 1, none⟩ = some (.slice (some ⟨w1.heap.size + 1 + 1 + 1, 0, none⟩) 1 1) from ⟨hl.keep HB0.out.1, hl.keep HB0.out.2⟩)
  have HSz := Lib.hid (sized_c (n + m) (atT name a) (atA name b) U _ _ HT.out HA.out)
  have HNN := Lib.hid (show ∀ t ∈ atT name a, t.nm.s.size < 4294967281 from fun t ht => by
    simp [atT] at ht
    rcases ht with rfl | rfl
    · exact HN.out
    · decide)
  obtain ⟨ts, hts⟩ : ∃ ts, ts = atT name a := ⟨_, rfl⟩
  obtain ⟨acs, hacs⟩ : ∃ acs, acs = atA name b := ⟨_, rfl⟩
  rw [← hts] at HT HSz HNN
  rw [← hacs] at HA HSz
  clear hts hacs
  obtain ⟨b0, b1⟩ := HB0.out
  clear HB0
  go_wp2_with fail
  refine HSz.out.mono ?_
  rintro e w2 ⟨q, rfl, hq, l2⟩
  have L2 := Lib.hid l2
  clear l2 b0 b1 HSz
  obtain ⟨b0, b1⟩ := HB.out w2 L2.out
  cases q with
  | false =>
    go_wp2_with fail
    go_ret
    exact ⟨rfl, LW.out.trans L2.out⟩
  | true =>
    have HSD := Lib.hid (hq (by first | rfl | trivial))
    have HG := Lib.hid (sz_g HSD.out)
    obtain ⟨R, hR⟩ : ∃ R, R = chkS 60 ts acs := ⟨_, rfl⟩
    have C1 := Lib.hid fun q : InL w2 => Calls.low q (check12_c 60 ts acs q.w _ _ (HX.out.low (LW.out.trans (L2.out.trans q.ok))) HNN.out (fun t ht => (HSD.out.ts t ht).1) (fun t ht => (HSD.out.as' t ht).1) HG.out.1 HG.out.2 ((ets_re HSD.out HT.out).low (L2.out.trans q.ok)) ((acs_re HSD.out HA.out).low (L2.out.trans q.ok)))
    have C2 := Lib.hid fun q : InL w2 => Calls.low q (rcheck12_c 60 (by omega) ts acs q.w _ _ HNN.out HG.out.2 ((ets_re HSD.out HT.out).low (L2.out.trans q.ok)) ((acs_re HSD.out HA.out).low (L2.out.trans q.ok)))
    rw [← hR] at C1 C2
    clear hR hq
    go_wp2_with fail
    have b0 := fun q : InL w2 => q.cell b0
    have b1 := fun q : InL w2 => q.cell b1
    haveI := InL.some w2
    have rr : (R == R) = true := by simp
    refine wp_region_low mixedT (by kernel_rfl) ?_
    repeat (go_big_quiet_step (first | (with_reducible exact C1.out _) | (with_reducible exact C2.out _)))
    refine wpQuiet_nil ?_
    rintro W8 ⟨p8, hW8⟩
    have LL := Lib.hid (show Low U W8 by rw [hW8]; exact L2.out.trans p8.ok)
    clear hW8 p8 b0 b1 this C1 C2
    go_wp2_with fail
    go_ret
    exact ⟨rfl, LW.out.trans LL.out⟩
end Go.Proofs.Ytijjbfdbhfjfmaa
