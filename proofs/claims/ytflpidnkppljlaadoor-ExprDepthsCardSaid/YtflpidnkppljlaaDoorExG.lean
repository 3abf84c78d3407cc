/- Slots; truths, entities' names and variables. Condition: the words are no more than 70000, and no name is longer than that. Truths, entities' names and variables. Condition: the words are no more than 70000, and no name is longer than that. -/
import Derived.Test.YtflpidnkppljlaaDoorExpRow
import Derived.Test.YtflpidnkppljlaaDoorExU
set_option linter.unusedVariables false
set_option linter.unnecessarySimpa false
set_option linter.unusedSimpArgs false
namespace Go.Proofs.YtflpidnkppljlaaDoor
open Go.RowKit
section
variable {b : Nat} {ao : Option Addr} {cap : Nat} {l : List Wd}
theorem leaf_ok {w w' : World} {x : Ex} (hx : x.ks = [] ∧ x.ns = []) : XAt (Nw w.heap.size) w' x pl0 := by
  obtain ⟨op, v, nm, ks, ns⟩ := x
  obtain ⟨h1, h2⟩ := hx
  simp only [Ex.ks, Ex.ns] at h1 h2
  subst h1 h2
  exact xAt_leaf _ _ _ _ _
def slotR (l : List Wd) (a : Int) : Rd Ex := if (wdA l a).t = kPrin ∨ (wdA l a).t = kRes then .ok (.mk 3 li0 (wdA l a).t [] []) (a + 1) else badF l a
set_option maxHeartbeats 3200000 in
theorem slot_c8 (hl : l.length ≤ 70000) {d : Int} {n : Nat} (w : World) (h : St b ao cap l d (.ok () (n : Int)) w) (hk : (wdA l (n : Int)).k = 4) :
    Calls Tryd.prog 84 #[.pointer (some ⟨b, 0, none⟩)] w (RuleP b ao cap l d (slotR l (n : Int)) w) := by
  have H := Lib.hid h
  have HBW := Lib.hid (st_lt h)
  obtain ⟨x, hx⟩ : ∃ x, wdA l (n : Int) = x := ⟨_, rfl⟩
  have HX := Lib.hid (show wdK l (.ok () (n : Int)) 0 = x by rw [wdK_zero]; exact hx)
  have HR0 : slotR l (n : Int) = if x.t = kPrin ∨ x.t = kRes then .ok (.mk 3 li0 x.t [] []) ((n : Int) + 1) else .bad 10 x.a := by unfold slotR badF; rw [hx]
  have HT0 : textW l 4 (n : Int) = .ok x.t ((n : Int) + 1) := by unfold textW; rw [hk, if_pos rfl, hx]
  rw [hx] at hk
  obtain ⟨xk, xt, xn, xa⟩ := x
  simp only at hk HR0 HT0
  subst hk
  clear h hx
  by_cases h1 : xt = kPrin
  · subst h1
    have HR := Lib.hid (show slotR l (n : Int) = .ok (.mk 3 li0 kPrin [] []) ((n : Int) + 1) by rw [HR0, if_pos (.inl rfl)])
    have HTX := Lib.hid (show (Rd.ok () (n : Int)).then (fun _ a => textW l 4 a) = .ok kPrin ((n : Int) + 1) from HT0)
    clear HR0 HT0
    go_enter Tryd.func84, Tryd.ntmps84
    go_wp2_with fail
    refine (word_c hl _ (H.out.new _)).mono ?_
    rintro e w1 ⟨rfl, l1⟩
    rw [HX.out]
    have L1 := Lib.hid (show Lx b (w.alloc (.cells #[.int .i64 0, .int .i64 0, .bool false, .int .i64 0, .string ⟨#[]⟩, .string ⟨#[]⟩, .string ⟨#[]⟩, .slice none 0 0, .slice none 0 0, .string ⟨#[]⟩, .slice none 0 0, .slice none 0 0] 30)) w1 from Lx.of_low l1)
    have S1 := Lib.hid ((H.out.new (.cells #[.int .i64 0, .int .i64 0, .bool false, .int .i64 0, .string ⟨#[]⟩, .string ⟨#[]⟩, .string ⟨#[]⟩, .slice none 0 0, .slice none 0 0, .string ⟨#[]⟩, .slice none 0 0, .slice none 0 0] 30)).low l1)
    clear l1
    unfold wv
    go_wp2_with fail
    refine (text_c hl 4 (by decide) _ (S1.out.new _)).mono ?_
    rintro e w3 ⟨rfl, s3, l3⟩
    have S3 := Lib.hid s3
    have L3 := Lib.hid ((L1.out.alloc _).trans l3)
    clear s3 l3
    obtain ⟨⟨c0, c1, c2, c3, c4, c5, c6, c7, c8, c9, c10, c11⟩, fz⟩ := box12 L3.out HBW.out
    generalize hT : Rd.getL _ = T
    go_wp2_with fail
    obtain ⟨E0, E1, E2, E3, E4, E5, E6, E7, E8, E9, E10, E11⟩ := put12 c0 c1 c2 c3 c4 c5 c6 c7 c8 c9 c10 c11
    refine bodyPost_ret (v := .agg #[.int .i64 3, .int .i64 0, .bool false, .int .i64 0, .string ⟨#[]⟩, .string ⟨#[]⟩, .string ⟨#[]⟩, .slice none 0 0, .slice none 0 0, .string ⟨(T).toArray⟩, .slice none 0 0, .slice none 0 0]) (by simp [results, Tryd.results84, go_sem, E0, E1, E2, E3, E4, E5, E6, E7, E8, E9, E10, E11]) rfl ?_
    exact ⟨.mk 3 li0 T [] [], pl0, rfl, xAt_leaf _ _ _ _ _, by rw [HR.out]; exact tow_st (by have hs := S3.out; first | (rw [HTX.out] at hs; exact hs) | exact hs) HBW.out, tow_lx (((Lx.refl b w).alloc _).trans L3.out), fun y m h => by rw [HR.out] at h; injection h with h; rw [← h, ← hT, HTX.out]; rfl⟩
  by_cases h2 : xt = kRes
  · subst h2
    have HR := Lib.hid (show slotR l (n : Int) = .ok (.mk 3 li0 kRes [] []) ((n : Int) + 1) by rw [HR0, if_pos (.inr rfl)])
    have HTX := Lib.hid (show (Rd.ok () (n : Int)).then (fun _ a => textW l 4 a) = .ok kRes ((n : Int) + 1) from HT0)
    clear HR0 HT0 h1
    go_enter Tryd.func84, Tryd.ntmps84
    go_wp2_with fail
    refine (word_c hl _ (H.out.new _)).mono ?_
    rintro e w1 ⟨rfl, l1⟩
    rw [HX.out]
    have L1 := Lib.hid (show Lx b (w.alloc (.cells #[.int .i64 0, .int .i64 0, .bool false, .int .i64 0, .string ⟨#[]⟩, .string ⟨#[]⟩, .string ⟨#[]⟩, .slice none 0 0, .slice none 0 0, .string ⟨#[]⟩, .slice none 0 0, .slice none 0 0] 30)) w1 from Lx.of_low l1)
    have S1 := Lib.hid ((H.out.new (.cells #[.int .i64 0, .int .i64 0, .bool false, .int .i64 0, .string ⟨#[]⟩, .string ⟨#[]⟩, .string ⟨#[]⟩, .slice none 0 0, .slice none 0 0, .string ⟨#[]⟩, .slice none 0 0, .slice none 0 0] 30)).low l1)
    clear l1
    unfold wv
    go_wp2_with fail
    refine (text_c hl 4 (by decide) _ (S1.out.new _)).mono ?_
    rintro e w3 ⟨rfl, s3, l3⟩
    have S3 := Lib.hid s3
    have L3 := Lib.hid ((L1.out.alloc _).trans l3)
    clear s3 l3
    obtain ⟨⟨c0, c1, c2, c3, c4, c5, c6, c7, c8, c9, c10, c11⟩, fz⟩ := box12 L3.out HBW.out
    generalize hT : Rd.getL _ = T
    go_wp2_with fail
    obtain ⟨E0, E1, E2, E3, E4, E5, E6, E7, E8, E9, E10, E11⟩ := put12 c0 c1 c2 c3 c4 c5 c6 c7 c8 c9 c10 c11
    refine bodyPost_ret (v := .agg #[.int .i64 3, .int .i64 0, .bool false, .int .i64 0, .string ⟨#[]⟩, .string ⟨#[]⟩, .string ⟨#[]⟩, .slice none 0 0, .slice none 0 0, .string ⟨(T).toArray⟩, .slice none 0 0, .slice none 0 0]) (by simp [results, Tryd.results84, go_sem, E0, E1, E2, E3, E4, E5, E6, E7, E8, E9, E10, E11]) rfl ?_
    exact ⟨.mk 3 li0 T [] [], pl0, rfl, xAt_leaf _ _ _ _ _, by rw [HR.out]; exact tow_st (by have hs := S3.out; first | (rw [HTX.out] at hs; exact hs) | exact hs) HBW.out, tow_lx (((Lx.refl b w).alloc _).trans L3.out), fun y m h => by rw [HR.out] at h; injection h with h; rw [← h, ← hT, HTX.out]; rfl⟩
  · have HR := Lib.hid (show slotR l (n : Int) = .bad 10 xa by rw [HR0, if_neg (by rintro (h | h); exact h1 h; exact h2 h)])
    have HTX := Lib.hid (show True from trivial)
    have z1 : (xt == [112, 114, 105, 110, 99, 105, 112, 97, 108]) = false := by simpa using h1
    have z2 : (xt == [114, 101, 115, 111, 117, 114, 99, 101]) = false := by simpa using h2
    clear HR0 HT0 h1 h2
    go_enter Tryd.func84, Tryd.ntmps84
    go_wp2_with fail
    refine (word_c hl _ (H.out.new _)).mono ?_
    rintro e w1 ⟨rfl, l1⟩
    rw [HX.out]
    have L1 := Lib.hid (show Lx b (w.alloc (.cells #[.int .i64 0, .int .i64 0, .bool false, .int .i64 0, .string ⟨#[]⟩, .string ⟨#[]⟩, .string ⟨#[]⟩, .slice none 0 0, .slice none 0 0, .string ⟨#[]⟩, .slice none 0 0, .slice none 0 0] 30)) w1 from Lx.of_low l1)
    have S1 := Lib.hid ((H.out.new (.cells #[.int .i64 0, .int .i64 0, .bool false, .int .i64 0, .string ⟨#[]⟩, .string ⟨#[]⟩, .string ⟨#[]⟩, .slice none 0 0, .slice none 0 0, .string ⟨#[]⟩, .slice none 0 0, .slice none 0 0] 30)).low l1)
    clear l1
    unfold wv
    have FC := Lib.hid fun X => fail_c 10 (by decide) ⟨4, xt, xn, xa⟩ _ (S1.out.new X)
    unfold wv at FC
    go_wp2_with fail
    refine (FC.out _).mono ?_
    rintro e w2 ⟨rfl, s2, l2⟩
    have S2 := Lib.hid s2
    have L2 := Lib.hid ((L1.out.alloc _).trans l2)
    clear s2 l2 FC
    go_wp2_with fail
    refine (text_c hl 4 (by decide) _ S2.out).mono ?_
    rintro e w3 ⟨rfl, s3, l3⟩
    have S3 := Lib.hid s3
    have L3 := Lib.hid (L2.out.trans l3)
    clear s3 l3
    obtain ⟨⟨c0, c1, c2, c3, c4, c5, c6, c7, c8, c9, c10, c11⟩, fz⟩ := box12 L3.out HBW.out
    generalize hT : Rd.getL _ = T
    go_wp2_with fail
    obtain ⟨E0, E1, E2, E3, E4, E5, E6, E7, E8, E9, E10, E11⟩ := put12 c0 c1 c2 c3 c4 c5 c6 c7 c8 c9 c10 c11
    refine bodyPost_ret (v := .agg #[.int .i64 3, .int .i64 0, .bool false, .int .i64 0, .string ⟨#[]⟩, .string ⟨#[]⟩, .string ⟨#[]⟩, .slice none 0 0, .slice none 0 0, .string ⟨(T).toArray⟩, .slice none 0 0, .slice none 0 0]) (by simp [results, Tryd.results84, go_sem, E0, E1, E2, E3, E4, E5, E6, E7, E8, E9, E10, E11]) rfl ?_
    exact ⟨.mk 3 li0 T [] [], pl0, rfl, xAt_leaf _ _ _ _ _, by rw [HR.out]; exact tow_st (by have hs := S3.out; first | (rw [HTX.out] at hs; exact hs) | exact hs) HBW.out, tow_lx (((Lx.refl b w).alloc _).trans L3.out), fun y m h => by rw [HR.out] at h; cases h⟩
end
end Go.Proofs.YtflpidnkppljlaaDoor
namespace Go.Proofs.YtflpidnkppljlaaDoor
open Go.RowKit
section
variable {b : Nat} {ao : Option Addr} {cap : Nat} {l : List Wd}
/-- A word's box stays as it is. -/
theorem word_box {w1 w2 : World} {x0 x1 x2 x3 : Value} {t : TypeId} (h : Low (w1.alloc (.cells #[x0, x1, x2, x3] t)) w2) {w3 : World} (k : Low w2 w3) : w3.cell? ⟨w1.heap.size, 0, none⟩ = some x0 ∧ w3.cell? ⟨w1.heap.size, 1, none⟩ = some x1 ∧ w3.cell? ⟨w1.heap.size, 2, none⟩ = some x2 ∧ w3.cell? ⟨w1.heap.size, 3, none⟩ = some x3 := by
  have c : ∀ j u, #[x0, x1, x2, x3][j]? = some u → w3.cell? ⟨w1.heap.size, j, none⟩ = some u := fun j u hu => k.keep (h.keep (by rw [World.cell?_alloc_mark]; exact hu))
  exact ⟨c 0 _ rfl, c 1 _ rfl, c 2 _ rfl, c 3 _ rfl⟩
def nameR (l : List Wd) (f : Nat) (a : Int) : Rd Ex :=
  if (wdA l a).t = kTrue ∨ (wdA l a).t = kFalse then .ok (litE { li0 with k := 1, b := decide ((wdA l a).t = kTrue) }) (a + 1)
  else if isW l (a + 1) 5 kCol2 = true then (uidR l f a).then fun u n => .ok (litE { li0 with k := 4, t := u.1, i := u.2 }) n
  else if varN (wdA l a).t = true then .ok (.mk 2 li0 (wdA l a).t [] []) (a + 1)
  else badF l a
theorem uid_thenE {R : Rd (List UInt8 × List UInt8)} {g : List UInt8 × List UInt8 → Ex} : (R.then fun u n => .ok (g u) n).unit = R.unit := by cases R <;> rfl
set_option maxHeartbeats 6400000 in
theorem name_c8 (hl : l.length ≤ 70000) (ht : ∀ x ∈ l, x.k = 1 → x.t.length ≤ 70000) {d : Int} {n : Nat} (f : Nat) (hf : leftW l (n : Int) ≤ f) (w : World) (h : St b ao cap l d (.ok () (n : Int)) w) (hk : (wdA l (n : Int)).k = 1) (hn : n < l.length) :
    Calls Tryd.prog 85 #[.pointer (some ⟨b, 0, none⟩)] w (RuleP b ao cap l d (nameR l f (n : Int)) w) := by
  have H := Lib.hid h
  have HBW := Lib.hid (st_lt h)
  have HTL := Lib.hid ht
  have HLF := Lib.hid hf
  obtain ⟨x, hx⟩ : ∃ x, wdA l (n : Int) = x := ⟨_, rfl⟩
  have HX := Lib.hid (show wdK l (.ok () (n : Int)) 0 = x by rw [wdK_zero]; exact hx)
  have HR0 : nameR l f (n : Int) = if x.t = kTrue ∨ x.t = kFalse then .ok (litE { li0 with k := 1, b := decide (x.t = kTrue) }) ((n : Int) + 1)
      else if isW l ((n : Int) + 1) 5 kCol2 = true then (uidR l f (n : Int)).then fun u n => .ok (litE { li0 with k := 4, t := u.1, i := u.2 }) n
      else if varN x.t = true then .ok (.mk 2 li0 x.t [] []) ((n : Int) + 1) else .bad 10 x.a := by unfold nameR badF; rw [hx]
  have HT0 : textW l 1 (n : Int) = .ok x.t ((n : Int) + 1) := by unfold textW; rw [hk, if_pos rfl, hx]
  rw [hx] at hk
  obtain ⟨xk, xt, xn, xa⟩ := x
  simp only at hk HR0 HT0
  subst hk
  have zn : (n : Int) < 70000 := by omega
  clear h hx ht hf
  by_cases h1 : xt = kTrue
  · subst h1
    have HR := Lib.hid (show nameR l f (n : Int) = .ok (litE { li0 with k := 1, b := true }) ((n : Int) + 1) by rw [HR0, if_pos (by decide)]; rfl)
    clear HR0 HT0
    go_enter Tryd.func85, Tryd.ntmps85
    go_wp2_with fail
    refine (word_c hl _ (H.out.new _)).mono ?_
    rintro e w1 ⟨rfl, l1⟩
    rw [HX.out]
    have L1 := Lib.hid (show Lx b (w.alloc (.cells #[.int .i64 0, .int .i64 0, .bool false, .int .i64 0, .string ⟨#[]⟩, .string ⟨#[]⟩, .string ⟨#[]⟩, .slice none 0 0, .slice none 0 0, .string ⟨#[]⟩, .slice none 0 0, .slice none 0 0] 30)) w1 from Lx.of_low l1)
    have S1 := Lib.hid ((H.out.new (.cells #[.int .i64 0, .int .i64 0, .bool false, .int .i64 0, .string ⟨#[]⟩, .string ⟨#[]⟩, .string ⟨#[]⟩, .slice none 0 0, .slice none 0 0, .string ⟨#[]⟩, .slice none 0 0, .slice none 0 0] 30)).low l1)
    clear l1
    unfold wv
    obtain ⟨⟨pp, RS⟩, -, -⟩ := S1.out
    obtain ⟨-, r1, -, -, -⟩ := RS.cellsX
    have f1 : ∀ X, (w1.alloc X).frozen? ⟨b, 1, none⟩ = false := fun X => (RS.new X).fz 1
    have hne : b ≠ w1.heap.size := Nat.ne_of_lt (cell_lt RS.c0)
    have S2 := Lib.hid fun X => takes_put hl hn (RS.new X)
    clear RS
    go_wp2_with fail
    refine (literal_c ⟨1, true, 0, [], [], []⟩ _).mono ?_
    rintro e w2 ⟨rfl, l2⟩
    have S3 := Lib.hid ((S2.out _).low l2)
    have L3 := Lib.hid (((L1.out.alloc _).set 1 (.int .i64 ((n : Int) + 1))).low' l2)
    clear l2 r1 f1 hne
    obtain ⟨⟨c0, c1, c2, c3, c4, c5, c6, c7, c8, c9, c10, c11⟩, fz⟩ := box12 L3.out HBW.out
    unfold exv
    go_wp2_with fail
    obtain ⟨E0, E1, E2, E3, E4, E5, E6, E7, E8, E9, E10, E11⟩ := put12 c0 c1 c2 c3 c4 c5 c6 c7 c8 c9 c10 c11
    refine bodyPost_ret (v := .agg #[.int .i64 (litE ⟨1, true, 0, [], [], []⟩).op, .int .i64 (litE ⟨1, true, 0, [], [], []⟩).v.k, .bool (litE ⟨1, true, 0, [], [], []⟩).v.b, .int .i64 (litE ⟨1, true, 0, [], [], []⟩).v.n, .string ⟨(litE ⟨1, true, 0, [], [], []⟩).v.s.toArray⟩, .string ⟨(litE ⟨1, true, 0, [], [], []⟩).v.t.toArray⟩, .string ⟨(litE ⟨1, true, 0, [], [], []⟩).v.i.toArray⟩, .slice none 0 0, .slice none 0 0, .string ⟨(litE ⟨1, true, 0, [], [], []⟩).nm.toArray⟩, .slice (pl0).ka (litE ⟨1, true, 0, [], [], []⟩).ks.length (pl0).kc, .slice (pl0).na (litE ⟨1, true, 0, [], [], []⟩).ns.length (pl0).nc]) (by simp [results, Tryd.results85, go_sem, E0, E1, E2, E3, E4, E5, E6, E7, E8, E9, E10, E11]) rfl ?_
    exact ⟨litE ⟨1, true, 0, [], [], []⟩, pl0, rfl, leaf_ok ⟨rfl, rfl⟩, by rw [HR.out]; exact tow_st S3.out HBW.out, tow_lx (((Lx.refl b w).alloc _).trans L3.out), fun y m h => by rw [HR.out] at h; injection h⟩
  by_cases h2 : xt = kFalse
  · subst h2
    have HR := Lib.hid (show nameR l f (n : Int) = .ok (litE { li0 with k := 1, b := false }) ((n : Int) + 1) by rw [HR0, if_pos (by decide)]; rfl)
    clear HR0 HT0 h1
    go_enter Tryd.func85, Tryd.ntmps85
    go_wp2_with fail
    refine (word_c hl _ (H.out.new _)).mono ?_
    rintro e w1 ⟨rfl, l1⟩
    rw [HX.out]
    have L1 := Lib.hid (show Lx b (w.alloc (.cells #[.int .i64 0, .int .i64 0, .bool false, .int .i64 0, .string ⟨#[]⟩, .string ⟨#[]⟩, .string ⟨#[]⟩, .slice none 0 0, .slice none 0 0, .string ⟨#[]⟩, .slice none 0 0, .slice none 0 0] 30)) w1 from Lx.of_low l1)
    have S1 := Lib.hid ((H.out.new (.cells #[.int .i64 0, .int .i64 0, .bool false, .int .i64 0, .string ⟨#[]⟩, .string ⟨#[]⟩, .string ⟨#[]⟩, .slice none 0 0, .slice none 0 0, .string ⟨#[]⟩, .slice none 0 0, .slice none 0 0] 30)).low l1)
    clear l1
    unfold wv
    obtain ⟨⟨pp, RS⟩, -, -⟩ := S1.out
    obtain ⟨-, r1, -, -, -⟩ := RS.cellsX
    have f1 : ∀ X, (w1.alloc X).frozen? ⟨b, 1, none⟩ = false := fun X => (RS.new X).fz 1
    have hne : b ≠ w1.heap.size := Nat.ne_of_lt (cell_lt RS.c0)
    have S2 := Lib.hid fun X => takes_put hl hn (RS.new X)
    clear RS
    go_wp2_with fail
    refine (literal_c ⟨1, false, 0, [], [], []⟩ _).mono ?_
    rintro e w2 ⟨rfl, l2⟩
    have S3 := Lib.hid ((S2.out _).low l2)
    have L3 := Lib.hid (((L1.out.alloc _).set 1 (.int .i64 ((n : Int) + 1))).low' l2)
    clear l2 r1 f1 hne
    obtain ⟨⟨c0, c1, c2, c3, c4, c5, c6, c7, c8, c9, c10, c11⟩, fz⟩ := box12 L3.out HBW.out
    unfold exv
    go_wp2_with fail
    obtain ⟨E0, E1, E2, E3, E4, E5, E6, E7, E8, E9, E10, E11⟩ := put12 c0 c1 c2 c3 c4 c5 c6 c7 c8 c9 c10 c11
    refine bodyPost_ret (v := .agg #[.int .i64 (litE ⟨1, false, 0, [], [], []⟩).op, .int .i64 (litE ⟨1, false, 0, [], [], []⟩).v.k, .bool (litE ⟨1, false, 0, [], [], []⟩).v.b, .int .i64 (litE ⟨1, false, 0, [], [], []⟩).v.n, .string ⟨(litE ⟨1, false, 0, [], [], []⟩).v.s.toArray⟩, .string ⟨(litE ⟨1, false, 0, [], [], []⟩).v.t.toArray⟩, .string ⟨(litE ⟨1, false, 0, [], [], []⟩).v.i.toArray⟩, .slice none 0 0, .slice none 0 0, .string ⟨(litE ⟨1, false, 0, [], [], []⟩).nm.toArray⟩, .slice (pl0).ka (litE ⟨1, false, 0, [], [], []⟩).ks.length (pl0).kc, .slice (pl0).na (litE ⟨1, false, 0, [], [], []⟩).ns.length (pl0).nc]) (by simp [results, Tryd.results85, go_sem, E0, E1, E2, E3, E4, E5, E6, E7, E8, E9, E10, E11]) rfl ?_
    exact ⟨litE ⟨1, false, 0, [], [], []⟩, pl0, rfl, leaf_ok ⟨rfl, rfl⟩, by rw [HR.out]; exact tow_st S3.out HBW.out, tow_lx (((Lx.refl b w).alloc _).trans L3.out), fun y m h => by rw [HR.out] at h; injection h⟩
  have z1 : (xt == [116, 114, 117, 101]) = false := by simpa using h1
  have z2 : (xt == [102, 97, 108, 115, 101]) = false := by simpa using h2
  rw [if_neg (by rintro (h | h); exact h1 h; exact h2 h)] at HR0
  clear h1 h2
  obtain ⟨z, hz⟩ : ∃ z, wdA l ((n : Int) + 1) = z := ⟨_, rfl⟩
  obtain ⟨q, hq⟩ : ∃ q, isW l ((n : Int) + 1) 5 kCol2 = q := ⟨_, rfl⟩
  have hq2 : (z.k == 5 && z.t == [58, 58]) = q := by rw [← hz]; exact hq
  have HQ := Lib.hid hq2
  have HZ := Lib.hid hz
  rw [hq] at HR0
  clear hq hq2 hz
  cases q with
  | true =>
    have HR := Lib.hid (show nameR l f (n : Int) = (uidR l f (n : Int)).then fun u n => .ok (litE { li0 with k := 4, t := u.1, i := u.2 }) n by rw [HR0, if_pos rfl])
    clear HR0
    go_enter Tryd.func85, Tryd.ntmps85
    go_wp2_with fail
    refine (word_c hl _ (H.out.new _)).mono ?_
    rintro e w1 ⟨rfl, l1⟩
    rw [HX.out]
    have L1 := Lib.hid (show Lx b (w.alloc (.cells #[.int .i64 0, .int .i64 0, .bool false, .int .i64 0, .string ⟨#[]⟩, .string ⟨#[]⟩, .string ⟨#[]⟩, .slice none 0 0, .slice none 0 0, .string ⟨#[]⟩, .slice none 0 0, .slice none 0 0] 30)) w1 from Lx.of_low l1)
    have S1 := Lib.hid ((H.out.new (.cells #[.int .i64 0, .int .i64 0, .bool false, .int .i64 0, .string ⟨#[]⟩, .string ⟨#[]⟩, .string ⟨#[]⟩, .slice none 0 0, .slice none 0 0, .string ⟨#[]⟩, .slice none 0 0, .slice none 0 0] 30)).low l1)
    clear l1
    unfold wv
    obtain ⟨⟨pp, RS⟩, -, -⟩ := S1.out
    have HW1 := Lib.hid fun X => word1_c hl hn _ (RS.new X)
    rw [HZ.out] at HW1
    clear RS
    go_wp2_with fail
    refine (HW1.out _).mono ?_
    rintro e w2 ⟨rfl, l2⟩
    have S2 := Lib.hid ((S1.out.new _).low l2)
    have L2 := Lib.hid ((L1.out.alloc _).low' l2)
    have XB := Lib.hid fun W (k : Low w2 W) => word_box l2 k
    clear l2 HW1
    go_wp2_with fail
    refine (isMark_c z [58, 58] _).mono ?_
    rintro e w3 ⟨rfl, l3⟩
    have S3 := Lib.hid (S2.out.low l3)
    have L3 := Lib.hid (L2.out.low' l3)
    obtain ⟨x0, x1, x2, x3⟩ := XB.out _ l3
    clear l3 XB
    rw [HQ.out]
    go_wp2_with fail
    refine (uid_c hl HTL.out f (fun u a e => by injection e with _ e; subst e; exact HLF.out) _ S3.out).mono ?_
    rintro e w4 ⟨t, j, rfl, s4, l4, ok4⟩
    have S4 := Lib.hid s4
    have L4 := Lib.hid (L3.out.trans l4)
    have OK4 := Lib.hid ok4
    clear s4 l4 ok4 x0 x1 x2 x3
    go_wp2_with fail
    refine (literal_c ⟨4, false, 0, [], t, j⟩ _).mono ?_
    rintro e w5 ⟨rfl, l5⟩
    have S5 := Lib.hid (S4.out.low l5)
    have L5 := Lib.hid (L4.out.low' l5)
    clear l5
    obtain ⟨⟨c0, c1, c2, c3, c4, c5, c6, c7, c8, c9, c10, c11⟩, fz⟩ := box12 L5.out HBW.out
    unfold exv
    go_wp2_with fail
    obtain ⟨E0, E1, E2, E3, E4, E5, E6, E7, E8, E9, E10, E11⟩ := put12 c0 c1 c2 c3 c4 c5 c6 c7 c8 c9 c10 c11
    refine bodyPost_ret (v := .agg #[.int .i64 (litE ⟨4, false, 0, [], t, j⟩).op, .int .i64 (litE ⟨4, false, 0, [], t, j⟩).v.k, .bool (litE ⟨4, false, 0, [], t, j⟩).v.b, .int .i64 (litE ⟨4, false, 0, [], t, j⟩).v.n, .string ⟨(litE ⟨4, false, 0, [], t, j⟩).v.s.toArray⟩, .string ⟨(litE ⟨4, false, 0, [], t, j⟩).v.t.toArray⟩, .string ⟨(litE ⟨4, false, 0, [], t, j⟩).v.i.toArray⟩, .slice none 0 0, .slice none 0 0, .string ⟨(litE ⟨4, false, 0, [], t, j⟩).nm.toArray⟩, .slice (pl0).ka (litE ⟨4, false, 0, [], t, j⟩).ks.length (pl0).kc, .slice (pl0).na (litE ⟨4, false, 0, [], t, j⟩).ns.length (pl0).nc]) (by simp [results, Tryd.results85, go_sem, E0, E1, E2, E3, E4, E5, E6, E7, E8, E9, E10, E11]) rfl ?_
    exact ⟨litE ⟨4, false, 0, [], t, j⟩, pl0, rfl, leaf_ok ⟨rfl, rfl⟩, by rw [HR.out, uid_thenE]; exact tow_st S5.out HBW.out, tow_lx (((Lx.refl b w).alloc _).trans L5.out), fun y m h => by rw [HR.out] at h; obtain ⟨u, m2, h1, h2⟩ := then_ok.1 h; injection h2 with h2; have := OK4.out u m2 h1; rw [← h2, this]; rfl⟩
  | false =>
    have HR1 : nameR l f (n : Int) = if varN xt = true then .ok (.mk 2 li0 xt [] []) ((n : Int) + 1) else .bad 10 xa := by rw [HR0, if_neg (by decide)]
    obtain ⟨v, hv⟩ : ∃ v, varN xt = v := ⟨_, rfl⟩
    rw [hv] at HR1
    have HV := Lib.hid hv
    clear hv HR0
    cases v with
    | true =>
      have HR := Lib.hid (show nameR l f (n : Int) = .ok (.mk 2 li0 xt [] []) ((n : Int) + 1) by rw [HR1, if_pos rfl])
      have HTX := Lib.hid (show (Rd.ok () (n : Int)).then (fun _ a => textW l 1 a) = .ok xt ((n : Int) + 1) from HT0)
      clear HR1 HT0
      go_enter Tryd.func85, Tryd.ntmps85
      go_wp2_with fail
      refine (word_c hl _ (H.out.new _)).mono ?_
      rintro e w1 ⟨rfl, l1⟩
      rw [HX.out]
      have L1 := Lib.hid (show Lx b (w.alloc (.cells #[.int .i64 0, .int .i64 0, .bool false, .int .i64 0, .string ⟨#[]⟩, .string ⟨#[]⟩, .string ⟨#[]⟩, .slice none 0 0, .slice none 0 0, .string ⟨#[]⟩, .slice none 0 0, .slice none 0 0] 30)) w1 from Lx.of_low l1)
      have S1 := Lib.hid ((H.out.new (.cells #[.int .i64 0, .int .i64 0, .bool false, .int .i64 0, .string ⟨#[]⟩, .string ⟨#[]⟩, .string ⟨#[]⟩, .slice none 0 0, .slice none 0 0, .string ⟨#[]⟩, .slice none 0 0, .slice none 0 0] 30)).low l1)
      clear l1
      unfold wv
      obtain ⟨⟨pp, RS⟩, -, -⟩ := S1.out
      have HW1 := Lib.hid fun X => word1_c hl hn _ (RS.new X)
      rw [HZ.out] at HW1
      clear RS
      go_wp2_with fail
      refine (HW1.out _).mono ?_
      rintro e w2 ⟨rfl, l2⟩
      have S2 := Lib.hid ((S1.out.new _).low l2)
      have L2 := Lib.hid ((L1.out.alloc _).low' l2)
      have XB := Lib.hid fun W (k : Low w2 W) => word_box l2 k
      clear l2 HW1
      go_wp2_with fail
      refine (isMark_c z [58, 58] _).mono ?_
      rintro e w3 ⟨rfl, l3⟩
      have S3 := Lib.hid (S2.out.low l3)
      have L3 := Lib.hid (L2.out.low' l3)
      obtain ⟨x0, x1, x2, x3⟩ := XB.out _ l3
      clear l3 XB
      rw [HQ.out]
      go_wp2_with fail
      refine (variable_c xt _).mono ?_
      rintro e w4 ⟨rfl, rfl⟩
      rw [HV.out]
      go_wp2_with fail
      refine (text_c hl 1 (by decide) _ S3.out).mono ?_
      rintro e w5 ⟨rfl, s5, l5⟩
      have S5 := Lib.hid s5
      have L5 := Lib.hid (L3.out.trans l5)
      clear s5 l5 x0 x1 x2 x3
      obtain ⟨⟨c0, c1, c2, c3, c4, c5, c6, c7, c8, c9, c10, c11⟩, fz⟩ := box12 L5.out HBW.out
      generalize hT : Rd.getL _ = T
      go_wp2_with fail
      obtain ⟨E0, E1, E2, E3, E4, E5, E6, E7, E8, E9, E10, E11⟩ := put12 c0 c1 c2 c3 c4 c5 c6 c7 c8 c9 c10 c11
      refine bodyPost_ret (v := .agg #[.int .i64 2, .int .i64 0, .bool false, .int .i64 0, .string ⟨#[]⟩, .string ⟨#[]⟩, .string ⟨#[]⟩, .slice none 0 0, .slice none 0 0, .string ⟨(T).toArray⟩, .slice none 0 0, .slice none 0 0]) (by simp [results, Tryd.results85, go_sem, E0, E1, E2, E3, E4, E5, E6, E7, E8, E9, E10, E11]) rfl ?_
      exact ⟨.mk 2 li0 T [] [], pl0, rfl, xAt_leaf _ _ _ _ _, by rw [HR.out]; exact tow_st (by have hs := S5.out; rw [HTX.out] at hs; exact hs) HBW.out, tow_lx (((Lx.refl b w).alloc _).trans L5.out), fun y m h => by rw [HR.out] at h; injection h with h; rw [← h, ← hT, HTX.out]; rfl⟩
    | false =>
      have HR := Lib.hid (show nameR l f (n : Int) = .bad 10 xa by rw [HR1, if_neg (by decide)])
      clear HR1 HT0
      go_enter Tryd.func85, Tryd.ntmps85
      go_wp2_with fail
      refine (word_c hl _ (H.out.new _)).mono ?_
      rintro e w1 ⟨rfl, l1⟩
      rw [HX.out]
      have L1 := Lib.hid (show Lx b (w.alloc (.cells #[.int .i64 0, .int .i64 0, .bool false, .int .i64 0, .string ⟨#[]⟩, .string ⟨#[]⟩, .string ⟨#[]⟩, .slice none 0 0, .slice none 0 0, .string ⟨#[]⟩, .slice none 0 0, .slice none 0 0] 30)) w1 from Lx.of_low l1)
      have S1 := Lib.hid ((H.out.new (.cells #[.int .i64 0, .int .i64 0, .bool false, .int .i64 0, .string ⟨#[]⟩, .string ⟨#[]⟩, .string ⟨#[]⟩, .slice none 0 0, .slice none 0 0, .string ⟨#[]⟩, .slice none 0 0, .slice none 0 0] 30)).low l1)
      clear l1
      unfold wv
      obtain ⟨⟨pp, RS⟩, -, -⟩ := S1.out
      have HW1 := Lib.hid fun X => word1_c hl hn _ (RS.new X)
      rw [HZ.out] at HW1
      clear RS
      go_wp2_with fail
      refine (HW1.out _).mono ?_
      rintro e w2 ⟨rfl, l2⟩
      have S2 := Lib.hid ((S1.out.new _).low l2)
      have L2 := Lib.hid ((L1.out.alloc _).low' l2)
      have XB := Lib.hid fun W (k : Low w2 W) => word_box l2 k
      clear l2 HW1
      go_wp2_with fail
      refine (isMark_c z [58, 58] _).mono ?_
      rintro e w3 ⟨rfl, l3⟩
      have S3 := Lib.hid (S2.out.low l3)
      have L3 := Lib.hid (L2.out.low' l3)
      obtain ⟨x0, x1, x2, x3⟩ := XB.out _ l3
      clear l3 XB
      rw [HQ.out]
      go_wp2_with fail
      refine (variable_c xt _).mono ?_
      rintro e w4 ⟨rfl, rfl⟩
      rw [HV.out]
      have FC := Lib.hid (fail_c 10 (by decide) ⟨1, xt, xn, xa⟩ _ S3.out)
      unfold wv at FC
      go_wp2_with fail
      refine (FC.out).mono ?_
      rintro e w4 ⟨rfl, s4, l4⟩
      have S4 := Lib.hid s4
      have L4 := Lib.hid (L3.out.trans l4)
      clear s4 l4 FC x0 x1 x2 x3
      go_wp2_with fail
      refine (text_c hl 1 (by decide) _ S4.out).mono ?_
      rintro e w5 ⟨rfl, s5, l5⟩
      have S5 := Lib.hid s5
      have L5 := Lib.hid (L4.out.trans l5)
      clear s5 l5
      obtain ⟨⟨c0, c1, c2, c3, c4, c5, c6, c7, c8, c9, c10, c11⟩, fz⟩ := box12 L5.out HBW.out
      generalize hT : Rd.getL _ = T
      go_wp2_with fail
      obtain ⟨E0, E1, E2, E3, E4, E5, E6, E7, E8, E9, E10, E11⟩ := put12 c0 c1 c2 c3 c4 c5 c6 c7 c8 c9 c10 c11
      refine bodyPost_ret (v := .agg #[.int .i64 2, .int .i64 0, .bool false, .int .i64 0, .string ⟨#[]⟩, .string ⟨#[]⟩, .string ⟨#[]⟩, .slice none 0 0, .slice none 0 0, .string ⟨(T).toArray⟩, .slice none 0 0, .slice none 0 0]) (by simp [results, Tryd.results85, go_sem, E0, E1, E2, E3, E4, E5, E6, E7, E8, E9, E10, E11]) rfl ?_
      exact ⟨.mk 2 li0 T [] [], pl0, rfl, xAt_leaf _ _ _ _ _, by rw [HR.out]; exact tow_st S5.out HBW.out, tow_lx (((Lx.refl b w).alloc _).trans L5.out), fun y m h => by rw [HR.out] at h; cases h⟩
end
end Go.Proofs.YtflpidnkppljlaaDoor
