/- Primaries; marks ahead; levels of operators. Condition: as in the texts that are imported. -/
import Derived.Test.YtflpidnkppljlaaDoorExG
import Derived.Test.YtflpidnkppljlaaDoorExpW
import Derived.Test.YtflpidnkppljlaaDoorExpRA
import Derived.Test.YtflpidnkppljlaaDoorExpRB
import Derived.Test.YtflpidnkppljlaaDoorExpRC
import Derived.Test.YtflpidnkppljlaaDoorExpRD
set_option linter.unusedVariables false
set_option linter.unnecessarySimpa false
set_option linter.unusedSimpArgs false
namespace Go.Proofs.YtflpidnkppljlaaDoor
open Go.RowKit
section
variable {b : Nat} {ao : Option Addr} {cap : Nat} {l : List Wd}
theorem prim_eq (f d : Nat) (a : Int) : rdE l (f + 1) 8 d a = if (wdA l a).k = 2 then .ok (litE { li0 with k := 2, n := (wdA l a).n }) (a + 1) else if (wdA l a).k = 3 then .ok (litE { li0 with k := 3, s := (wdA l a).t }) (a + 1)
    else if (wdA l a).k = 4 then slotR l a else if (wdA l a).k = 1 then nameR l f a else brackR l f d a := by simp only [rdE]; rfl
theorem wdK_ok {s : Rd Unit} {k : Int} (hk : k ≠ 0) (h : (wdK l s 0).k = k) : ∃ n : Nat, s = .ok () (n : Int) ∧ n < l.length ∧ wdK l s 0 = wdA l (n : Int) := by
  cases s with
  | bad e p => rw [wdK_bad_k] at h; exact absurd h.symm hk
  | ok u a =>
    rw [wdK_zero] at h ⊢
    have := wd_in (l := l) (a := a) (by rw [h]; exact hk)
    obtain ⟨n, rfl⟩ : ∃ n : Nat, a = n := ⟨a.toNat, by omega⟩
    exact ⟨n, rfl, by omega, rfl⟩
set_option maxHeartbeats 8000000 in
set_option maxRecDepth 100000 in
theorem primary_c (hl : l.length ≤ 70000) (ht : ∀ x ∈ l, x.k = 1 → x.t.length ≤ 70000) {d f : Nat} (ih : ∀ f', f' ≤ f → RuleC b ao cap l 18 0 f' d) : RuleC b ao cap l 81 8 (f + 1) d := by
  intro s w h hm
  have H := Lib.hid h
  have HBW := Lib.hid (st_lt h)
  have HTL := Lib.hid ht
  have IH := Lib.hid ih
  have HM := Lib.hid (show ∀ u a, s = .ok u a → 12 * leftW l a + 3 ≤ f by rintro u a rfl; have : 12 * leftW l a + 12 - 8 ≤ f + 1 := hm; omega)
  obtain ⟨x, hx⟩ : ∃ x, wdK l s 0 = x := ⟨_, rfl⟩
  have HX := Lib.hid hx
  clear h ht ih hm hx
  by_cases k2 : x.k = 2
  · obtain ⟨n, rfl, hn, hw⟩ := wdK_ok (l := l) (s := s) (k := 2) (by decide) (by rw [HX.out]; exact k2)
    have HR := Lib.hid (show rdE l (f + 1) 8 d (n : Int) = .ok (litE ⟨2, false, x.n, [], [], []⟩) ((n : Int) + 1) by rw [prim_eq, ← hw, HX.out]; simp [k2, li0])
    obtain ⟨xk, xt, xn, xa⟩ := x
    simp only at k2
    subst k2
    simp only at HR
    have zn : (n : Int) < 70000 := by omega
    clear hw
    go_enter Tryd.func81, Tryd.ntmps81
    go_wp2_with fail
    refine (word_c hl _ (H.out.new _)).mono ?_
    rintro e w1 ⟨rfl, l1⟩
    rw [HX.out]
    have L1 := Lib.hid (show Lx b (w.alloc (.cells #[.int .i64 0, .int .i64 0, .bool false, .int .i64 0, .string ⟨#[]⟩, .string ⟨#[]⟩, .string ⟨#[]⟩, .slice none 0 0, .slice none 0 0, .string ⟨#[]⟩, .slice none 0 0, .slice none 0 0] 30)) w1 from Lx.of_low l1)
    have S1 := Lib.hid ((H.out.new (.cells #[.int .i64 0, .int .i64 0, .bool false, .int .i64 0, .string ⟨#[]⟩, .string ⟨#[]⟩, .string ⟨#[]⟩, .slice none 0 0, .slice none 0 0, .string ⟨#[]⟩, .slice none 0 0, .slice none 0 0] 30)).low l1)
    have HS1 := Lib.hid (show w.heap.size + 1 ≤ w1.heap.size by have := l1.size; simpa using this)
    clear l1
    unfold wv
    obtain ⟨⟨pp, RS⟩, -, -⟩ := S1.out
    obtain ⟨-, r1, -, -, -⟩ := RS.cellsX
    have f1 : ∀ X, (w1.alloc X).frozen? ⟨b, 1, none⟩ = false := fun X => (RS.new X).fz 1
    have hne : b ≠ w1.heap.size := Nat.ne_of_lt (cell_lt RS.c0)
    have S2 := Lib.hid fun X => takes_put hl hn (RS.new X)
    clear RS
    go_wp2_with fail
    refine (literal_c ⟨2, false, xn, [], [], []⟩ _).mono ?_
    rintro e w2 ⟨rfl, l2⟩
    have S3 := Lib.hid ((S2.out _).low l2)
    have L3 := Lib.hid (((L1.out.alloc _).set 1 (.int .i64 ((n : Int) + 1))).low' l2)
    clear l2 r1 f1 hne
    obtain ⟨⟨c0, c1, c2, c3, c4, c5, c6, c7, c8, c9, c10, c11⟩, fz⟩ := box12 L3.out HBW.out
    unfold exv
    go_wp2_with fail
    obtain ⟨E0, E1, E2, E3, E4, E5, E6, E7, E8, E9, E10, E11⟩ := put12 c0 c1 c2 c3 c4 c5 c6 c7 c8 c9 c10 c11
    refine bodyPost_ret (v := .agg #[.int .i64 (litE ⟨2, false, xn, [], [], []⟩).op, .int .i64 (litE ⟨2, false, xn, [], [], []⟩).v.k, .bool (litE ⟨2, false, xn, [], [], []⟩).v.b, .int .i64 (litE ⟨2, false, xn, [], [], []⟩).v.n, .string ⟨(litE ⟨2, false, xn, [], [], []⟩).v.s.toArray⟩, .string ⟨(litE ⟨2, false, xn, [], [], []⟩).v.t.toArray⟩, .string ⟨(litE ⟨2, false, xn, [], [], []⟩).v.i.toArray⟩, .slice none 0 0, .slice none 0 0, .string ⟨(litE ⟨2, false, xn, [], [], []⟩).nm.toArray⟩, .slice (pl0).ka (litE ⟨2, false, xn, [], [], []⟩).ks.length (pl0).kc, .slice (pl0).na (litE ⟨2, false, xn, [], [], []⟩).ns.length (pl0).nc]) (by simp [results, Tryd.results81, go_sem, E0, E1, E2, E3, E4, E5, E6, E7, E8, E9, E10, E11]) rfl ?_
    exact ⟨litE ⟨2, false, xn, [], [], []⟩, pl0, rfl, leaf_ok ⟨rfl, rfl⟩, by show St b ao cap l (d : Int) (rdE l (f + 1) 8 d (n : Int)).unit _; rw [HR.out]; exact tow_st S3.out HBW.out, tow_lx (((Lx.refl b w).alloc _).trans L3.out), fun y m h => by have h : rdE l (f + 1) 8 d (n : Int) = .ok y m := h; rw [HR.out] at h; injection h⟩
  by_cases k3 : x.k = 3
  · obtain ⟨n, rfl, hn, hw⟩ := wdK_ok (l := l) (s := s) (k := 3) (by decide) (by rw [HX.out]; exact k3)
    have HR := Lib.hid (show rdE l (f + 1) 8 d (n : Int) = .ok (litE ⟨3, false, 0, x.t, [], []⟩) ((n : Int) + 1) by rw [prim_eq, ← hw, HX.out]; simp [k3, li0])
    obtain ⟨xk, xt, xn, xa⟩ := x
    simp only at k3
    subst k3
    simp only at HR
    have zn : (n : Int) < 70000 := by omega
    clear hw k2
    go_enter Tryd.func81, Tryd.ntmps81
    go_wp2_with fail
    refine (word_c hl _ (H.out.new _)).mono ?_
    rintro e w1 ⟨rfl, l1⟩
    rw [HX.out]
    have L1 := Lib.hid (show Lx b (w.alloc (.cells #[.int .i64 0, .int .i64 0, .bool false, .int .i64 0, .string ⟨#[]⟩, .string ⟨#[]⟩, .string ⟨#[]⟩, .slice none 0 0, .slice none 0 0, .string ⟨#[]⟩, .slice none 0 0, .slice none 0 0] 30)) w1 from Lx.of_low l1)
    have S1 := Lib.hid ((H.out.new (.cells #[.int .i64 0, .int .i64 0, .bool false, .int .i64 0, .string ⟨#[]⟩, .string ⟨#[]⟩, .string ⟨#[]⟩, .slice none 0 0, .slice none 0 0, .string ⟨#[]⟩, .slice none 0 0, .slice none 0 0] 30)).low l1)
    have HS1 := Lib.hid (show w.heap.size + 1 ≤ w1.heap.size by have := l1.size; simpa using this)
    clear l1
    unfold wv
    obtain ⟨⟨pp, RS⟩, -, -⟩ := S1.out
    obtain ⟨-, r1, -, -, -⟩ := RS.cellsX
    have f1 : ∀ X, (w1.alloc X).frozen? ⟨b, 1, none⟩ = false := fun X => (RS.new X).fz 1
    have hne : b ≠ w1.heap.size := Nat.ne_of_lt (cell_lt RS.c0)
    have S2 := Lib.hid fun X => takes_put hl hn (RS.new X)
    clear RS
    go_wp2_with fail
    refine (literal_c ⟨3, false, 0, xt, [], []⟩ _).mono ?_
    rintro e w2 ⟨rfl, l2⟩
    have S3 := Lib.hid ((S2.out _).low l2)
    have L3 := Lib.hid (((L1.out.alloc _).set 1 (.int .i64 ((n : Int) + 1))).low' l2)
    clear l2 r1 f1 hne
    obtain ⟨⟨c0, c1, c2, c3, c4, c5, c6, c7, c8, c9, c10, c11⟩, fz⟩ := box12 L3.out HBW.out
    unfold exv
    go_wp2_with fail
    obtain ⟨E0, E1, E2, E3, E4, E5, E6, E7, E8, E9, E10, E11⟩ := put12 c0 c1 c2 c3 c4 c5 c6 c7 c8 c9 c10 c11
    refine bodyPost_ret (v := .agg #[.int .i64 (litE ⟨3, false, 0, xt, [], []⟩).op, .int .i64 (litE ⟨3, false, 0, xt, [], []⟩).v.k, .bool (litE ⟨3, false, 0, xt, [], []⟩).v.b, .int .i64 (litE ⟨3, false, 0, xt, [], []⟩).v.n, .string ⟨(litE ⟨3, false, 0, xt, [], []⟩).v.s.toArray⟩, .string ⟨(litE ⟨3, false, 0, xt, [], []⟩).v.t.toArray⟩, .string ⟨(litE ⟨3, false, 0, xt, [], []⟩).v.i.toArray⟩, .slice none 0 0, .slice none 0 0, .string ⟨(litE ⟨3, false, 0, xt, [], []⟩).nm.toArray⟩, .slice (pl0).ka (litE ⟨3, false, 0, xt, [], []⟩).ks.length (pl0).kc, .slice (pl0).na (litE ⟨3, false, 0, xt, [], []⟩).ns.length (pl0).nc]) (by simp [results, Tryd.results81, go_sem, E0, E1, E2, E3, E4, E5, E6, E7, E8, E9, E10, E11]) rfl ?_
    exact ⟨litE ⟨3, false, 0, xt, [], []⟩, pl0, rfl, leaf_ok ⟨rfl, rfl⟩, by show St b ao cap l (d : Int) (rdE l (f + 1) 8 d (n : Int)).unit _; rw [HR.out]; exact tow_st S3.out HBW.out, tow_lx (((Lx.refl b w).alloc _).trans L3.out), fun y m h => by have h : rdE l (f + 1) 8 d (n : Int) = .ok y m := h; rw [HR.out] at h; injection h⟩
  by_cases k4 : x.k = 4
  · obtain ⟨n, rfl, hn, hw⟩ := wdK_ok (l := l) (s := s) (k := 4) (by decide) (by rw [HX.out]; exact k4)
    have HR := Lib.hid (show ((Rd.ok () (n : Int)).then fun _ a => rdE l (f + 1) 8 d a) = slotR l (n : Int) by show rdE l (f + 1) 8 d (n : Int) = _; rw [prim_eq, ← hw, HX.out]; simp [k4])
    have HK := Lib.hid (show (wdA l (n : Int)).k = 4 by rw [← hw, HX.out]; exact k4)
    have HLF := HM.out () _ rfl
    have HLF2 := Lib.hid (show leftW l (n : Int) ≤ f by omega)
    obtain ⟨xk, xt, xn, xa⟩ := x
    simp only at k4
    subst k4
    rw [HR.out]
    clear hw HLF k2 k3
    go_enter Tryd.func81, Tryd.ntmps81
    go_wp2_with fail
    refine (word_c hl _ (H.out.new _)).mono ?_
    rintro e w1 ⟨rfl, l1⟩
    rw [HX.out]
    have L1 := Lib.hid (show Lx b (w.alloc (.cells #[.int .i64 0, .int .i64 0, .bool false, .int .i64 0, .string ⟨#[]⟩, .string ⟨#[]⟩, .string ⟨#[]⟩, .slice none 0 0, .slice none 0 0, .string ⟨#[]⟩, .slice none 0 0, .slice none 0 0] 30)) w1 from Lx.of_low l1)
    have S1 := Lib.hid ((H.out.new (.cells #[.int .i64 0, .int .i64 0, .bool false, .int .i64 0, .string ⟨#[]⟩, .string ⟨#[]⟩, .string ⟨#[]⟩, .slice none 0 0, .slice none 0 0, .string ⟨#[]⟩, .slice none 0 0, .slice none 0 0] 30)).low l1)
    have HS1 := Lib.hid (show w.heap.size + 1 ≤ w1.heap.size by have := l1.size; simpa using this)
    clear l1
    unfold wv
    go_wp2_with fail
    refine (slot_c8 hl _ (S1.out.new _) HK.out).mono ?_
    rintro e w9 ⟨x, p, rfl, x2, s2, l2, ok2⟩
    have X2 := Lib.hid x2
    have S2 := Lib.hid s2
    have L2 := Lib.hid ((L1.out.alloc _).trans l2)
    have OK2 := Lib.hid ok2
    obtain ⟨⟨c0, c1, c2, c3, c4, c5, c6, c7, c8, c9, c10, c11⟩, fz⟩ := box12 L2.out HBW.out
    clear x2 s2 l2 ok2
    unfold exv
    go_wp2_with fail
    obtain ⟨E0, E1, E2, E3, E4, E5, E6, E7, E8, E9, E10, E11⟩ := put12 c0 c1 c2 c3 c4 c5 c6 c7 c8 c9 c10 c11
    refine bodyPost_ret (v := .agg #[.int .i64 x.op, .int .i64 x.v.k, .bool x.v.b, .int .i64 x.v.n, .string ⟨x.v.s.toArray⟩, .string ⟨x.v.t.toArray⟩, .string ⟨x.v.i.toArray⟩, .slice none 0 0, .slice none 0 0, .string ⟨x.nm.toArray⟩, .slice p.ka x.ks.length p.kc, .slice p.na x.ns.length p.nc]) (by simp [results, Tryd.results81, go_sem, E0, E1, E2, E3, E4, E5, E6, E7, E8, E9, E10, E11]) rfl ?_
    exact ⟨x, p, rfl, tow_x (B := w.heap.size + 1) (X2.out.lower (by first | (have := HS1.out; (try simp only [World.size_alloc]); omega) | ((try simp only [World.size_alloc]); omega))) (by omega), tow_st S2.out HBW.out, tow_lx (((Lx.refl b w).alloc _).trans L2.out), OK2.out⟩
  by_cases k1 : x.k = 1
  · obtain ⟨n, rfl, hn, hw⟩ := wdK_ok (l := l) (s := s) (k := 1) (by decide) (by rw [HX.out]; exact k1)
    have HR := Lib.hid (show ((Rd.ok () (n : Int)).then fun _ a => rdE l (f + 1) 8 d a) = nameR l f (n : Int) by show rdE l (f + 1) 8 d (n : Int) = _; rw [prim_eq, ← hw, HX.out]; simp [k1])
    have HK := Lib.hid (show (wdA l (n : Int)).k = 1 by rw [← hw, HX.out]; exact k1)
    have HLF := HM.out () _ rfl
    have HLF2 := Lib.hid (show leftW l (n : Int) ≤ f by omega)
    obtain ⟨xk, xt, xn, xa⟩ := x
    simp only at k1
    subst k1
    rw [HR.out]
    clear hw HLF k2 k3 k4
    go_enter Tryd.func81, Tryd.ntmps81
    go_wp2_with fail
    refine (word_c hl _ (H.out.new _)).mono ?_
    rintro e w1 ⟨rfl, l1⟩
    rw [HX.out]
    have L1 := Lib.hid (show Lx b (w.alloc (.cells #[.int .i64 0, .int .i64 0, .bool false, .int .i64 0, .string ⟨#[]⟩, .string ⟨#[]⟩, .string ⟨#[]⟩, .slice none 0 0, .slice none 0 0, .string ⟨#[]⟩, .slice none 0 0, .slice none 0 0] 30)) w1 from Lx.of_low l1)
    have S1 := Lib.hid ((H.out.new (.cells #[.int .i64 0, .int .i64 0, .bool false, .int .i64 0, .string ⟨#[]⟩, .string ⟨#[]⟩, .string ⟨#[]⟩, .slice none 0 0, .slice none 0 0, .string ⟨#[]⟩, .slice none 0 0, .slice none 0 0] 30)).low l1)
    have HS1 := Lib.hid (show w.heap.size + 1 ≤ w1.heap.size by have := l1.size; simpa using this)
    clear l1
    unfold wv
    go_wp2_with fail
    refine (name_c8 hl HTL.out f HLF2.out _ (S1.out.new _) HK.out hn).mono ?_
    rintro e w9 ⟨x, p, rfl, x2, s2, l2, ok2⟩
    have X2 := Lib.hid x2
    have S2 := Lib.hid s2
    have L2 := Lib.hid ((L1.out.alloc _).trans l2)
    have OK2 := Lib.hid ok2
    obtain ⟨⟨c0, c1, c2, c3, c4, c5, c6, c7, c8, c9, c10, c11⟩, fz⟩ := box12 L2.out HBW.out
    clear x2 s2 l2 ok2
    unfold exv
    go_wp2_with fail
    obtain ⟨E0, E1, E2, E3, E4, E5, E6, E7, E8, E9, E10, E11⟩ := put12 c0 c1 c2 c3 c4 c5 c6 c7 c8 c9 c10 c11
    refine bodyPost_ret (v := .agg #[.int .i64 x.op, .int .i64 x.v.k, .bool x.v.b, .int .i64 x.v.n, .string ⟨x.v.s.toArray⟩, .string ⟨x.v.t.toArray⟩, .string ⟨x.v.i.toArray⟩, .slice none 0 0, .slice none 0 0, .string ⟨x.nm.toArray⟩, .slice p.ka x.ks.length p.kc, .slice p.na x.ns.length p.nc]) (by simp [results, Tryd.results81, go_sem, E0, E1, E2, E3, E4, E5, E6, E7, E8, E9, E10, E11]) rfl ?_
    exact ⟨x, p, rfl, tow_x (B := w.heap.size + 1) (X2.out.lower (by first | (have := HS1.out; (try simp only [World.size_alloc]); omega) | ((try simp only [World.size_alloc]); omega))) (by omega), tow_st S2.out HBW.out, tow_lx (((Lx.refl b w).alloc _).trans L2.out), OK2.out⟩
  have HR := Lib.hid (show (s.then fun _ a => rdE l (f + 1) 8 d a) = (s.then fun _ a => brackR l f d a) by
    have hx := HX.out
    cases s with
    | bad e p => rfl
    | ok u a => rw [wdK_zero] at hx; simp only [Rd.then]; rw [prim_eq, hx, if_neg k2, if_neg k3, if_neg k4, if_neg k1])
  have z2 : (x.k == 2) = false := by simpa using k2
  have z3 : (x.k == 3) = false := by simpa using k3
  have z4 : (x.k == 4) = false := by simpa using k4
  have z1 : (x.k == 1) = false := by simpa using k1
  clear k1 k2 k3 k4
  rw [HR.out]
  go_enter Tryd.func81, Tryd.ntmps81
  go_wp2_with fail
  refine (word_c hl _ (H.out.new _)).mono ?_
  rintro e w1 ⟨rfl, l1⟩
  rw [HX.out]
  have L1 := Lib.hid (show Lx b (w.alloc (.cells #[.int .i64 0, .int .i64 0, .bool false, .int .i64 0, .string ⟨#[]⟩, .string ⟨#[]⟩, .string ⟨#[]⟩, .slice none 0 0, .slice none 0 0, .string ⟨#[]⟩, .slice none 0 0, .slice none 0 0] 30)) w1 from Lx.of_low l1)
  have S1 := Lib.hid ((H.out.new (.cells #[.int .i64 0, .int .i64 0, .bool false, .int .i64 0, .string ⟨#[]⟩, .string ⟨#[]⟩, .string ⟨#[]⟩, .slice none 0 0, .slice none 0 0, .string ⟨#[]⟩, .slice none 0 0, .slice none 0 0] 30)).low l1)
  have HS1 := Lib.hid (show w.heap.size + 1 ≤ w1.heap.size by have := l1.size; simpa using this)
  clear l1
  unfold wv
  go_wp2_with fail
  refine (brack_c hl _ (S1.out.new _) HM.out IH.out).mono ?_
  rintro e w9 ⟨x, p, rfl, x2, s2, l2, ok2⟩
  have X2 := Lib.hid x2
  have S2 := Lib.hid s2
  have L2 := Lib.hid ((L1.out.alloc _).trans l2)
  have OK2 := Lib.hid ok2
  obtain ⟨⟨c0, c1, c2, c3, c4, c5, c6, c7, c8, c9, c10, c11⟩, fz⟩ := box12 L2.out HBW.out
  clear x2 s2 l2 ok2
  unfold exv
  go_wp2_with fail
  obtain ⟨E0, E1, E2, E3, E4, E5, E6, E7, E8, E9, E10, E11⟩ := put12 c0 c1 c2 c3 c4 c5 c6 c7 c8 c9 c10 c11
  refine bodyPost_ret (v := .agg #[.int .i64 x.op, .int .i64 x.v.k, .bool x.v.b, .int .i64 x.v.n, .string ⟨x.v.s.toArray⟩, .string ⟨x.v.t.toArray⟩, .string ⟨x.v.i.toArray⟩, .slice none 0 0, .slice none 0 0, .string ⟨x.nm.toArray⟩, .slice p.ka x.ks.length p.kc, .slice p.na x.ns.length p.nc]) (by simp [results, Tryd.results81, go_sem, E0, E1, E2, E3, E4, E5, E6, E7, E8, E9, E10, E11]) rfl ?_
  exact ⟨x, p, rfl, tow_x (B := w.heap.size + 1) (X2.out.lower (by first | (have := HS1.out; (try simp only [World.size_alloc]); omega) | ((try simp only [World.size_alloc]); omega))) (by omega), tow_st S2.out HBW.out, tow_lx (((Lx.refl b w).alloc _).trans L2.out), OK2.out⟩
/-- What marks ahead, or a member, are read to. -/
def signR (l : List Wd) (f d : Nat) (a : Int) : Rd Ex :=
  if isW l a 5 [33] = true then (rdE l f 6 d (a + 1)).then fun x n => .ok (nodE 6 [x]) n
  else if isW l a 5 [45] = true then (rdE l f 6 d (a + 1)).then fun x n => .ok (nodE 14 [x]) n
  else rdE l f 7 d a
theorem nod_then {R : Rd Ex} {op : Int} : (R.then fun x n => .ok (nodE op [x]) n).unit = R.unit := by cases R <;> rfl
set_option maxHeartbeats 8000000 in
set_option maxRecDepth 100000 in
theorem signed_c8 (hl : l.length ≤ 70000) {d f : Nat} (i6 : RuleC b ao cap l 78 6 f d) (i7 : RuleC b ao cap l 80 7 f d) {s : Rd Unit} (w : World) (h : St b ao cap l (d : Int) s w) (hm : Ms l (f + 1) 6 s) :
    Calls Tryd.prog 79 #[.pointer (some ⟨b, 0, none⟩)] w (RuleP b ao cap l (d : Int) (s.then fun _ a => signR l f d a) w) := by
  have H := Lib.hid h
  have HBW := Lib.hid (st_lt h)
  have I6 := Lib.hid i6
  have I7 := Lib.hid i7
  have HM := Lib.hid hm
  clear h i6 i7 hm
  have HT := Lib.hid (takes_c hl 5 (by decide) [33] _ (H.out.new (.cells #[.int .i64 0, .int .i64 0, .bool false, .int .i64 0, .string ⟨#[]⟩, .string ⟨#[]⟩, .string ⟨#[]⟩, .slice none 0 0, .slice none 0 0, .string ⟨#[]⟩, .slice none 0 0, .slice none 0 0] 30)))
  obtain ⟨q1, hq1⟩ : ∃ q1, tkB l s 5 [33] = q1 := ⟨_, rfl⟩
  rw [hq1] at HT
  go_enter Tryd.func79, Tryd.ntmps79
  go_wp2_with fail
  cases q1 with
  | true =>
    obtain ⟨n, rfl, hn, hS⟩ := tkS_yes (by decide) hq1
    rw [hS] at HT
    have hml : 12 * leftW l (n : Int) + 12 - 6 ≤ f + 1 := HM.out
    have hll := left_less (l := l) (a := (n : Int)) (n := (n : Int) + 1) (by omega) (by omega) (by omega)
    have HR := Lib.hid (show ((Rd.ok () (n : Int)).then fun _ a => signR l f d a) = (rdE l f 6 d ((n : Int) + 1)).then fun x n => .ok (nodE 6 [x]) n by show signR l f d (n : Int) = _; unfold signR; rw [if_pos (show isW l (n : Int) 5 [33] = true from hq1)]; try rfl)
    have HMS := Lib.hid (show Ms l f 6 (.ok () ((n : Int) + 1)) by show 12 * leftW l ((n : Int) + 1) + 12 - 6 ≤ f; omega)
    clear hq1 hS hml hll
    refine HT.out.mono ?_
    rintro e w2 ⟨rfl, s2, l2⟩
    have S1 := Lib.hid s2
    have L1 := Lib.hid ( l2)
    have HS1 := Lib.hid (show w.heap.size + 1 ≤ w2.heap.size by have := L1.out.size; simpa using this)
    clear s2 l2 HT
    go_wp2_with fail
    refine (I6.out _ _ S1.out HMS.out).mono ?_
    rintro e w3 ⟨x, p, rfl, x3, s3, l3, ok3⟩
    have X3 := Lib.hid x3
    have S3 := Lib.hid s3
    have L3 := Lib.hid (L1.out.trans l3)
    have OK3 := Lib.hid ok3
    have HS3 := Lib.hid (show w2.heap.size ≤ w3.heap.size from l3.size)
    clear x3 s3 l3 ok3
    unfold exv
    go_wp2_with fail
    refine (node_c _ _ _ _ _).mono ?_
    rintro e w4 ⟨rfl, l4⟩
    have S4 := Lib.hid ((S3.out.new _).low l4)
    have L4 := Lib.hid ((L3.out.alloc _).low' l4)
    have X4 := Lib.hid ((nod_at (A := Nw (w.heap.size + 1)) 6 [(x, p)] (by simp) (by have := HS1.out; have := HS3.out; show w.heap.size + 1 ≤ _; omega) (fun y hy => by simp only [List.mem_cons, List.not_mem_nil, or_false] at hy; subst hy; exact X3.out.lower HS1.out) _ _ rfl [] _ rfl _ rfl).low l4)
    clear l4
    unfold ndv
    obtain ⟨⟨c0, c1, c2, c3, c4, c5, c6, c7, c8, c9, c10, c11⟩, fz⟩ := box12 L4.out HBW.out
    go_wp2_with fail
    obtain ⟨E0, E1, E2, E3, E4, E5, E6, E7, E8, E9, E10, E11⟩ := put12 c0 c1 c2 c3 c4 c5 c6 c7 c8 c9 c10 c11
    refine bodyPost_ret (v := .agg #[.int .i64 6, .int .i64 0, .bool false, .int .i64 0, .string ⟨#[]⟩, .string ⟨#[]⟩, .string ⟨#[]⟩, .slice none 0 0, .slice none 0 0, .string ⟨#[]⟩, .slice (some ⟨w3.heap.size, 0, none⟩) 1 1, .slice none 0 0]) (by simp [results, Tryd.results79, go_sem, E0, E1, E2, E3, E4, E5, E6, E7, E8, E9, E10, E11]) rfl ?_
    exact ⟨nodE 6 [x], ⟨some ⟨w3.heap.size, 0, none⟩, 1, none, 0⟩, rfl, tow_x (B := w.heap.size + 1) X4.out (by omega), by rw [HR.out, nod_then]; exact tow_st S4.out HBW.out, tow_lx (((Lx.refl b w).alloc _).trans L4.out), fun y m h => by rw [HR.out] at h; obtain ⟨x1, n1, h1, h2⟩ := then_ok.1 h; injection h2 with h2; rw [← h2, OK3.out x1 n1 h1]⟩
  | false =>
    rw [tkS_no hq1] at HT
    refine HT.out.mono ?_
    rintro e w1 ⟨rfl, s1, l1⟩
    have S0 := Lib.hid s1
    have L0 := Lib.hid l1
    have HT2 := Lib.hid (takes_c hl 5 (by decide) [45] _ S0.out)
    obtain ⟨q2, hq2⟩ : ∃ q2, tkB l s 5 [45] = q2 := ⟨_, rfl⟩
    rw [hq2] at HT2
    clear s1 l1 HT
    go_wp2_with fail
    cases q2 with
    | true =>
      obtain ⟨n, rfl, hn, hS⟩ := tkS_yes (by decide) hq2
      rw [hS] at HT2
      have hml : 12 * leftW l (n : Int) + 12 - 6 ≤ f + 1 := HM.out
      have hll := left_less (l := l) (a := (n : Int)) (n := (n : Int) + 1) (by omega) (by omega) (by omega)
      have HR := Lib.hid (show ((Rd.ok () (n : Int)).then fun _ a => signR l f d a) = (rdE l f 6 d ((n : Int) + 1)).then fun x n => .ok (nodE 14 [x]) n by show signR l f d (n : Int) = _; unfold signR; rw [if_neg (by rw [show isW l (n : Int) 5 [33] = false from hq1]; decide), if_pos (show isW l (n : Int) 5 [45] = true from hq2)]; try rfl)
      have HMS := Lib.hid (show Ms l f 6 (.ok () ((n : Int) + 1)) by show 12 * leftW l ((n : Int) + 1) + 12 - 6 ≤ f; omega)
      clear hq1 hq2 hS hml hll
      refine HT2.out.mono ?_
      rintro e w2 ⟨rfl, s2, l2⟩
      have S1 := Lib.hid s2
      have L1 := Lib.hid (L0.out.trans l2)
      have HS1 := Lib.hid (show w.heap.size + 1 ≤ w2.heap.size by have := L1.out.size; simpa using this)
      clear s2 l2 HT2
      go_wp2_with fail
      refine (I6.out _ _ S1.out HMS.out).mono ?_
      rintro e w3 ⟨x, p, rfl, x3, s3, l3, ok3⟩
      have X3 := Lib.hid x3
      have S3 := Lib.hid s3
      have L3 := Lib.hid (L1.out.trans l3)
      have OK3 := Lib.hid ok3
      have HS3 := Lib.hid (show w2.heap.size ≤ w3.heap.size from l3.size)
      clear x3 s3 l3 ok3
      unfold exv
      go_wp2_with fail
      refine (node_c _ _ _ _ _).mono ?_
      rintro e w4 ⟨rfl, l4⟩
      have S4 := Lib.hid ((S3.out.new _).low l4)
      have L4 := Lib.hid ((L3.out.alloc _).low' l4)
      have X4 := Lib.hid ((nod_at (A := Nw (w.heap.size + 1)) 14 [(x, p)] (by simp) (by have := HS1.out; have := HS3.out; show w.heap.size + 1 ≤ _; omega) (fun y hy => by simp only [List.mem_cons, List.not_mem_nil, or_false] at hy; subst hy; exact X3.out.lower HS1.out) _ _ rfl [] _ rfl _ rfl).low l4)
      clear l4
      unfold ndv
      obtain ⟨⟨c0, c1, c2, c3, c4, c5, c6, c7, c8, c9, c10, c11⟩, fz⟩ := box12 L4.out HBW.out
      go_wp2_with fail
      obtain ⟨E0, E1, E2, E3, E4, E5, E6, E7, E8, E9, E10, E11⟩ := put12 c0 c1 c2 c3 c4 c5 c6 c7 c8 c9 c10 c11
      refine bodyPost_ret (v := .agg #[.int .i64 14, .int .i64 0, .bool false, .int .i64 0, .string ⟨#[]⟩, .string ⟨#[]⟩, .string ⟨#[]⟩, .slice none 0 0, .slice none 0 0, .string ⟨#[]⟩, .slice (some ⟨w3.heap.size, 0, none⟩) 1 1, .slice none 0 0]) (by simp [results, Tryd.results79, go_sem, E0, E1, E2, E3, E4, E5, E6, E7, E8, E9, E10, E11]) rfl ?_
      exact ⟨nodE 14 [x], ⟨some ⟨w3.heap.size, 0, none⟩, 1, none, 0⟩, rfl, tow_x (B := w.heap.size + 1) X4.out (by omega), by rw [HR.out, nod_then]; exact tow_st S4.out HBW.out, tow_lx (((Lx.refl b w).alloc _).trans L4.out), fun y m h => by rw [HR.out] at h; obtain ⟨x1, n1, h1, h2⟩ := then_ok.1 h; injection h2 with h2; rw [← h2, OK3.out x1 n1 h1]⟩
    | false =>
      rw [tkS_no hq2] at HT2
      have HR := Lib.hid (show (s.then fun _ a => signR l f d a) = (s.then fun _ a => rdE l f 7 d a) by
        cases s with
        | bad e p => rfl
        | ok u a => show signR l f d a = _; unfold signR; rw [if_neg (by rw [show isW l a 5 [33] = false from hq1]; decide), if_neg (by rw [show isW l a 5 [45] = false from hq2]; decide)]; try rfl)
      have HMS := Lib.hid (show Ms l f 7 s by
        cases s with
        | bad e p => have : 12 - 6 ≤ f + 1 := HM.out; show 12 - 7 ≤ f; omega
        | ok u a => have : 12 * leftW l a + 12 - 6 ≤ f + 1 := HM.out; show 12 * leftW l a + 12 - 7 ≤ f; omega)
      clear hq1 hq2
      refine HT2.out.mono ?_
      rintro e w2 ⟨rfl, s2, l2⟩
      have S1 := Lib.hid s2
      have L1 := Lib.hid (L0.out.trans l2)
      have HS1 := Lib.hid (show w.heap.size + 1 ≤ w2.heap.size by have := L1.out.size; simpa using this)
      clear s2 l2 HT2
      go_wp2_with fail
      refine (I7.out _ _ S1.out HMS.out).mono ?_
      rintro e w9 ⟨x, p, rfl, x2, s2, l2, ok2⟩
      have X2 := Lib.hid x2
      have S2 := Lib.hid s2
      have L2 := Lib.hid ((L1.out).trans l2)
      have OK2 := Lib.hid ok2
      obtain ⟨⟨c0, c1, c2, c3, c4, c5, c6, c7, c8, c9, c10, c11⟩, fz⟩ := box12 L2.out HBW.out
      clear x2 s2 l2 ok2
      unfold exv
      go_wp2_with fail
      obtain ⟨E0, E1, E2, E3, E4, E5, E6, E7, E8, E9, E10, E11⟩ := put12 c0 c1 c2 c3 c4 c5 c6 c7 c8 c9 c10 c11
      refine bodyPost_ret (v := .agg #[.int .i64 x.op, .int .i64 x.v.k, .bool x.v.b, .int .i64 x.v.n, .string ⟨x.v.s.toArray⟩, .string ⟨x.v.t.toArray⟩, .string ⟨x.v.i.toArray⟩, .slice none 0 0, .slice none 0 0, .string ⟨x.nm.toArray⟩, .slice p.ka x.ks.length p.kc, .slice p.na x.ns.length p.nc]) (by simp [results, Tryd.results79, go_sem, E0, E1, E2, E3, E4, E5, E6, E7, E8, E9, E10, E11]) rfl ?_
      exact ⟨x, p, rfl, tow_x (B := w.heap.size + 1) (X2.out.lower (by first | (have := HS1.out; (try simp only [World.size_alloc]); omega) | ((try simp only [World.size_alloc]); omega))) (by omega), by rw [HR.out]; exact tow_st S2.out HBW.out, tow_lx (((Lx.refl b w).alloc _).trans L2.out), fun y m h => by rw [HR.out] at h; exact OK2.out y m h⟩
theorem hops_or (a : Int) : opL l (.ok () a) [([124, 124], 5)] = opAt l 1 a := by
  cases h : isW l a 5 [124, 124] <;> simp [opL, opAt, tkB, h]
theorem hops_and (a : Int) : opL l (.ok () a) [([38, 38], 4)] = opAt l 2 a := by
  cases h : isW l a 5 [38, 38] <;> simp [opL, opAt, tkB, h]
theorem hops_sum (a : Int) : opL l (.ok () a) [([43], 11), ([45], 12)] = opAt l 4 a := by
  cases h : isW l a 5 [43] <;> cases h2 : isW l a 5 [45] <;> simp [opL, opAt, tkB, h, h2]
theorem hops_product (a : Int) : opL l (.ok () a) [([42], 13)] = opAt l 5 a := by
  cases h : isW l a 5 [42] <;> simp [opL, opAt, tkB, h]
set_option maxHeartbeats 3200000 in
theorem or_c8 (hl : l.length ≤ 70000) {d f : Nat} (ih : ∀ f', f' ≤ f → RuleC b ao cap l 61 2 f' d) : RuleC b ao cap l 50 1 (f + 1) d := by
  intro s w h hm
  have H := Lib.hid h
  have HBW := Lib.hid (st_lt h)
  have IH := Lib.hid ih
  have HM := Lib.hid hm
  have HO : Hid (∀ W : World, W.heap.size = w.heap.size + 1 → OpsAt (w.heap.size + 1) [([124, 124], 5)] (W.alloc (.cells #[.string ⟨#[124, 124]⟩, .int .i64 5] 98))) := Lib.hid fun W hW j hj => by
    rw [← hW]
    have e : ∀ c, (W.alloc (.cells #[.string ⟨#[124, 124]⟩, .int .i64 5] 98)).cell? ⟨W.heap.size, c, none⟩ = #[.string ⟨#[124, 124]⟩, .int .i64 5][c]? := fun c => by rw [World.cell?_alloc_mark]
    match j, hj with
    | 0, _ => exact ⟨e 0, e 1⟩
  have hb1 : w.heap.size + 1 ≠ b := by have := HBW.out; omega
  have HB1 := Lib.hid hb1
  clear h ih hm hb1
  go_enter Tryd.func50, Tryd.ntmps50
  go_wp2_with fail
  refine (row_and hl (w.heap.size + 1) 1 [([124, 124], 5)] (by decide) (by decide) (by decide) (by decide) (hops_or) HM.out _ HB1.out ((H.out.new _).new _) (HO.out _ (by simp)) IH.out).mono ?_
  rintro e w9 ⟨x, p, rfl, x2, s2, l2, ok2⟩
  have X2 := Lib.hid x2
  have S2 := Lib.hid s2
  have L2 := Lib.hid ((((Lx.refl b _).alloc _)).trans l2)
  have OK2 := Lib.hid ok2
  obtain ⟨⟨c0, c1, c2, c3, c4, c5, c6, c7, c8, c9, c10, c11⟩, fz⟩ := box12 L2.out HBW.out
  clear x2 s2 l2 ok2
  unfold exv
  go_wp2_with fail
  obtain ⟨E0, E1, E2, E3, E4, E5, E6, E7, E8, E9, E10, E11⟩ := put12 c0 c1 c2 c3 c4 c5 c6 c7 c8 c9 c10 c11
  refine bodyPost_ret (v := .agg #[.int .i64 x.op, .int .i64 x.v.k, .bool x.v.b, .int .i64 x.v.n, .string ⟨x.v.s.toArray⟩, .string ⟨x.v.t.toArray⟩, .string ⟨x.v.i.toArray⟩, .slice none 0 0, .slice none 0 0, .string ⟨x.nm.toArray⟩, .slice p.ka x.ks.length p.kc, .slice p.na x.ns.length p.nc]) (by simp [results, Tryd.results50, go_sem, E0, E1, E2, E3, E4, E5, E6, E7, E8, E9, E10, E11]) rfl ?_
  exact ⟨x, p, rfl, tow_x (B := w.heap.size + 1) (X2.out.lower (by first | (have := HS1.out; (try simp only [World.size_alloc]); omega) | ((try simp only [World.size_alloc]); omega))) (by omega), tow_st S2.out HBW.out, tow_lx (((Lx.refl b w).alloc _).trans L2.out), OK2.out⟩
set_option maxHeartbeats 3200000 in
theorem and_c8 (hl : l.length ≤ 70000) {d f : Nat} (ih : ∀ f', f' ≤ f → RuleC b ao cap l 70 3 f' d) : RuleC b ao cap l 61 2 (f + 1) d := by
  intro s w h hm
  have H := Lib.hid h
  have HBW := Lib.hid (st_lt h)
  have IH := Lib.hid ih
  have HM := Lib.hid hm
  have HO : Hid (∀ W : World, W.heap.size = w.heap.size + 1 → OpsAt (w.heap.size + 1) [([38, 38], 4)] (W.alloc (.cells #[.string ⟨#[38, 38]⟩, .int .i64 4] 98))) := Lib.hid fun W hW j hj => by
    rw [← hW]
    have e : ∀ c, (W.alloc (.cells #[.string ⟨#[38, 38]⟩, .int .i64 4] 98)).cell? ⟨W.heap.size, c, none⟩ = #[.string ⟨#[38, 38]⟩, .int .i64 4][c]? := fun c => by rw [World.cell?_alloc_mark]
    match j, hj with
    | 0, _ => exact ⟨e 0, e 1⟩
  have hb1 : w.heap.size + 1 ≠ b := by have := HBW.out; omega
  have HB1 := Lib.hid hb1
  clear h ih hm hb1
  go_enter Tryd.func61, Tryd.ntmps61
  go_wp2_with fail
  refine (row_rel hl (w.heap.size + 1) 1 [([38, 38], 4)] (by decide) (by decide) (by decide) (by decide) (hops_and) HM.out _ HB1.out ((H.out.new _).new _) (HO.out _ (by simp)) IH.out).mono ?_
  rintro e w9 ⟨x, p, rfl, x2, s2, l2, ok2⟩
  have X2 := Lib.hid x2
  have S2 := Lib.hid s2
  have L2 := Lib.hid ((((Lx.refl b _).alloc _)).trans l2)
  have OK2 := Lib.hid ok2
  obtain ⟨⟨c0, c1, c2, c3, c4, c5, c6, c7, c8, c9, c10, c11⟩, fz⟩ := box12 L2.out HBW.out
  clear x2 s2 l2 ok2
  unfold exv
  go_wp2_with fail
  obtain ⟨E0, E1, E2, E3, E4, E5, E6, E7, E8, E9, E10, E11⟩ := put12 c0 c1 c2 c3 c4 c5 c6 c7 c8 c9 c10 c11
  refine bodyPost_ret (v := .agg #[.int .i64 x.op, .int .i64 x.v.k, .bool x.v.b, .int .i64 x.v.n, .string ⟨x.v.s.toArray⟩, .string ⟨x.v.t.toArray⟩, .string ⟨x.v.i.toArray⟩, .slice none 0 0, .slice none 0 0, .string ⟨x.nm.toArray⟩, .slice p.ka x.ks.length p.kc, .slice p.na x.ns.length p.nc]) (by simp [results, Tryd.results61, go_sem, E0, E1, E2, E3, E4, E5, E6, E7, E8, E9, E10, E11]) rfl ?_
  exact ⟨x, p, rfl, tow_x (B := w.heap.size + 1) (X2.out.lower (by first | (have := HS1.out; (try simp only [World.size_alloc]); omega) | ((try simp only [World.size_alloc]); omega))) (by omega), tow_st S2.out HBW.out, tow_lx (((Lx.refl b w).alloc _).trans L2.out), OK2.out⟩
set_option maxHeartbeats 3200000 in
theorem sum_c8 (hl : l.length ≤ 70000) {d f : Nat} (ih : ∀ f', f' ≤ f → RuleC b ao cap l 77 5 f' d) : RuleC b ao cap l 74 4 (f + 1) d := by
  intro s w h hm
  have H := Lib.hid h
  have HBW := Lib.hid (st_lt h)
  have IH := Lib.hid ih
  have HM := Lib.hid hm
  have HO : Hid (∀ W : World, W.heap.size = w.heap.size + 1 → OpsAt (w.heap.size + 1) [([43], 11), ([45], 12)] (W.alloc (.cells #[.string ⟨#[43]⟩, .int .i64 11, .string ⟨#[45]⟩, .int .i64 12] 98))) := Lib.hid fun W hW j hj => by
    rw [← hW]
    have e : ∀ c, (W.alloc (.cells #[.string ⟨#[43]⟩, .int .i64 11, .string ⟨#[45]⟩, .int .i64 12] 98)).cell? ⟨W.heap.size, c, none⟩ = #[.string ⟨#[43]⟩, .int .i64 11, .string ⟨#[45]⟩, .int .i64 12][c]? := fun c => by rw [World.cell?_alloc_mark]
    match j, hj with
    | 0, _ => exact ⟨e 0, e 1⟩
    | 1, _ => exact ⟨e 2, e 3⟩
  have hb1 : w.heap.size + 1 ≠ b := by have := HBW.out; omega
  have HB1 := Lib.hid hb1
  clear h ih hm hb1
  go_enter Tryd.func74, Tryd.ntmps74
  go_wp2_with fail
  refine (row_product hl (w.heap.size + 1) 2 [([43], 11), ([45], 12)] (by decide) (by decide) (by decide) (by decide) (hops_sum) HM.out _ HB1.out ((H.out.new _).new _) (HO.out _ (by simp)) IH.out).mono ?_
  rintro e w9 ⟨x, p, rfl, x2, s2, l2, ok2⟩
  have X2 := Lib.hid x2
  have S2 := Lib.hid s2
  have L2 := Lib.hid ((((Lx.refl b _).alloc _)).trans l2)
  have OK2 := Lib.hid ok2
  obtain ⟨⟨c0, c1, c2, c3, c4, c5, c6, c7, c8, c9, c10, c11⟩, fz⟩ := box12 L2.out HBW.out
  clear x2 s2 l2 ok2
  unfold exv
  go_wp2_with fail
  obtain ⟨E0, E1, E2, E3, E4, E5, E6, E7, E8, E9, E10, E11⟩ := put12 c0 c1 c2 c3 c4 c5 c6 c7 c8 c9 c10 c11
  refine bodyPost_ret (v := .agg #[.int .i64 x.op, .int .i64 x.v.k, .bool x.v.b, .int .i64 x.v.n, .string ⟨x.v.s.toArray⟩, .string ⟨x.v.t.toArray⟩, .string ⟨x.v.i.toArray⟩, .slice none 0 0, .slice none 0 0, .string ⟨x.nm.toArray⟩, .slice p.ka x.ks.length p.kc, .slice p.na x.ns.length p.nc]) (by simp [results, Tryd.results74, go_sem, E0, E1, E2, E3, E4, E5, E6, E7, E8, E9, E10, E11]) rfl ?_
  exact ⟨x, p, rfl, tow_x (B := w.heap.size + 1) (X2.out.lower (by first | (have := HS1.out; (try simp only [World.size_alloc]); omega) | ((try simp only [World.size_alloc]); omega))) (by omega), tow_st S2.out HBW.out, tow_lx (((Lx.refl b w).alloc _).trans L2.out), OK2.out⟩
set_option maxHeartbeats 3200000 in
theorem product_c8 (hl : l.length ≤ 70000) {d f : Nat} (ih : ∀ f', f' ≤ f → RuleC b ao cap l 78 6 f' d) : RuleC b ao cap l 77 5 (f + 1) d := by
  intro s w h hm
  have H := Lib.hid h
  have HBW := Lib.hid (st_lt h)
  have IH := Lib.hid ih
  have HM := Lib.hid hm
  have HO : Hid (∀ W : World, W.heap.size = w.heap.size + 1 → OpsAt (w.heap.size + 1) [([42], 13)] (W.alloc (.cells #[.string ⟨#[42]⟩, .int .i64 13] 98))) := Lib.hid fun W hW j hj => by
    rw [← hW]
    have e : ∀ c, (W.alloc (.cells #[.string ⟨#[42]⟩, .int .i64 13] 98)).cell? ⟨W.heap.size, c, none⟩ = #[.string ⟨#[42]⟩, .int .i64 13][c]? := fun c => by rw [World.cell?_alloc_mark]
    match j, hj with
    | 0, _ => exact ⟨e 0, e 1⟩
  have hb1 : w.heap.size + 1 ≠ b := by have := HBW.out; omega
  have HB1 := Lib.hid hb1
  clear h ih hm hb1
  go_enter Tryd.func77, Tryd.ntmps77
  go_wp2_with fail
  refine (row_unary hl (w.heap.size + 1) 1 [([42], 13)] (by decide) (by decide) (by decide) (by decide) (hops_product) HM.out _ HB1.out ((H.out.new _).new _) (HO.out _ (by simp)) IH.out).mono ?_
  rintro e w9 ⟨x, p, rfl, x2, s2, l2, ok2⟩
  have X2 := Lib.hid x2
  have S2 := Lib.hid s2
  have L2 := Lib.hid ((((Lx.refl b _).alloc _)).trans l2)
  have OK2 := Lib.hid ok2
  obtain ⟨⟨c0, c1, c2, c3, c4, c5, c6, c7, c8, c9, c10, c11⟩, fz⟩ := box12 L2.out HBW.out
  clear x2 s2 l2 ok2
  unfold exv
  go_wp2_with fail
  obtain ⟨E0, E1, E2, E3, E4, E5, E6, E7, E8, E9, E10, E11⟩ := put12 c0 c1 c2 c3 c4 c5 c6 c7 c8 c9 c10 c11
  refine bodyPost_ret (v := .agg #[.int .i64 x.op, .int .i64 x.v.k, .bool x.v.b, .int .i64 x.v.n, .string ⟨x.v.s.toArray⟩, .string ⟨x.v.t.toArray⟩, .string ⟨x.v.i.toArray⟩, .slice none 0 0, .slice none 0 0, .string ⟨x.nm.toArray⟩, .slice p.ka x.ks.length p.kc, .slice p.na x.ns.length p.nc]) (by simp [results, Tryd.results77, go_sem, E0, E1, E2, E3, E4, E5, E6, E7, E8, E9, E10, E11]) rfl ?_
  exact ⟨x, p, rfl, tow_x (B := w.heap.size + 1) (X2.out.lower (by first | (have := HS1.out; (try simp only [World.size_alloc]); omega) | ((try simp only [World.size_alloc]); omega))) (by omega), tow_st S2.out HBW.out, tow_lx (((Lx.refl b w).alloc _).trans L2.out), OK2.out⟩
set_option maxHeartbeats 1600000 in
theorem unary_c8 (hl : l.length ≤ 70000) {d f : Nat} (hd : d ≤ 50) (i6 : d < 50 → RuleC b ao cap l 78 6 f (d + 1)) (i7 : d < 50 → RuleC b ao cap l 80 7 f (d + 1)) : RuleC b ao cap l 78 6 (f + 1) d := by
  intro s w h hm
  have H := Lib.hid h
  have HBW := Lib.hid (st_lt h)
  have HR := Lib.hid (show (s.then fun _ a => rdE l (f + 1) 6 d a) = (s.then fun _ a => if (d : Int) = 50 then .bad 11 (wdA l a).a else signR l f (d + 1) a) by
    cases s with
    | bad e p => rfl
    | ok u a =>
      simp only [Rd.then, rdE]
      by_cases hd5 : d = 50
      · rw [if_pos hd5, if_pos (show (d : Int) = 50 by omega)]
      · rw [if_neg hd5, if_neg (show ¬ (d : Int) = 50 by omega)]; rfl)
  have HC : Hid (∀ X, Calls Tryd.prog 33 #[.pointer (some ⟨b, 0, none⟩), .func (.func 79) #[] #[]] (w.alloc X) (RuleP b ao cap l (d : Int) (s.then fun _ a => if (d : Int) = 50 then .bad 11 (wdA l a).a else signR l f (d + 1) a) (w.alloc X))) := Lib.hid fun X => deeper_signed hl (d := (d : Int)) (by omega) (by omega) (fun a => signR l f (d + 1) a) (w.alloc X) (h.new X) (fun hne W _ hs => by
    have e : ((d : Int) + 1) = ((d + 1 : Nat) : Int) := by omega
    rw [e] at hs ⊢
    exact signed_c8 hl (i6 (by omega)) (i7 (by omega)) W hs hm)
  rw [HR.out]
  clear HR
  generalize (s.then fun _ a => if (d : Int) = 50 then .bad 11 (wdA l a).a else signR l f (d + 1) a) = R at *
  clear h i6 i7 hm
  go_enter Tryd.func78, Tryd.ntmps78
  go_wp2_with fail
  refine (HC.out _).mono ?_
  rintro e w9 ⟨x, p, rfl, x2, s2, l2, ok2⟩
  have X2 := Lib.hid x2
  have S2 := Lib.hid s2
  have L2 := Lib.hid ((((Lx.refl b _))).trans l2)
  have OK2 := Lib.hid ok2
  obtain ⟨⟨c0, c1, c2, c3, c4, c5, c6, c7, c8, c9, c10, c11⟩, fz⟩ := box12 L2.out HBW.out
  clear x2 s2 l2 ok2
  unfold exv
  go_wp2_with fail
  obtain ⟨E0, E1, E2, E3, E4, E5, E6, E7, E8, E9, E10, E11⟩ := put12 c0 c1 c2 c3 c4 c5 c6 c7 c8 c9 c10 c11
  refine bodyPost_ret (v := .agg #[.int .i64 x.op, .int .i64 x.v.k, .bool x.v.b, .int .i64 x.v.n, .string ⟨x.v.s.toArray⟩, .string ⟨x.v.t.toArray⟩, .string ⟨x.v.i.toArray⟩, .slice none 0 0, .slice none 0 0, .string ⟨x.nm.toArray⟩, .slice p.ka x.ks.length p.kc, .slice p.na x.ns.length p.nc]) (by simp [results, Tryd.results78, go_sem, E0, E1, E2, E3, E4, E5, E6, E7, E8, E9, E10, E11]) rfl ?_
  exact ⟨x, p, rfl, tow_x (B := w.heap.size + 1) (X2.out.lower (by first | (have := HS1.out; (try simp only [World.size_alloc]); omega) | ((try simp only [World.size_alloc]); omega))) (by omega), tow_st S2.out HBW.out, tow_lx (((Lx.refl b w).alloc _).trans L2.out), OK2.out⟩
end
end Go.Proofs.YtflpidnkppljlaaDoor
