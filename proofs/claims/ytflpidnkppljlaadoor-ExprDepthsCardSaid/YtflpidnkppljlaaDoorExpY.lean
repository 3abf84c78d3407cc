/- The if, and an expression. Condition: as in the texts that are imported. -/
import Derived.Test.YtflpidnkppljlaaDoorExpX
import Derived.Test.YtflpidnkppljlaaDoorExK
set_option linter.unusedVariables false
set_option linter.unnecessarySimpa false
set_option linter.unusedSimpArgs false
namespace Go.Proofs.YtflpidnkppljlaaDoor
open Go.RowKit
section
variable {b : Nat} {ao : Option Addr} {cap : Nat} {l : List Wd}
def chR (l : List Wd) (f d : Nat) (a : Int) : Rd Ex :=
  if isW l a 1 kIf = true then
    (rdE l f 0 d (a + 1)).then fun x n => (mustW l 1 kThen n).then fun _ n => (rdE l f 0 d n).then fun y n => (mustW l 1 kElse n).then fun _ n => (rdE l f 0 d n).then fun z n => .ok (nodE 7 [x, y, z]) n
  else rdE l f 1 d a
theorem ch_unit {f d : Nat} {a : Int} (R1 R2 R3 : Rd Ex) (h1 : R1 = rdE l f 0 d (a + 1)) (h2 : R2 = (mustS l R1.unit 1 kThen).then fun _ a => rdE l f 0 d a) (h3 : R3 = (mustS l R2.unit 1 kElse).then fun _ a => rdE l f 0 d a) (hq : isW l a 1 kIf = true) :
    (chR l f d a).unit = R3.unit ∧ ∀ w m, chR l f d a = .ok w m → ∃ x y z i j k, R1 = .ok x i ∧ R2 = .ok y j ∧ R3 = .ok z k ∧ w = nodE 7 [x, y, z] := by
  unfold chR
  rw [if_pos hq, ← h1]
  subst h2 h3
  clear h1
  unfold mustS
  cases R1 with
  | bad e p => exact ⟨rfl, fun w m h => by cases h⟩
  | ok x i =>
    simp only [Rd.then, Rd.unit]
    cases mustW l 1 kThen i with
    | bad e p => exact ⟨rfl, fun w m h => by cases h⟩
    | ok u i2 =>
      simp only [Rd.then]
      cases hr2 : rdE l f 0 d i2 with
      | bad e p => exact ⟨rfl, fun w m h => by cases h⟩
      | ok y j =>
        simp only [Rd.then]
        cases mustW l 1 kElse j with
        | bad e p => exact ⟨rfl, fun w m h => by cases h⟩
        | ok u j2 =>
          simp only [Rd.then]
          cases hr3 : rdE l f 0 d j2 with
          | bad e p => exact ⟨rfl, fun w m h => by cases h⟩
          | ok z k => exact ⟨rfl, fun w m h => ⟨x, y, z, i, j, k, rfl, rfl, rfl, by injection h with h; exact h.symm⟩⟩
/-- Behind a reading, and a word that must be there, the steps are enough still. -/
theorem ms_behind {f d : Nat} {a : Int} {t : List UInt8} {s : Rd Unit} (hs : s = .ok () a) (h : 12 * leftW l a + 12 ≤ f) : Ms l f 0 (mustS l (s.then fun _ a => rdE l f 0 d a).unit 1 t) := by
  subst hs
  simp only [Rd.then]
  cases hr : rdE l f 0 d a with
  | bad e p => show 12 - 0 ≤ f; omega
  | ok x n =>
    have h1 := (advE (l := l) f).rd _ _ _ _ _ hr
    show Ms l f 0 (mustW l 1 t n)
    cases hm : mustW l 1 t n with
    | bad e p => show 12 - 0 ≤ f; omega
    | ok u m =>
      have h2 := mustW_ok hm (by decide)
      have := left_less (l := l) (a := a) (n := m) h1.1 (by omega) (by omega)
      show 12 * leftW l m + 12 - 0 ≤ f
      omega
theorem ms_behind2 {f d : Nat} {t : List UInt8} {s : Rd Unit} (h : 12 ≤ f) (hs : ∀ u a, s = .ok u a → 12 * leftW l a + 12 ≤ f) : Ms l f 0 (mustS l (s.then fun _ a => rdE l f 0 d a).unit 1 t) := by
  cases s with
  | bad e p => show 12 - 0 ≤ f; omega
  | ok u a => exact ms_behind rfl (hs u a rfl)
theorem ms_ok {f : Nat} {s : Rd Unit} (h : Ms l f 0 s) : ∀ u a, s = .ok u a → 12 * leftW l a + 12 ≤ f := by
  intro u a e
  subst e
  have : 12 * leftW l a + 12 - 0 ≤ f := h
  omega
set_option maxHeartbeats 8000000 in
set_option maxRecDepth 100000 in
theorem choice_c (hl : l.length ≤ 70000) {d f : Nat} (i0 : RuleC b ao cap l 18 0 f d) (i1 : RuleC b ao cap l 50 1 f d) {s : Rd Unit} (w : World) (h : St b ao cap l (d : Int) s w) (hm : Ms l (f + 1) 0 s) :
    Calls Tryd.prog 34 #[.pointer (some ⟨b, 0, none⟩)] w (RuleP b ao cap l (d : Int) (s.then fun _ a => chR l f d a) w) := by
  have H := Lib.hid h
  have HBW := Lib.hid (st_lt h)
  have I0 := Lib.hid i0
  have I1 := Lib.hid i1
  have HM := Lib.hid hm
  clear h i0 i1 hm
  have HT := Lib.hid (takes_c hl 1 (by decide) [105, 102] _ (H.out.new (.cells #[.int .i64 0, .int .i64 0, .bool false, .int .i64 0, .string ⟨#[]⟩, .string ⟨#[]⟩, .string ⟨#[]⟩, .slice none 0 0, .slice none 0 0, .string ⟨#[]⟩, .slice none 0 0, .slice none 0 0] 30)))
  obtain ⟨q1, hq1⟩ : ∃ q1, tkB l s 1 [105, 102] = q1 := ⟨_, rfl⟩
  rw [hq1] at HT
  go_enter Tryd.func34, Tryd.ntmps34
  go_wp2_with fail
  cases q1 with
  | true =>
    obtain ⟨n, rfl, hn, hS⟩ := tkS_yes (by decide) hq1
    rw [hS] at HT
    have hml : 12 * leftW l (n : Int) + 12 - 0 ≤ f + 1 := HM.out
    have hll := left_less (l := l) (a := (n : Int)) (n := (n : Int) + 1) (by omega) (by omega) (by omega)
    have HF := Lib.hid (show 12 * leftW l ((n : Int) + 1) + 12 ≤ f by omega)
    obtain ⟨R1, hR1⟩ : ∃ R1, R1 = rdE l f 0 d ((n : Int) + 1) := ⟨_, rfl⟩
    obtain ⟨R2, hR2⟩ : ∃ R2, R2 = (mustS l R1.unit 1 kThen).then fun _ a => rdE l f 0 d a := ⟨_, rfl⟩
    obtain ⟨R3, hR3⟩ : ∃ R3, R3 = (mustS l R2.unit 1 kElse).then fun _ a => rdE l f 0 d a := ⟨_, rfl⟩
    have HU := Lib.hid (ch_unit (a := (n : Int)) R1 R2 R3 hR1 hR2 hR3 (show isW l (n : Int) 1 kIf = true from hq1))
    have M2 : Ms l f 0 (mustS l R1.unit 1 kThen) := by rw [hR1]; exact ms_behind (s := .ok () ((n : Int) + 1)) (a := (n : Int) + 1) rfl HF.out
    have M3 : Ms l f 0 (mustS l R2.unit 1 kElse) := by rw [hR2]; exact ms_behind2 (s := mustS l R1.unit 1 kThen) (d := d) (by have := HF.out; omega) (ms_ok M2)
    have HM2 := Lib.hid M2
    have HM3 := Lib.hid M3
    have C1 := Lib.hid fun W (hs : St b ao cap l (d : Int) (.ok () ((n : Int) + 1)) W) => I0.out (.ok () ((n : Int) + 1)) W hs (show Ms l f 0 (.ok () ((n : Int) + 1)) by show 12 * leftW l ((n : Int) + 1) + 12 - 0 ≤ f; have := HF.out; omega)
    have e1 : ((Rd.ok () ((n : Int) + 1)).then fun _ a => rdE l f 0 d a) = R1 := hR1.symm
    rw [e1] at C1
    have C2 := Lib.hid fun W (hs : St b ao cap l (d : Int) R1.unit W) => behind_c hl [116, 104, 101, 110] W hs I0.out HM2.out
    rw [← hR2] at C2
    have C3 := Lib.hid fun W (hs : St b ao cap l (d : Int) R2.unit W) => behind_c hl [101, 108, 115, 101] W hs I0.out HM3.out
    rw [← hR3] at C3
    clear hq1 hS hml hll M2 M3 e1 hR1 hR2 hR3
    refine HT.out.mono ?_
    rintro e w1 ⟨rfl, s1, l1⟩
    have S1 := Lib.hid s1
    have L1 := Lib.hid l1
    have HS1 := Lib.hid (show w.heap.size + 1 ≤ w1.heap.size by have := l1.size; simpa using this)
    clear s1 l1 HT
    go_wp2_with fail
    refine (C1.out _ S1.out).mono ?_
    rintro e w2 ⟨x, p, rfl, x2, s2, l2, ok2⟩
    have X2 := Lib.hid (x2.lower HS1.out)
    have S2 := Lib.hid s2
    have L2 := Lib.hid (L1.out.trans l2)
    have OK2 := Lib.hid ok2
    have HS2 := Lib.hid (show w.heap.size + 1 ≤ w2.heap.size from Nat.le_trans HS1.out l2.size)
    clear x2 s2 l2 ok2
    unfold exv
    go_wp2_with fail
    refine (C2.out _ S2.out).mono ?_
    rintro e w3 ⟨y, q, rfl, y3, s3, l3, ok3⟩
    have X3 := Lib.hid (X2.out.lxN l3 (by have := HBW.out; omega))
    have Y3 := Lib.hid (y3.lower HS2.out)
    have S3 := Lib.hid s3
    have L3 := Lib.hid (L2.out.trans l3)
    have OK3 := Lib.hid ok3
    have HS3 := Lib.hid (show w.heap.size + 1 ≤ w3.heap.size from Nat.le_trans HS2.out l3.size)
    clear y3 s3 l3 ok3
    unfold exv
    go_wp2_with fail
    refine (C3.out _ S3.out).mono ?_
    rintro e w4 ⟨z, r, rfl, z4, s4, l4, ok4⟩
    have X4 := Lib.hid (X3.out.lxN l4 (by have := HBW.out; omega))
    have Y4 := Lib.hid (Y3.out.lxN l4 (by have := HBW.out; omega))
    have Z4 := Lib.hid (z4.lower HS3.out)
    have S4 := Lib.hid s4
    have L4 := Lib.hid (L3.out.trans l4)
    have OK4 := Lib.hid ok4
    have HS4 := Lib.hid (show w.heap.size + 1 ≤ w4.heap.size from Nat.le_trans HS3.out l4.size)
    clear z4 s4 l4 ok4
    unfold exv
    go_wp2_with fail
    refine (node_c _ _ _ _ _).mono ?_
    rintro e w5 ⟨rfl, l5⟩
    have S5 := Lib.hid ((S4.out.new _).low l5)
    have L5 := Lib.hid ((L4.out.alloc _).low' l5)
    have X5 := Lib.hid ((nod_at (A := Nw (w.heap.size + 1)) 7 [(x, p), (y, q), (z, r)] (by simp) HS4.out (fun v hv => by
      simp only [List.mem_cons, List.not_mem_nil, or_false] at hv
      rcases hv with rfl | rfl | rfl
      · exact X4.out
      · exact Y4.out
      · exact Z4.out) _ _ rfl [] _ rfl _ rfl).low l5)
    clear l5
    unfold ndv
    obtain ⟨⟨c0, c1, c2, c3, c4, c5, c6, c7, c8, c9, c10, c11⟩, fz⟩ := box12 L5.out HBW.out
    go_wp2_with fail
    obtain ⟨E0, E1, E2, E3, E4, E5, E6, E7, E8, E9, E10, E11⟩ := put12 c0 c1 c2 c3 c4 c5 c6 c7 c8 c9 c10 c11
    refine bodyPost_ret (v := .agg #[.int .i64 7, .int .i64 0, .bool false, .int .i64 0, .string ⟨#[]⟩, .string ⟨#[]⟩, .string ⟨#[]⟩, .slice none 0 0, .slice none 0 0, .string ⟨#[]⟩, .slice (some ⟨w4.heap.size, 0, none⟩) 3 3, .slice none 0 0]) (by simp [results, Tryd.results34, go_sem, E0, E1, E2, E3, E4, E5, E6, E7, E8, E9, E10, E11]) rfl ?_
    exact ⟨nodE 7 [x, y, z], ⟨some ⟨w4.heap.size, 0, none⟩, 3, none, 0⟩, rfl, tow_x (B := w.heap.size + 1) X5.out (by omega), by show St b ao cap l (d : Int) (chR l f d (n : Int)).unit _; rw [HU.out.1]; exact tow_st S5.out HBW.out, tow_lx (((Lx.refl b w).alloc _).trans L5.out), fun v m h => by obtain ⟨x1, y1, z1, i, j, k, h1, h2, h3, rfl⟩ := HU.out.2 v m h; rw [OK2.out x1 i h1, OK3.out y1 j h2, OK4.out z1 k h3]⟩
  | false =>
    rw [tkS_no hq1] at HT
    have HR := Lib.hid (show (s.then fun _ a => chR l f d a) = (s.then fun _ a => rdE l f 1 d a) by
      cases s with
      | bad e p => rfl
      | ok u a => show chR l f d a = _; unfold chR; rw [if_neg (by rw [show isW l a 1 kIf = false from hq1]; decide)]; try rfl)
    have HMS := Lib.hid (show Ms l f 1 s by
      cases s with
      | bad e p => have : 12 - 0 ≤ f + 1 := HM.out; show 12 - 1 ≤ f; omega
      | ok u a => have : 12 * leftW l a + 12 - 0 ≤ f + 1 := HM.out; show 12 * leftW l a + 12 - 1 ≤ f; omega)
    clear hq1
    refine HT.out.mono ?_
    rintro e w2 ⟨rfl, s2, l2⟩
    have S1 := Lib.hid s2
    have L1 := Lib.hid l2
    have HS1 := Lib.hid (show w.heap.size + 1 ≤ w2.heap.size by have := L1.out.size; simpa using this)
    clear s2 l2 HT
    go_wp2_with fail
    refine (I1.out _ _ S1.out HMS.out).mono ?_
    rintro e w9 ⟨x, p, rfl, x2, s2, l2, ok2⟩
    have X2 := Lib.hid x2
    have S2 := Lib.hid s2
    have L2 := Lib.hid ((L1.out).trans l2)
    have OK2 := Lib.hid ok2
    obtain ⟨⟨c0, c1, c2, c3, c4, c5, c6, c7, c8, c9, c10, c11⟩, fz⟩ := box12 L2.out HBW.out
    clear x2 s2 l2 ok2
    unfold exv
    go_wp2_with fail
    obtain ⟨E0, E1, E2, E3, E4, E5, E6, E7, E8, E9, E10, E11⟩ := put12 c0 c1 c2 c3 c4 c5 c6 c7 c8 c9 c10 c11
    refine bodyPost_ret (v := .agg #[.int .i64 x.op, .int .i64 x.v.k, .bool x.v.b, .int .i64 x.v.n, .string ⟨x.v.s.toArray⟩, .string ⟨x.v.t.toArray⟩, .string ⟨x.v.i.toArray⟩, .slice none 0 0, .slice none 0 0, .string ⟨x.nm.toArray⟩, .slice p.ka x.ks.length p.kc, .slice p.na x.ns.length p.nc]) (by simp [results, Tryd.results34, go_sem, E0, E1, E2, E3, E4, E5, E6, E7, E8, E9, E10, E11]) rfl ?_
    exact ⟨x, p, rfl, tow_x (B := w.heap.size + 1) (X2.out.lower (by first | (have := HS1.out; (try simp only [World.size_alloc]); omega) | ((try simp only [World.size_alloc]); omega))) (by omega), by rw [HR.out]; exact tow_st S2.out HBW.out, tow_lx (((Lx.refl b w).alloc _).trans L2.out), fun y m h => by rw [HR.out] at h; exact OK2.out y m h⟩
set_option maxHeartbeats 1600000 in
theorem expr_c8 (hl : l.length ≤ 70000) {d f : Nat} (hd : d ≤ 50) (i0 : d < 50 → RuleC b ao cap l 18 0 f (d + 1)) (i1 : d < 50 → RuleC b ao cap l 50 1 f (d + 1)) : RuleC b ao cap l 18 0 (f + 1) d := by
  intro s w h hm
  have H := Lib.hid h
  have HBW := Lib.hid (st_lt h)
  have HR := Lib.hid (show (s.then fun _ a => rdE l (f + 1) 0 d a) = (s.then fun _ a => if (d : Int) = 50 then .bad 11 (wdA l a).a else chR l f (d + 1) a) by
    cases s with
    | bad e p => rfl
    | ok u a =>
      simp only [Rd.then, rdE]
      by_cases hd5 : d = 50
      · rw [if_pos hd5, if_pos (show (d : Int) = 50 by omega)]
      · rw [if_neg hd5, if_neg (show ¬ (d : Int) = 50 by omega)]; rfl)
  have HC : Hid (∀ X, Calls Tryd.prog 33 #[.pointer (some ⟨b, 0, none⟩), .func (.func 34) #[] #[]] (w.alloc X) (RuleP b ao cap l (d : Int) (s.then fun _ a => if (d : Int) = 50 then .bad 11 (wdA l a).a else chR l f (d + 1) a) (w.alloc X))) := Lib.hid fun X => deeper_choice hl (d := (d : Int)) (by omega) (by omega) (fun a => chR l f (d + 1) a) (w.alloc X) (h.new X) (fun hne W _ hs => by
    have e : ((d : Int) + 1) = ((d + 1 : Nat) : Int) := by omega
    rw [e] at hs ⊢
    exact choice_c hl (i0 (by omega)) (i1 (by omega)) W hs hm)
  rw [HR.out]
  clear HR
  generalize (s.then fun _ a => if (d : Int) = 50 then .bad 11 (wdA l a).a else chR l f (d + 1) a) = R at *
  clear h i0 i1 hm
  go_enter Tryd.func18, Tryd.ntmps18
  go_wp2_with fail
  refine (HC.out _).mono ?_
  rintro e w9 ⟨x, p, rfl, x2, s2, l2, ok2⟩
  have X2 := Lib.hid x2
  have S2 := Lib.hid s2
  have L2 := Lib.hid ((((Lx.refl b _))).trans l2)
  have OK2 := Lib.hid ok2
  obtain ⟨⟨c0, c1, c2, c3, c4, c5, c6, c7, c8, c9, c10, c11⟩, fz⟩ := box12 L2.out HBW.out
  clear x2 s2 l2 ok2
  unfold exv
  go_wp2_with fail
  obtain ⟨E0, E1, E2, E3, E4, E5, E6, E7, E8, E9, E10, E11⟩ := put12 c0 c1 c2 c3 c4 c5 c6 c7 c8 c9 c10 c11
  refine bodyPost_ret (v := .agg #[.int .i64 x.op, .int .i64 x.v.k, .bool x.v.b, .int .i64 x.v.n, .string ⟨x.v.s.toArray⟩, .string ⟨x.v.t.toArray⟩, .string ⟨x.v.i.toArray⟩, .slice none 0 0, .slice none 0 0, .string ⟨x.nm.toArray⟩, .slice p.ka x.ks.length p.kc, .slice p.na x.ns.length p.nc]) (by simp [results, Tryd.results18, go_sem, E0, E1, E2, E3, E4, E5, E6, E7, E8, E9, E10, E11]) rfl ?_
  exact ⟨x, p, rfl, tow_x (B := w.heap.size + 1) (X2.out.lower (by first | (have := HS1.out; (try simp only [World.size_alloc]); omega) | ((try simp only [World.size_alloc]); omega))) (by omega), tow_st S2.out HBW.out, tow_lx (((Lx.refl b w).alloc _).trans L2.out), OK2.out⟩
end
end Go.Proofs.YtflpidnkppljlaaDoor
