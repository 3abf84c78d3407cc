/- A primary, and what stands behind it. Condition: as in the texts that are imported. Every rule of the grammar keeps its word, with so many steps as there are words. Condition: the words are no more than 70000, and no name is longer than that. Read and Uid of words. Condition: the words are no more than 70000, and no name is longer than that. -/
import Derived.Test.YtflpidnkppljlaaDoorExpD1
import Derived.Test.YtflpidnkppljlaaDoorExpD2
import Derived.Test.YtflpidnkppljlaaDoorExpY
import Derived.Test.YtflpidnkppljlaaDoorExE
import Derived.Test.YtflpidnkppljlaaDoorExF
import Derived.Test.YtflpidnkppljlaaDoorExJ
import Derived.Test.YtflpidnkppljlaaDoorExH
import Derived.Test.YtflpidnkppljlaaDoorExI
import Derived.Test.YtflpidnkppljlaaDoorExpE9
import Derived.BigRegion
set_option linter.unusedVariables false
set_option linter.unnecessarySimpa false
set_option linter.unusedSimpArgs false
namespace Go.Proofs.YtflpidnkppljlaaDoor
open Go.RowKit
section
variable {b : Nat} {ao : Option Addr} {cap : Nat} {l : List Wd}
theorem mem_eq (f d : Nat) (x : Ex) (a : Int) : memE l (f + 1) d x a =
    if isW l a 5 [46] = true then (dotR l f d x (a + 1)).then fun x n => memE l f d x n
    else if isW l a 5 [91] = true then (textW l 3 (a + 1)).then fun s n => (mustW l 5 [93] n).then fun _ n => memE l f d (namE 18 s x) n
    else .ok x a := by
  rw [memE]
  unfold dotR
  by_cases h1 : isW l a 5 [46] = true
  · rw [if_pos h1, if_pos h1]
    cases textW l 1 (a + 1) with
    | bad e p => rfl
    | ok s n =>
      simp only [Rd.then]
      by_cases h2 : isW l n 5 [40] = true
      · rw [if_pos h2, if_pos h2]
        by_cases h3 : metN s = 0
        · rw [if_pos h3, if_pos h3]; rfl
        · rw [if_neg h3, if_neg h3]
          cases rdE l f 0 d (n + 1) with
          | bad e p => rfl
          | ok y k =>
            simp only [Rd.then]
            cases mustW l 5 [41] k <;> rfl
      · rw [if_neg h2, if_neg h2]
  · rw [if_neg h1, if_neg h1]
theorem dot_adv {f d : Nat} {x y : Ex} {a n : Int} (h : dotR l f d x a = .ok y n) : 0 ≤ a ∧ a < n ∧ n ≤ (l.length : Int) := by
  unfold dotR at h
  obtain ⟨s, m, h1, h2⟩ := then_ok.1 h
  have a1 := textW_ok h1 (by decide)
  split at h2
  · split at h2
    · exact (badF_ok h2).elim
    · obtain ⟨z, k, h3, h4⟩ := then_ok.1 h2
      obtain ⟨_, k2, h5, h6⟩ := then_ok.1 h4
      have a2 := (advE (l := l) f).rd _ _ _ _ _ h3
      have a3 := mustW_ok h5 (by decide)
      injection h6 with _ h6
      omega
  · injection h2 with _ h2
    omega
/-- How a member goes on. -/
def MemK (l : List Wd) (d : Nat) (R : Rd Ex) (f : Nat) (x : Ex) (r : Rd Unit) : Prop :=
  R = (r.then fun _ n => memE l f d x n) ∧ match r with | .ok _ n => 12 * leftW l n + 1 ≤ f ∧ n ≤ (l.length : Int) | .bad _ _ => True
/-- One step of it: Q is what stands behind the primary so far. -/
theorem memK_step {d f : Nat} {R : Rd Ex} {Q : Rd Ex} {x : Ex} {n : Int} (hR : R = Q.then fun x n => memE l f d x n) (ok : ∀ y m, Q = .ok y m → x = y) (hl : 12 * leftW l n + 1 ≤ f + 1) (adv : ∀ y m, Q = .ok y m → 0 ≤ n ∧ n < m ∧ m ≤ (l.length : Int)) : MemK l d R f x Q.unit := by
  subst hR
  cases Q with
  | bad e p => exact ⟨rfl, trivial⟩
  | ok y m =>
    obtain rfl := ok y m rfl
    have h := adv _ _ rfl
    have h2 := left_less h.1 h.2.1 h.2.2
    exact ⟨rfl, by omega, h.2.2⟩
theorem dotted_c (hl : l.length ≤ 70000) {d f : Nat} {n : Nat} {A : Nat → Prop} (x0 : Ex) (p0 : Pl) (w : World) (hA : ∀ g, w.heap.size ≤ g → A g) (hAb : ∀ g, A g → g ≠ b) (hx : XAt A w x0 p0) (h : St b ao cap l (d : Int) (.ok () (n : Int)) w) (i0 : RuleC b ao cap l 18 0 f d) (hn : n ≤ l.length) (hm : 12 * leftW l (n : Int) + 12 ≤ f) :
    Calls Tryd.prog 82 #[.pointer (some ⟨b, 0, none⟩), exv x0 p0] w (RuleA A b ao cap l (d : Int) (dotR l f d x0 (n : Int)) w) := by
  cases hq : tkB l (textW l 1 (n : Int)).unit 5 [40] with
  | false => exact dot_name hl x0 p0 w hA hAb hx h hq
  | true =>
    cases hT : textW l 1 (n : Int) with
    | bad e p => rw [hT] at hq; cases hq
    | ok T k =>
      have a1 := textW_ok hT (by decide)
      obtain ⟨m, rfl⟩ : ∃ m : Nat, k = (m : Int) := ⟨k.toNat, by omega⟩
      rw [hT] at hq
      have hq' : isW l (m : Int) 5 [40] = true := hq
      have hml := isW_in hq' (by decide)
      have hll := left_less (l := l) (a := (n : Int)) (n := (m : Int) + 1) (by omega) (by omega) (by omega)
      by_cases ho : metN T = 0
      · exact dot_zero hl x0 p0 w hA hAb hx h hT (by omega) hq' ho i0 (by show 12 - 0 ≤ f; omega)
      · exact dot_call hl x0 p0 w hA hAb hx h hT (by omega) hq' ho i0 (by show 12 * leftW l ((m : Int) + 1) + 12 - 0 ≤ f; omega)
set_option maxHeartbeats 16000000 in
set_option maxRecDepth 100000 in
theorem member_c (hl : l.length ≤ 70000) {d f : Nat} (i0 : ∀ f', f' ≤ f → RuleC b ao cap l 18 0 f' d) (i8 : RuleC b ao cap l 81 8 f d) : RuleC b ao cap l 80 7 (f + 1) d := by
  intro s w h hm
  have H := Lib.hid h
  have HBW := Lib.hid (st_lt h)
  have I0 := Lib.hid i0
  have I8 := Lib.hid i8
  have HMS := Lib.hid (show Ms l f 8 s by
    cases s with
    | bad e p => have : 12 - 7 ≤ f + 1 := hm; show 12 - 8 ≤ f; omega
    | ok u a => have : 12 * leftW l a + 12 - 7 ≤ f + 1 := hm; show 12 * leftW l a + 12 - 8 ≤ f; omega)
  have HEQ : (s.then fun _ a => rdE l (f + 1) 7 d a) = (s.then fun _ a => rdE l f 8 d a).then fun x n => memE l f d x n := by
    cases s with
    | bad e p => rfl
    | ok u a => simp only [Rd.then, rdE]
  obtain ⟨R, hR⟩ : ∃ R, R = (s.then fun _ a => rdE l (f + 1) 7 d a) := ⟨_, rfl⟩
  rw [← hR]
  rw [HEQ] at hR
  have HK0 := Lib.hid fun (x : Ex) (ok : ∀ y m, (s.then fun _ a => rdE l f 8 d a) = .ok y m → x = y) => (show MemK l d R f x (s.then fun _ a => rdE l f 8 d a).unit by
    cases s with
    | bad e p => exact ⟨hR, trivial⟩
    | ok u a =>
      have hm' : 12 * leftW l a + 12 - 7 ≤ f + 1 := hm
      cases hr : rdE l f 8 d a with
      | bad e p => rw [hR]; simp only [Rd.then]; rw [hr]; exact ⟨rfl, trivial⟩
      | ok y m =>
        have h1 := (advE (l := l) f).rd _ _ _ _ _ hr
        have h2 := left_less h1.1 h1.2.1 h1.2.2
        obtain rfl := ok y m hr
        rw [hR]; simp only [Rd.then]; rw [hr]; exact ⟨rfl, by omega, h1.2.2⟩)
  clear h i0 i8 hm HEQ hR
  go_enter Tryd.func80, Tryd.ntmps80
  go_wp2_with fail
  refine (I8.out s _ (H.out.new _) HMS.out).mono ?_
  rintro e w1 ⟨x0, p0, rfl, x1, s1, l1, ok1⟩
  have X1 := Lib.hid x1.ltE
  have S1 := Lib.hid s1
  have L1 := Lib.hid l1
  have K1 := Lib.hid (HK0.out x0 ok1)
  have HSZ := Lib.hid (show w.heap.size + 1 ≤ w1.heap.size by have := l1.size; simpa using this)
  have XB := Lib.hid (show XAt (fun g => w.heap.size < g ∧ g ≠ w1.heap.size) (w1.alloc (.cells #[.int .i64 x0.op, .int .i64 x0.v.k, .bool x0.v.b, .int .i64 x0.v.n, .string ⟨x0.v.s.toArray⟩, .string ⟨x0.v.t.toArray⟩, .string ⟨x0.v.i.toArray⟩, .slice none 0 0, .slice none 0 0, .string ⟨x0.nm.toArray⟩, .slice p0.ka x0.ks.length p0.kc, .slice p0.na x0.ns.length p0.nc] 30)) x0 p0 from (X1.out.low (low_new (Low.refl w1) (.cells #[.int .i64 x0.op, .int .i64 x0.v.k, .bool x0.v.b, .int .i64 x0.v.n, .string ⟨x0.v.s.toArray⟩, .string ⟨x0.v.t.toArray⟩, .string ⟨x0.v.i.toArray⟩, .slice none 0 0, .slice none 0 0, .string ⟨x0.nm.toArray⟩, .slice p0.ka x0.ks.length p0.kc, .slice p0.na x0.ns.length p0.nc] 30))).base fun g hg => ⟨by have hg1 : (w.alloc _).heap.size ≤ g := hg.1; have e : ∀ o, (w.alloc o).heap.size = w.heap.size + 1 := (fun o => by simp); rw [e] at hg1; omega, by have := hg.2; omega⟩)
  clear x1 s1 l1 ok1
  unfold exv
  go_wp2_with fail
  go_loopg [7] f (fun gk vv wr => ∃ (x : Ex) (p : Pl) (r : Rd Unit) (fi : Nat), fi ≤ gk ∧ fi ≤ f ∧ Hid (BoxE w1.heap.size x p wr) ∧ Hid (XAt (fun g => w.heap.size < g ∧ g ≠ w1.heap.size) wr x p) ∧ Hid (St b ao cap l (d : Int) r wr) ∧ Hid (Lx b (w.alloc (.cells #[.int .i64 0, .int .i64 0, .bool false, .int .i64 0, .string ⟨#[]⟩, .string ⟨#[]⟩, .string ⟨#[]⟩, .slice none 0 0, .slice none 0 0, .string ⟨#[]⟩, .slice none 0 0, .slice none 0 0] 30)) wr) ∧ Hid (MemK l d R fi x r))
  case atStart => exact ⟨x0, p0, _, f, Nat.le_refl _, Nat.le_refl _, Lib.hid (BoxE.new w1 x0 p0 _), XB, Lib.hid (S1.out.new _), Lib.hid (L1.out.alloc _), K1⟩
  case round =>
    obtain ⟨x, p, r, fi, hgk, hfi, BX, XA, SR, LR, K⟩ := hrel
    have HT := Lib.hid (takes_c hl 5 (by decide) [46] wr SR.out)
    have HKB := Lib.hid (show w1.heap.size ≠ b by have := HBW.out; have := HSZ.out; omega)
    obtain ⟨q1, hq1⟩ : ∃ q1, tkB l r 5 [46] = q1 := ⟨_, rfl⟩
    rw [hq1] at HT
    cases q1 with
    | true =>
      obtain ⟨n, rfl, hn, hS⟩ := tkS_yes (by decide) hq1
      rw [hS] at HT
      obtain ⟨k1, k2, k3⟩ := K.out
      obtain ⟨f1, rfl⟩ : ∃ f1, fi = f1 + 1 := ⟨fi - 1, by omega⟩
      have hll := left_less (l := l) (a := (n : Int)) (n := (n : Int) + 1) (by omega) (by omega) (by omega)
      have k4 : R = (dotR l f1 d x ((n : Int) + 1)).then fun x n => memE l f1 d x n := by rw [k1]; simp only [Rd.then]; rw [mem_eq, if_pos (show isW l (n : Int) 5 [46] = true from hq1)]; rfl
      have HST := Lib.hid fun (y : Ex) (ok : ∀ z m, dotR l f1 d x ((n : Int) + 1) = .ok z m → y = z) => memK_step (l := l) k4 ok (n := (n : Int) + 1) (by omega) (fun z m h => dot_adv h)
      have HF1 := Lib.hid (show 12 * leftW l ((n : Int) + 1) + 12 ≤ f1 by omega)
      have e9 : ((n : Int) + 1) = ((n + 1 : Nat) : Int) := by omega
      have HDC : Hid (∀ W, St b ao cap l (d : Int) (.ok () ((n : Int) + 1)) W → XAt (fun g => w.heap.size < g ∧ g ≠ w1.heap.size) W x p → w1.heap.size < W.heap.size → Calls Tryd.prog 82 #[.pointer (some ⟨b, 0, none⟩), exv x p] W (RuleA (fun g => w.heap.size < g ∧ g ≠ w1.heap.size) b ao cap l (d : Int) (dotR l f1 d x ((n : Int) + 1)) W)) := Lib.hid fun W hs hx hw => by
        have h3 := HF1.out
        rw [e9] at hs h3 ⊢
        exact dotted_c hl x p W (fun g hg => by have := HSZ.out; omega) (fun g hg => by have := hg.1; have := HBW.out; omega) hx hs (I0.out f1 (by omega)) (by omega) h3
      clear hq1 hS k1 k2 k3 k4 hll e9
      go_wp2_with fail
      refine HT.out.mono ?_
      rintro e w2 ⟨rfl, s2, l2⟩
      have S2 := Lib.hid s2
      have L2 := Lib.hid (LR.out.trans l2)
      have B2 := Lib.hid (BX.out.lx l2 HKB.out)
      have X2 := Lib.hid (XA.out.lx l2 (fun g hg => by have := hg.1; have := HBW.out; omega))
      obtain ⟨⟨b0, b1, b2, b3, b4, b5, b6, b7, b8, b9, b10, b11⟩, -⟩ := B2.out
      have DC := Lib.hid (HDC.out w2 S2.out X2.out B2.out.lt)
      unfold exv at DC
      clear s2 l2 HT HDC
      go_wp2_with fail
      refine DC.out.mono ?_
      rintro e w3 ⟨y, q, rfl, y3, s3, l3, ok3⟩
      have Y3 := Lib.hid y3
      have S3 := Lib.hid s3
      have L3 := Lib.hid (L2.out.trans l3)
      have B3 := Lib.hid (B2.out.lx l3 HKB.out)
      have K3 := Lib.hid (HST.out y ok3)
      clear y3 s3 l3 ok3 DC HST b0 b1 b2 b3 b4 b5 b6 b7 b8 b9 b10 b11
      obtain ⟨⟨b0, b1, b2, b3, b4, b5, b6, b7, b8, b9, b10, b11⟩, fz⟩ := B3.out
      unfold exv
      go_wp2_with fail
      go_roundg f1
      case measure => omega
      case rel => exact ⟨y, q, _, f1, Nat.le_refl _, by omega, Lib.hid (B3.out.put y q), Lib.hid (tow_xa Y3.out (fun g hg => hg.2)), Lib.hid (tow_stk (w0 := w) S3.out HBW.out (by have := HSZ.out; omega)), Lib.hid (tow_lxk L3.out (by have := HSZ.out; simp; omega)), K3⟩
    | false =>
      rw [tkS_no hq1] at HT
      go_wp2_with fail
      refine HT.out.mono ?_
      rintro e w2 ⟨rfl, s2, l2⟩
      have S2 := Lib.hid s2
      have L2 := Lib.hid (LR.out.trans l2)
      have B2 := Lib.hid (BX.out.lx l2 HKB.out)
      have X2 := Lib.hid (XA.out.lx l2 (fun g hg => by have := hg.1; have := HBW.out; omega))
      have HT2 := Lib.hid (takes_c hl 5 (by decide) [91] w2 S2.out)
      obtain ⟨q2, hq2⟩ : ∃ q2, tkB l r 5 [91] = q2 := ⟨_, rfl⟩
      rw [hq2] at HT2
      clear s2 l2 HT
      cases q2 with
      | true =>
        obtain ⟨n, rfl, hn, hS⟩ := tkS_yes (by decide) hq2
        rw [hS] at HT2
        obtain ⟨k1, k2, k3⟩ := K.out
        obtain ⟨f1, rfl⟩ : ∃ f1, fi = f1 + 1 := ⟨fi - 1, by omega⟩
        have hll := left_less (l := l) (a := (n : Int)) (n := (n : Int) + 1) (by omega) (by omega) (by omega)
        obtain ⟨R2, hR2⟩ : ∃ R2, R2 = textW l 3 ((n : Int) + 1) := ⟨_, rfl⟩
        have k4 : R = (R2.then fun s n => (mustW l 5 [93] n).then fun _ n => (.ok (namE 18 s x) n : Rd Ex)).then fun x n => memE l f1 d x n := by
          rw [k1]; simp only [Rd.then]; rw [mem_eq, if_neg (by rw [show isW l (n : Int) 5 [46] = false from hq1]; decide), if_pos (show isW l (n : Int) 5 [91] = true from hq2), ← hR2]
          cases R2 with
          | bad e p => rfl
          | ok s m => simp only [Rd.then]; cases mustW l 5 [93] m <;> rfl
        have HU := Lib.hid (show (R2.then fun s n => (mustW l 5 [93] n).then fun _ n => (.ok (namE 18 s x) n : Rd Ex)).unit = mustS l R2.unit 5 [93] ∧ ∀ z m, (R2.then fun s n => (mustW l 5 [93] n).then fun _ n => (.ok (namE 18 s x) n : Rd Ex)) = .ok z m → namE 18 R2.getL x = z by
          unfold mustS
          cases R2 with
          | bad e p => exact ⟨rfl, fun z m h => by cases h⟩
          | ok s k =>
            simp only [Rd.then, Rd.unit, Rd.getL]
            cases mustW l 5 [93] k with
            | bad e p => exact ⟨rfl, fun z m h => by cases h⟩
            | ok u k2 => exact ⟨rfl, fun z m h => by injection h⟩)
        have HST := Lib.hid (memK_step (l := l) k4 HU.out.2 (n := (n : Int) + 1) (by omega) (fun z m h => by
          obtain ⟨s1, m1, h1, h2⟩ := then_ok.1 h
          obtain ⟨_, m2, h3, h4⟩ := then_ok.1 h2
          rw [hR2] at h1
          have a1 := textW_ok h1 (by decide)
          have a2 := mustW_ok h3 (by decide)
          injection h4 with _ h4
          omega))
        have E2 := Lib.hid (show ((Rd.ok () ((n : Int) + 1)).then fun _ a => textW l 3 a) = R2 from hR2.symm)
        have HNX := Lib.hid hfi
        clear hq1 hq2 hS k1 k2 k3 k4 hll hR2
        go_wp2_with fail
        refine HT2.out.mono ?_
        rintro e w3 ⟨rfl, s3, l3⟩
        have S3 := Lib.hid s3
        have L3 := Lib.hid (L2.out.trans l3)
        have B3 := Lib.hid (B2.out.lx l3 HKB.out)
        have X3 := Lib.hid (X2.out.lx l3 (fun g hg => by have := hg.1; have := HBW.out; omega))
        have HC := Lib.hid (text_c hl 3 (by decide) w3.drew (S3.out.low (Low.of_drew ⟨1, rfl⟩)))
        rw [E2.out] at HC
        obtain ⟨⟨b0, b1, b2, b3, b4, b5, b6, b7, b8, b9, b10, b11⟩, -⟩ := B3.out
        clear s3 l3 HT2
        go_wp2_with fail
        go_region_law (first
          | (go_simp; go_at_call 32; (with_reducible refine HC.out.mono ?_); rintro e w4 ⟨rfl, s4, l4⟩; have S4 := Lib.hid s4; have L4 := Lib.hid (L3.out.trans ((lx_draw b w3).trans l4)); have X4 := Lib.hid ((X3.out.low (Low.of_drew ⟨1, rfl⟩)).lx l4 (fun g hg => by have := hg.1; have := HBW.out; omega)); have B4 := Lib.hid ((B3.out.low (Low.of_drew ⟨1, rfl⟩)).lx l4 HKB.out); obtain ⟨⟨d0, d1, d2, d3, d4, d5, d6, d7, d8, d9, d10, d11⟩, -⟩ := B4.out; have NC := Lib.hid (named_c 18 R2.getL x p w4 (fun g hg => by have := HSZ.out; have := B4.out.lt; omega) X4.out); unfold exv at NC; clear s4 l4)
          | (go_simp; go_at_call 75; (with_reducible refine NC.out.mono ?_); rintro e w5 ⟨p5, rfl, x5, l5⟩; have S5 := Lib.hid (S4.out.low l5); have L5 := Lib.hid (L4.out.low' l5); have X5 := Lib.hid x5; have B5 := Lib.hid (B4.out.low l5); clear x5 l5; obtain ⟨⟨e0, e1, e2, e3, e4, e5, e6, e7, e8, e9, e10, e11⟩, fz⟩ := B5.out))
        all_goals
          have ST := Lib.hid (tow_stk (w0 := w) (k := w1.heap.size) S5.out HBW.out (by have := HSZ.out; omega) : St b ao cap l (d : Int) _ ((((((((((((w5.setCell ⟨w1.heap.size, 0, none⟩ (.int .i64 (namE 18 R2.getL x).op)).setCell ⟨w1.heap.size, 1, none⟩ (.int .i64 (namE 18 R2.getL x).v.k)).setCell ⟨w1.heap.size, 2, none⟩ (.bool (namE 18 R2.getL x).v.b)).setCell ⟨w1.heap.size, 3, none⟩ (.int .i64 (namE 18 R2.getL x).v.n)).setCell ⟨w1.heap.size, 4, none⟩ (.string ⟨(namE 18 R2.getL x).v.s.toArray⟩)).setCell ⟨w1.heap.size, 5, none⟩ (.string ⟨(namE 18 R2.getL x).v.t.toArray⟩)).setCell ⟨w1.heap.size, 6, none⟩ (.string ⟨(namE 18 R2.getL x).v.i.toArray⟩)).setCell ⟨w1.heap.size, 7, none⟩ (.slice none 0 0)).setCell ⟨w1.heap.size, 8, none⟩ (.slice none 0 0)).setCell ⟨w1.heap.size, 9, none⟩ (.string ⟨(namE 18 R2.getL x).nm.toArray⟩)).setCell ⟨w1.heap.size, 10, none⟩ (.slice (p5).ka (namE 18 R2.getL x).ks.length (p5).kc)).setCell ⟨w1.heap.size, 11, none⟩ (.slice (p5).na (namE 18 R2.getL x).ns.length (p5).nc)))
          have LT := Lib.hid (tow_lxk (k := w1.heap.size) L5.out (by have := HSZ.out; simp; omega) : Lx b (w.alloc (.cells #[.int .i64 0, .int .i64 0, .bool false, .int .i64 0, .string ⟨#[]⟩, .string ⟨#[]⟩, .string ⟨#[]⟩, .slice none 0 0, .slice none 0 0, .string ⟨#[]⟩, .slice none 0 0, .slice none 0 0] 30)) ((((((((((((w5.setCell ⟨w1.heap.size, 0, none⟩ (.int .i64 (namE 18 R2.getL x).op)).setCell ⟨w1.heap.size, 1, none⟩ (.int .i64 (namE 18 R2.getL x).v.k)).setCell ⟨w1.heap.size, 2, none⟩ (.bool (namE 18 R2.getL x).v.b)).setCell ⟨w1.heap.size, 3, none⟩ (.int .i64 (namE 18 R2.getL x).v.n)).setCell ⟨w1.heap.size, 4, none⟩ (.string ⟨(namE 18 R2.getL x).v.s.toArray⟩)).setCell ⟨w1.heap.size, 5, none⟩ (.string ⟨(namE 18 R2.getL x).v.t.toArray⟩)).setCell ⟨w1.heap.size, 6, none⟩ (.string ⟨(namE 18 R2.getL x).v.i.toArray⟩)).setCell ⟨w1.heap.size, 7, none⟩ (.slice none 0 0)).setCell ⟨w1.heap.size, 8, none⟩ (.slice none 0 0)).setCell ⟨w1.heap.size, 9, none⟩ (.string ⟨(namE 18 R2.getL x).nm.toArray⟩)).setCell ⟨w1.heap.size, 10, none⟩ (.slice (p5).ka (namE 18 R2.getL x).ks.length (p5).kc)).setCell ⟨w1.heap.size, 11, none⟩ (.slice (p5).na (namE 18 R2.getL x).ns.length (p5).nc)))
          have BT := Lib.hid (B5.out.put (namE 18 R2.getL x) p5)
          have XT := Lib.hid (tow_xa X5.out (fun g hg => hg.2) : XAt _ ((((((((((((w5.setCell ⟨w1.heap.size, 0, none⟩ (.int .i64 (namE 18 R2.getL x).op)).setCell ⟨w1.heap.size, 1, none⟩ (.int .i64 (namE 18 R2.getL x).v.k)).setCell ⟨w1.heap.size, 2, none⟩ (.bool (namE 18 R2.getL x).v.b)).setCell ⟨w1.heap.size, 3, none⟩ (.int .i64 (namE 18 R2.getL x).v.n)).setCell ⟨w1.heap.size, 4, none⟩ (.string ⟨(namE 18 R2.getL x).v.s.toArray⟩)).setCell ⟨w1.heap.size, 5, none⟩ (.string ⟨(namE 18 R2.getL x).v.t.toArray⟩)).setCell ⟨w1.heap.size, 6, none⟩ (.string ⟨(namE 18 R2.getL x).v.i.toArray⟩)).setCell ⟨w1.heap.size, 7, none⟩ (.slice none 0 0)).setCell ⟨w1.heap.size, 8, none⟩ (.slice none 0 0)).setCell ⟨w1.heap.size, 9, none⟩ (.string ⟨(namE 18 R2.getL x).nm.toArray⟩)).setCell ⟨w1.heap.size, 10, none⟩ (.slice (p5).ka (namE 18 R2.getL x).ks.length (p5).kc)).setCell ⟨w1.heap.size, 11, none⟩ (.slice (p5).na (namE 18 R2.getL x).ns.length (p5).nc)) (namE 18 R2.getL x) p5)
          go_wp2_with fail
          refine (must_c hl 5 (by decide) [93] _ ST.out).mono ?_
          rintro e w6 ⟨rfl, s6, l6⟩
          have S6 := Lib.hid s6
          have L6 := Lib.hid (LT.out.trans l6)
          have B6 := Lib.hid (BT.out.lx l6 HKB.out)
          have X6 := Lib.hid (XT.out.lx l6 (fun g hg => by have := hg.1; have := HBW.out; omega))
          clear s6 l6
          go_wp2_with fail
          go_roundg f1
          case measure => omega
          case rel => exact ⟨namE 18 R2.getL x, p5, _, f1, Nat.le_refl _, by have := HNX.out; omega, B6, X6, Lib.hid (by rw [HU.out.1]; exact S6.out), L6, HST⟩
      | false =>
        rw [tkS_no hq2] at HT2
        have HEND := Lib.hid (show R.unit = r ∧ ∀ y n, R = .ok y n → x = y by
          obtain ⟨k1, k2⟩ := K.out
          cases r with
          | bad e p => rw [k1]; exact ⟨rfl, fun y n h => by cases h⟩
          | ok u n =>
            obtain ⟨f1, rfl⟩ : ∃ f1, fi = f1 + 1 := ⟨fi - 1, by have := k2.1; omega⟩
            rw [k1]; simp only [Rd.then]
            rw [mem_eq, if_neg (by rw [show isW l n 5 [46] = false from hq1]; decide), if_neg (by rw [show isW l n 5 [91] = false from hq2]; decide)]
            exact ⟨rfl, fun y n h => by injection h⟩)
        clear hq1 hq2
        go_wp2_with fail
        refine HT2.out.mono ?_
        rintro e w3 ⟨rfl, s3, l3⟩
        have S3 := Lib.hid s3
        have L3 := Lib.hid (L2.out.trans l3)
        have B3 := Lib.hid (B2.out.lx l3 HKB.out)
        have X3 := Lib.hid (X2.out.lx l3 (fun g hg => by have := hg.1; have := HBW.out; omega))
        obtain ⟨⟨b0, b1, b2, b3, b4, b5, b6, b7, b8, b9, b10, b11⟩, -⟩ := B3.out
        obtain ⟨⟨c0, c1, c2, c3, c4, c5, c6, c7, c8, c9, c10, c11⟩, fz⟩ := box12 L3.out HBW.out
        clear s3 l3 HT2
        go_wp2_with fail
        obtain ⟨E0, E1, E2, E3, E4, E5, E6, E7, E8, E9, E10, E11⟩ := put12 c0 c1 c2 c3 c4 c5 c6 c7 c8 c9 c10 c11
        refine bodyPost_ret (v := .agg #[.int .i64 (x).op, .int .i64 (x).v.k, .bool (x).v.b, .int .i64 (x).v.n, .string ⟨(x).v.s.toArray⟩, .string ⟨(x).v.t.toArray⟩, .string ⟨(x).v.i.toArray⟩, .slice none 0 0, .slice none 0 0, .string ⟨(x).nm.toArray⟩, .slice (p).ka (x).ks.length (p).kc, .slice (p).na (x).ns.length (p).nc]) (by simp [results, Tryd.results80, go_sem, E0, E1, E2, E3, E4, E5, E6, E7, E8, E9, E10, E11]) rfl ?_
        exact ⟨x, p, rfl, (tow_xa X3.out (fun g hg => by have := hg.1; omega)).base (fun g hg => Nat.le_of_lt hg.1), by rw [HEND.out.1]; exact tow_st S3.out HBW.out, tow_lx (((Lx.refl b w).alloc _).trans L3.out), HEND.out.2⟩
end
end Go.Proofs.YtflpidnkppljlaaDoor
namespace Go.Proofs.YtflpidnkppljlaaDoor
open Go.RowKit
section
variable {b : Nat} {ao : Option Addr} {cap : Nat} {l : List Wd}
theorem rel_c8 (hl : l.length ≤ 70000) (ht : ∀ x ∈ l, x.k = 1 → x.t.length ≤ 70000) {d f : Nat} (i4 : ∀ f', f' ≤ f → RuleC b ao cap l 74 4 f' d) : RuleC b ao cap l 70 3 (f + 1) d := by
  intro s w h hm
  cases q0 : tkB l (s.then fun _ a => rdE l f 4 d a).unit 5 [61, 61] with
  | true => exact rel_0 hl ht w h hm i4 q0
  | false =>
  cases q1 : tkB l (s.then fun _ a => rdE l f 4 d a).unit 5 [33, 61] with
  | true => exact rel_1 hl ht w h hm i4 q0 q1
  | false =>
  cases q2 : tkB l (s.then fun _ a => rdE l f 4 d a).unit 5 [60] with
  | true => exact rel_2 hl ht w h hm i4 q0 q1 q2
  | false =>
  cases q3 : tkB l (s.then fun _ a => rdE l f 4 d a).unit 5 [60, 61] with
  | true => exact rel_3 hl ht w h hm i4 q0 q1 q2 q3
  | false =>
  cases q4 : tkB l (s.then fun _ a => rdE l f 4 d a).unit 5 [62] with
  | true => exact rel_4 hl ht w h hm i4 q0 q1 q2 q3 q4
  | false =>
  cases q5 : tkB l (s.then fun _ a => rdE l f 4 d a).unit 5 [62, 61] with
  | true => exact rel_5 hl ht w h hm i4 q0 q1 q2 q3 q4 q5
  | false =>
  cases q6 : tkB l (s.then fun _ a => rdE l f 4 d a).unit 1 [105, 110] with
  | true => exact rel_6 hl ht w h hm i4 q0 q1 q2 q3 q4 q5 q6
  | false =>
  cases q7 : tkB l (s.then fun _ a => rdE l f 4 d a).unit 1 [104, 97, 115] with
  | true => exact rel_7 hl ht w h hm i4 q0 q1 q2 q3 q4 q5 q6 q7
  | false =>
  cases q8 : tkB l (s.then fun _ a => rdE l f 4 d a).unit 1 [105, 115] with
  | true => exact rel_8 hl ht w h hm i4 q0 q1 q2 q3 q4 q5 q6 q7 q8
  | false => exact rel_9 hl ht w h hm i4 q0 q1 q2 q3 q4 q5 q6 q7 q8
/-- All rules, with so many steps. -/
structure AllE (b : Nat) (ao : Option Addr) (cap : Nat) (l : List Wd) (f : Nat) : Prop where
  e0 : ∀ d, d ≤ 50 → RuleC b ao cap l 18 0 f d
  e1 : ∀ d, d ≤ 50 → RuleC b ao cap l 50 1 f d
  e2 : ∀ d, d ≤ 50 → RuleC b ao cap l 61 2 f d
  e3 : ∀ d, d ≤ 50 → RuleC b ao cap l 70 3 f d
  e4 : ∀ d, d ≤ 50 → RuleC b ao cap l 74 4 f d
  e5 : ∀ d, d ≤ 50 → RuleC b ao cap l 77 5 f d
  e6 : ∀ d, d ≤ 50 → RuleC b ao cap l 78 6 f d
  e7 : ∀ d, d ≤ 50 → RuleC b ao cap l 80 7 f d
  e8 : ∀ d, d ≤ 50 → RuleC b ao cap l 81 8 f d
theorem rule_zero {F lv d : Nat} (hlv : lv ≤ 8) : RuleC b ao cap l F lv 0 d := by
  intro s w h hm
  exfalso
  cases s with
  | bad e p => have : 12 - lv ≤ 0 := hm; omega
  | ok u a => have : 12 * leftW l a + 12 - lv ≤ 0 := hm; omega
theorem allE (hl : l.length ≤ 70000) (ht : ∀ x ∈ l, x.k = 1 → x.t.length ≤ 70000) (f : Nat) : ∀ f', f' ≤ f → AllE b ao cap l f' := by
  induction f with
  | zero =>
    intro f' hf
    obtain rfl : f' = 0 := by omega
    exact ⟨fun d _ => rule_zero (by decide), fun d _ => rule_zero (by decide), fun d _ => rule_zero (by decide), fun d _ => rule_zero (by decide), fun d _ => rule_zero (by decide), fun d _ => rule_zero (by decide), fun d _ => rule_zero (by decide), fun d _ => rule_zero (by decide), fun d _ => rule_zero (by decide)⟩
  | succ f ih =>
    intro f' hf
    by_cases e : f' ≤ f
    · exact ih f' e
    · obtain rfl : f' = f + 1 := by omega
      have I := ih f (Nat.le_refl _)
      exact ⟨fun d hd => expr_c8 hl hd (fun h => I.e0 _ h) (fun h => I.e1 _ h), fun d hd => or_c8 hl fun f' hf' => (ih f' hf').e2 d hd, fun d hd => and_c8 hl fun f' hf' => (ih f' hf').e3 d hd, fun d hd => rel_c8 hl ht fun f' hf' => (ih f' hf').e4 d hd, fun d hd => sum_c8 hl fun f' hf' => (ih f' hf').e5 d hd,
        fun d hd => product_c8 hl fun f' hf' => (ih f' hf').e6 d hd, fun d hd => unary_c8 hl hd (fun h => I.e6 _ h) (fun h => I.e7 _ h), fun d hd => member_c hl (fun f' hf' => (ih f' hf').e0 d hd) (I.e8 d hd), fun d hd => primary_c hl ht fun f' hf' => (ih f' hf').e0 d hd⟩
/-- An expression, with steps that are enough. -/
theorem expr_all (hl : l.length ≤ 70000) (ht : ∀ x ∈ l, x.k = 1 → x.t.length ≤ 70000) (f : Nat) : RuleC b ao cap l 18 0 f 0 := (allE hl ht f f (Nat.le_refl _)).e0 0 (by decide)
end
end Go.Proofs.YtflpidnkppljlaaDoor
namespace Go.Proofs.YtflpidnkppljlaaDoor
open Go.RowKit
section
variable {ao : Option Addr} {cap : Nat} {l : List Wd}
/-- The words lie in a row. -/
def WsQ (ao : Option Addr) (l : List Wd) (w : World) : Prop := l = [] ∨ ∃ g, ao = some ⟨g, 0, none⟩ ∧ g < w.heap.size ∧ ∀ j (hj : j < l.length), CellsE w g (j * 4) (encW l[j])
theorem WsQ.low {w w' : World} (h : WsQ ao l w) (k : Low w w') : WsQ ao l w' := by
  rcases h with h | ⟨g, rfl, hg, hc⟩
  · exact .inl h
  · exact .inr ⟨g, rfl, Nat.lt_of_lt_of_le hg k.size, fun j hj i v hv => k.keep (hc j hj i v hv)⟩
theorem st_start {o : Obj} {t : TypeId} {a : Int} (w : World) (h : WsQ ao l w) (h1 : -9223372036854775808 ≤ a) (h2 : a ≤ 9223372036854775807) :
    St (w.heap.size + 1) ao cap l ((0 : Nat) : Int) (.ok () a) ((w.alloc o).alloc (.cells #[.slice ao l.length cap, .int .i64 a, .int .i64 0, .int .i64 0, .int .i64 0] t)) := by
  have e3 : (w.alloc o).heap.size = w.heap.size + 1 := by simp
  have c : ∀ j, ((w.alloc o).alloc (.cells #[.slice ao l.length cap, .int .i64 a, .int .i64 0, .int .i64 0, .int .i64 0] t)).cell? ⟨w.heap.size + 1, j, none⟩ = #[.slice ao l.length cap, .int .i64 a, .int .i64 0, .int .i64 0, .int .i64 0][j]? := fun j => by rw [← e3, World.cell?_alloc_mark]
  refine ⟨⟨0, c 0, c 1, c 2, c 3, c 4, fun j => by rw [← e3]; simp, ?_⟩, h1, h2⟩
  rcases h.low (low_new (low_new (Low.refl w) o) _) with h0 | ⟨g, hg, _, hc⟩
  · exact .inl h0
  · rcases h with h0 | ⟨g', hg', hlt, _⟩
    · exact .inl h0
    · rw [hg] at hg'
      have e : g = g' := by simpa using hg'
      subst e
      exact .inr ⟨g, hg, by omega, hc⟩
def rdT (l : List Wd) (a : Int) : Rd Ex := rdE l (12 * leftW l a + 12) 0 0 a
def udT (l : List Wd) (a : Int) : Rd (List UInt8 × List UInt8) := uidG l (.ok () a) (leftW l a)
/-- What is answered of a reading. -/
def Rd.num {α : Type} : Rd α → Int × Int × Int | .ok _ n => (n, 0, 0) | .bad e p => (0, e, (p : Int))
def Rd.ex : Rd Ex → Ex | .ok x _ => x | .bad _ _ => ex0
def RdP (l : List Wd) (a : Int) (w : World) (e : Ending) (w' : World) : Prop := ∃ p, e = .returned (.tuple #[exv (rdT l a).ex p, .int .i64 (rdT l a).num.1, .int .i64 (rdT l a).num.2.1, .int .i64 (rdT l a).num.2.2]) ∧ XAt (Nw w.heap.size) w' (rdT l a).ex p ∧ Low w w'
def UdP (l : List Wd) (a : Int) (w : World) (e : Ending) (w' : World) : Prop := e = .returned (.tuple #[.agg #[.string ⟨(udT l a).getU.1.toArray⟩, .string ⟨(udT l a).getU.2.toArray⟩], .int .i64 (udT l a).num.1, .int .i64 (udT l a).num.2.1, .int .i64 (udT l a).num.2.2]) ∧ Low w w'
theorem rd_box12 {w W0 W : World} {o : Obj} {t : TypeId} (e : W0 = (w.alloc (.cells #[.int .i64 0, .int .i64 0, .bool false, .int .i64 0, .string ⟨#[]⟩, .string ⟨#[]⟩, .string ⟨#[]⟩, .slice none 0 0, .slice none 0 0, .string ⟨#[]⟩, .slice none 0 0, .slice none 0 0] t)).alloc o) (h : Lx (w.heap.size + 1) W0 W) : (W.cell? ⟨w.heap.size, 0, none⟩ = some (.int .i64 0) ∧ W.cell? ⟨w.heap.size, 1, none⟩ = some (.int .i64 0) ∧ W.cell? ⟨w.heap.size, 2, none⟩ = some (.bool false) ∧ W.cell? ⟨w.heap.size, 3, none⟩ = some (.int .i64 0) ∧ W.cell? ⟨w.heap.size, 4, none⟩ = some (.string ⟨#[]⟩) ∧ W.cell? ⟨w.heap.size, 5, none⟩ = some (.string ⟨#[]⟩) ∧ W.cell? ⟨w.heap.size, 6, none⟩ = some (.string ⟨#[]⟩) ∧ W.cell? ⟨w.heap.size, 7, none⟩ = some (.slice none 0 0) ∧ W.cell? ⟨w.heap.size, 8, none⟩ = some (.slice none 0 0) ∧ W.cell? ⟨w.heap.size, 9, none⟩ = some (.string ⟨#[]⟩) ∧ W.cell? ⟨w.heap.size, 10, none⟩ = some (.slice none 0 0) ∧ W.cell? ⟨w.heap.size, 11, none⟩ = some (.slice none 0 0)) ∧ ∀ j, W.frozen? ⟨w.heap.size, j, none⟩ = false := by
  subst e
  have e2 : W.heap[w.heap.size]? = (w.alloc (.cells #[.int .i64 0, .int .i64 0, .bool false, .int .i64 0, .string ⟨#[]⟩, .string ⟨#[]⟩, .string ⟨#[]⟩, .slice none 0 0, .slice none 0 0, .string ⟨#[]⟩, .slice none 0 0, .slice none 0 0] t)).heap[w.heap.size]? := (h.block _ (by simp; omega) (by omega)).trans (Below.heap_alloc _ _ _ (by simp))
  have g : ∀ j, W.cell? ⟨w.heap.size, j, none⟩ = #[.int .i64 0, .int .i64 0, .bool false, .int .i64 0, .string ⟨#[]⟩, .string ⟨#[]⟩, .string ⟨#[]⟩, .slice none 0 0, .slice none 0 0, .string ⟨#[]⟩, .slice none 0 0, .slice none 0 0][j]? := fun j => (World.cell?_of_block (a := ⟨w.heap.size, j, none⟩) e2).trans (by rw [World.cell?_alloc_mark])
  exact ⟨⟨g 0, g 1, g 2, g 3, g 4, g 5, g 6, g 7, g 8, g 9, g 10, g 11⟩, fun j => (World.frozen?_of_block (a := ⟨w.heap.size, j, none⟩) e2).trans (by simp)⟩
theorem rd_box2 {w W0 W : World} {o : Obj} {t : TypeId} (e : W0 = (w.alloc (.cells #[.string ⟨#[]⟩, .string ⟨#[]⟩] t)).alloc o) (h : Lx (w.heap.size + 1) W0 W) : (W.cell? ⟨w.heap.size, 0, none⟩ = some (.string ⟨#[]⟩) ∧ W.cell? ⟨w.heap.size, 1, none⟩ = some (.string ⟨#[]⟩)) ∧ ∀ j, W.frozen? ⟨w.heap.size, j, none⟩ = false := by
  subst e
  have e2 : W.heap[w.heap.size]? = (w.alloc (.cells #[.string ⟨#[]⟩, .string ⟨#[]⟩] t)).heap[w.heap.size]? := (h.block _ (by simp; omega) (by omega)).trans (Below.heap_alloc _ _ _ (by simp))
  have g : ∀ j, W.cell? ⟨w.heap.size, j, none⟩ = #[.string ⟨#[]⟩, .string ⟨#[]⟩][j]? := fun j => (World.cell?_of_block (a := ⟨w.heap.size, j, none⟩) e2).trans (by rw [World.cell?_alloc_mark])
  exact ⟨⟨g 0, g 1⟩, fun j => (World.frozen?_of_block (a := ⟨w.heap.size, j, none⟩) e2).trans (by simp)⟩
set_option maxHeartbeats 8000000 in
set_option maxRecDepth 100000 in
theorem exprr_c (hl : l.length ≤ 70000) (ht : ∀ x ∈ l, x.k = 1 → x.t.length ≤ 70000) (a : Int) (ha1 : -9223372036854775808 ≤ a) (ha2 : a ≤ 9223372036854775807) (w : World) (hw : WsQ ao l w) :
    Calls Tryd.prog 17 #[.slice ao l.length cap, .int .i64 a, .func (.func 18) #[] #[]] w (RdP l a w) := by
  obtain ⟨W0, hW0⟩ : ∃ W0, W0 = (w.alloc (.cells #[.int .i64 0, .int .i64 0, .bool false, .int .i64 0, .string ⟨#[]⟩, .string ⟨#[]⟩, .string ⟨#[]⟩, .slice none 0 0, .slice none 0 0, .string ⟨#[]⟩, .slice none 0 0, .slice none 0 0] 30)).alloc (.cells #[.slice ao l.length cap, .int .i64 a, .int .i64 0, .int .i64 0, .int .i64 0] 62) := ⟨_, rfl⟩
  have LW := Lib.hid (show Low w W0 by rw [hW0]; exact low_new (low_new (Low.refl _) _) _)
  have HSZ := Lib.hid (show W0.heap.size = w.heap.size + 1 + 1 by rw [hW0]; simp)
  have ST0 := Lib.hid (show St (w.heap.size + 1) ao cap l ((0 : Nat) : Int) (.ok () a) W0 by rw [hW0]; exact st_start w hw ha1 ha2)
  have BZ0 := Lib.hid fun W (k : Lx (w.heap.size + 1) W0 W) => rd_box12 hW0 k
  have HC := Lib.hid ((expr_all hl ht (12 * leftW l a + 12)) (.ok () a) W0 ST0.out (by show 12 * leftW l a + 12 - 0 ≤ _; omega))
  have hne : w.heap.size ≠ w.heap.size + 1 := by omega
  have hne2 : w.heap.size + 1 ≠ w.heap.size := by omega
  clear ha1 ha2 hw ht
  go_enter Tryd.func17, Tryd.ntmps17
  go_wp2_with fail
  rw [← hW0]
  clear hW0
  refine HC.out.mono ?_
  rintro e w1 ⟨x, p, rfl, x1, s1, l1, ok1⟩
  have X1 := Lib.hid (x1.lower (B' := w.heap.size + 1) (by have := HSZ.out; omega))
  unfold exv
  have L1 := Lib.hid (Lx.to_low LW.out l1 (Nat.le_succ _))
  have HB1 := Lib.hid (show w.heap.size + 1 < w1.heap.size by have := l1.size; have := HSZ.out; omega)
  have G := Lib.hid (BZ0.out _ (l1.alloc (.cells #[.int .i64 x.op, .int .i64 x.v.k, .bool x.v.b, .int .i64 x.v.n, .string ⟨x.v.s.toArray⟩, .string ⟨x.v.t.toArray⟩, .string ⟨x.v.i.toArray⟩, .slice none 0 0, .slice none 0 0, .string ⟨x.nm.toArray⟩, .slice p.ka x.ks.length p.kc, .slice p.na x.ns.length p.nc] 30)))
  have G2 := Lib.hid (BZ0.out _ ((l1.alloc (.cells #[.int .i64 x.op, .int .i64 x.v.k, .bool x.v.b, .int .i64 x.v.n, .string ⟨x.v.s.toArray⟩, .string ⟨x.v.t.toArray⟩, .string ⟨x.v.i.toArray⟩, .slice none 0 0, .slice none 0 0, .string ⟨x.nm.toArray⟩, .slice p.ka x.ks.length p.kc, .slice p.na x.ns.length p.nc] 30)).alloc (.cells #[.int .i64 0, .int .i64 0, .bool false, .int .i64 0, .string ⟨#[]⟩, .string ⟨#[]⟩, .string ⟨#[]⟩, .slice none 0 0, .slice none 0 0, .string ⟨#[]⟩, .slice none 0 0, .slice none 0 0] 30)))
  have S1 := Lib.hid s1
  have OK1 := Lib.hid ok1
  clear s1 ok1 l1 HC
  unfold RdP
  obtain ⟨R, hR⟩ : ∃ R, rdE l (12 * leftW l a + 12) 0 0 a = R := ⟨_, rfl⟩
  have HR := Lib.hid (show rdT l a = R from hR)
  rw [show ((Rd.ok () a).then fun _ a2 => rdE l (12 * leftW l a + 12) 0 0 a2) = R from hR] at S1 OK1
  clear hR
  cases R with
  | bad er pl =>
    obtain ⟨h0, a2, RS⟩ := S1.out
    have z0 : (er != 0) = true := by simpa using h0
    obtain ⟨-, r1, -, r3, r4⟩ := RS.cellsX
    obtain ⟨-, v1, -, v3, v4⟩ := (RS.new (.cells #[.int .i64 x.op, .int .i64 x.v.k, .bool x.v.b, .int .i64 x.v.n, .string ⟨x.v.s.toArray⟩, .string ⟨x.v.t.toArray⟩, .string ⟨x.v.i.toArray⟩, .slice none 0 0, .slice none 0 0, .string ⟨x.nm.toArray⟩, .slice p.ka x.ks.length p.kc, .slice p.na x.ns.length p.nc] 30)).cellsX
    clear RS h0
    obtain ⟨⟨c0, c1, c2, c3, c4, c5, c6, c7, c8, c9, c10, c11⟩, fz⟩ := G2.out
    go_wp2_with fail
    go_region
    all_goals
      go_wp2_with fail
      obtain ⟨E0, E1, E2, E3, E4, E5, E6, E7, E8, E9, E10, E11⟩ := put12 c0 c1 c2 c3 c4 c5 c6 c7 c8 c9 c10 c11
      refine bodyPost_ret (v := .tuple #[.agg #[.int .i64 0, .int .i64 0, .bool false, .int .i64 0, .string ⟨#[]⟩, .string ⟨#[]⟩, .string ⟨#[]⟩, .slice none 0 0, .slice none 0 0, .string ⟨#[]⟩, .slice none 0 0, .slice none 0 0], .int .i64 0, .int .i64 er, .int .i64 (pl : Int)]) (by simp [results, Tryd.results17, go_sem, E0, E1, E2, E3, E4, E5, E6, E7, E8, E9, E10, E11]) rfl ?_
      unfold RdP
      rw [HR.out]
      exact ⟨pl0, rfl, (xAt_leaf _ _ _ _ _), (Lx.to_low (Low.refl w) (tow_lxk (b := w.heap.size) (Lx.of_low (low_new (low_new L1.out _) _)) (Nat.le_refl _)) (Nat.le_refl _)).trans (Low.of_drew ⟨1, rfl⟩)⟩
  | ok y n =>
    obtain ⟨⟨pp, RS⟩, hn1, hn2⟩ := S1.out
    obtain ⟨-, r1, -, r3, r4⟩ := RS.cellsX
    clear RS
    obtain ⟨⟨c0, c1, c2, c3, c4, c5, c6, c7, c8, c9, c10, c11⟩, fz⟩ := G.out
    go_wp2_with fail
    go_region
    all_goals
      go_wp2_with fail
      obtain ⟨E0, E1, E2, E3, E4, E5, E6, E7, E8, E9, E10, E11⟩ := put12 c0 c1 c2 c3 c4 c5 c6 c7 c8 c9 c10 c11
      refine bodyPost_ret (v := .tuple #[.agg #[.int .i64 x.op, .int .i64 x.v.k, .bool x.v.b, .int .i64 x.v.n, .string ⟨x.v.s.toArray⟩, .string ⟨x.v.t.toArray⟩, .string ⟨x.v.i.toArray⟩, .slice none 0 0, .slice none 0 0, .string ⟨x.nm.toArray⟩, .slice p.ka x.ks.length p.kc, .slice p.na x.ns.length p.nc], .int .i64 n, .int .i64 0, .int .i64 0]) (by simp [results, Tryd.results17, go_sem, E0, E1, E2, E3, E4, E5, E6, E7, E8, E9, E10, E11]) rfl ?_
      unfold RdP
      rw [HR.out]
      have hy := OK1.out y n rfl
      subst hy
      exact ⟨p, rfl, (tow_x (w := w) (B := w.heap.size + 1) (X1.out.low (low_new (Low.refl _) _)) (Nat.lt_succ_self _)).low (Low.of_drew ⟨1, rfl⟩), (Lx.to_low (Low.refl w) (tow_lxk (b := w.heap.size) (Lx.of_low (low_new L1.out _)) (Nat.le_refl _)) (Nat.le_refl _)).trans (Low.of_drew ⟨1, rfl⟩)⟩
set_option maxHeartbeats 8000000 in
set_option maxRecDepth 100000 in
theorem uidr_c (hl : l.length ≤ 70000) (ht : ∀ x ∈ l, x.k = 1 → x.t.length ≤ 70000) (a : Int) (ha1 : -9223372036854775808 ≤ a) (ha2 : a ≤ 9223372036854775807) (w : World) (hw : WsQ ao l w) :
    Calls Tryd.prog 15 #[.slice ao l.length cap, .int .i64 a, .func (.func 16) #[] #[]] w (UdP l a w) := by
  obtain ⟨W0, hW0⟩ : ∃ W0, W0 = (w.alloc (.cells #[.string ⟨#[]⟩, .string ⟨#[]⟩] 23)).alloc (.cells #[.slice ao l.length cap, .int .i64 a, .int .i64 0, .int .i64 0, .int .i64 0] 62) := ⟨_, rfl⟩
  have LW := Lib.hid (show Low w W0 by rw [hW0]; exact low_new (low_new (Low.refl _) _) _)
  have HSZ := Lib.hid (show W0.heap.size = w.heap.size + 1 + 1 by rw [hW0]; simp)
  have ST0 := Lib.hid (show St (w.heap.size + 1) ao cap l ((0 : Nat) : Int) (.ok () a) W0 by rw [hW0]; exact st_start w hw ha1 ha2)
  have BZ0 := Lib.hid fun W (k : Lx (w.heap.size + 1) W0 W) => rd_box2 hW0 k
  have HC := Lib.hid (uid_c hl ht (leftW l a) (fun u a2 e => by injection e with _ e; subst e; exact Nat.le_refl _) W0 ST0.out)
  have hne : w.heap.size ≠ w.heap.size + 1 := by omega
  have hne2 : w.heap.size + 1 ≠ w.heap.size := by omega
  clear ha1 ha2 hw ht
  go_enter Tryd.func15, Tryd.ntmps15
  go_wp2_with fail
  rw [← hW0]
  clear hW0
  refine HC.out.mono ?_
  rintro e w1 ⟨t, i, rfl, s1, l1, ok1⟩
  have L1 := Lib.hid (Lx.to_low LW.out l1 (Nat.le_succ _))
  have HB1 := Lib.hid (show w.heap.size + 1 < w1.heap.size by have := l1.size; have := HSZ.out; omega)
  have G := Lib.hid (BZ0.out _ (l1.alloc (.cells #[.string ⟨t.toArray⟩, .string ⟨i.toArray⟩] 23)))
  have G2 := Lib.hid (BZ0.out _ ((l1.alloc (.cells #[.string ⟨t.toArray⟩, .string ⟨i.toArray⟩] 23)).alloc (.cells #[.string ⟨#[]⟩, .string ⟨#[]⟩] 23)))
  have S1 := Lib.hid s1
  have OK1 := Lib.hid ok1
  clear s1 ok1 l1 HC
  unfold UdP
  obtain ⟨R, hR⟩ : ∃ R, uidG l (.ok () a) (leftW l a) = R := ⟨_, rfl⟩
  have HR := Lib.hid (show udT l a = R from hR)
  rw [show uidG l (.ok () a) (leftW l a) = R from hR] at S1 OK1
  clear hR
  cases R with
  | bad er pl =>
    obtain ⟨h0, a2, RS⟩ := S1.out
    have z0 : (er != 0) = true := by simpa using h0
    obtain ⟨-, r1, -, r3, r4⟩ := RS.cellsX
    obtain ⟨-, v1, -, v3, v4⟩ := (RS.new (.cells #[.string ⟨t.toArray⟩, .string ⟨i.toArray⟩] 23)).cellsX
    clear RS h0
    obtain ⟨⟨c0, c1⟩, fz⟩ := G2.out
    go_wp2_with fail
    go_region
    all_goals
      go_wp2_with fail
      obtain ⟨E0, E1⟩ := put2 c0 c1
      refine bodyPost_ret (v := .tuple #[.agg #[.string ⟨#[]⟩, .string ⟨#[]⟩], .int .i64 0, .int .i64 er, .int .i64 (pl : Int)]) (by simp [results, Tryd.results15, go_sem, E0, E1]) rfl ?_
      unfold UdP
      rw [HR.out]
      exact ⟨rfl, (Lx.to_low (Low.refl w) (((Lx.of_low (b := w.heap.size) (low_new (low_new L1.out _) _)).setN _ _ _ (Nat.le_refl _)).setN _ _ _ (Nat.le_refl _)) (Nat.le_refl _)).trans (Low.of_drew ⟨1, rfl⟩)⟩
  | ok y n =>
    obtain ⟨⟨pp, RS⟩, hn1, hn2⟩ := S1.out
    obtain ⟨-, r1, -, r3, r4⟩ := RS.cellsX
    clear RS
    obtain ⟨⟨c0, c1⟩, fz⟩ := G.out
    go_wp2_with fail
    go_region
    all_goals
      go_wp2_with fail
      obtain ⟨E0, E1⟩ := put2 c0 c1
      refine bodyPost_ret (v := .tuple #[.agg #[.string ⟨t.toArray⟩, .string ⟨i.toArray⟩], .int .i64 n, .int .i64 0, .int .i64 0]) (by simp [results, Tryd.results15, go_sem, E0, E1]) rfl ?_
      unfold UdP
      rw [HR.out]
      have hy := OK1.out y n rfl
      subst hy
      exact ⟨rfl, (Lx.to_low (Low.refl w) (((Lx.of_low (b := w.heap.size) (low_new L1.out _)).setN _ _ _ (Nat.le_refl _)).setN _ _ _ (Nat.le_refl _)) (Nat.le_refl _)).trans (Low.of_drew ⟨1, rfl⟩)⟩
theorem boxL12 {w w' : World} {t : TypeId} {x0 : Value} {x1 : Value} {x2 : Value} {x3 : Value} {x4 : Value} {x5 : Value} {x6 : Value} {x7 : Value} {x8 : Value} {x9 : Value} {x10 : Value} {x11 : Value} (h : Low (w.alloc (.cells #[x0, x1, x2, x3, x4, x5, x6, x7, x8, x9, x10, x11] t)) w') : (w'.cell? ⟨w.heap.size, 0, none⟩ = some x0 ∧ w'.cell? ⟨w.heap.size, 1, none⟩ = some x1 ∧ w'.cell? ⟨w.heap.size, 2, none⟩ = some x2 ∧ w'.cell? ⟨w.heap.size, 3, none⟩ = some x3 ∧ w'.cell? ⟨w.heap.size, 4, none⟩ = some x4 ∧ w'.cell? ⟨w.heap.size, 5, none⟩ = some x5 ∧ w'.cell? ⟨w.heap.size, 6, none⟩ = some x6 ∧ w'.cell? ⟨w.heap.size, 7, none⟩ = some x7 ∧ w'.cell? ⟨w.heap.size, 8, none⟩ = some x8 ∧ w'.cell? ⟨w.heap.size, 9, none⟩ = some x9 ∧ w'.cell? ⟨w.heap.size, 10, none⟩ = some x10 ∧ w'.cell? ⟨w.heap.size, 11, none⟩ = some x11) ∧ ∀ j, w'.frozen? ⟨w.heap.size, j, none⟩ = false := by
  have e : w'.heap[w.heap.size]? = (w.alloc (.cells #[x0, x1, x2, x3, x4, x5, x6, x7, x8, x9, x10, x11] t)).heap[w.heap.size]? := h.2.2.2 _ (by simp)
  have g : ∀ j, w'.cell? ⟨w.heap.size, j, none⟩ = #[x0, x1, x2, x3, x4, x5, x6, x7, x8, x9, x10, x11][j]? := fun j => (World.cell?_of_block (a := ⟨w.heap.size, j, none⟩) e).trans (by rw [World.cell?_alloc_mark])
  exact ⟨⟨g 0, g 1, g 2, g 3, g 4, g 5, g 6, g 7, g 8, g 9, g 10, g 11⟩, fun j => (World.frozen?_of_block (a := ⟨w.heap.size, j, none⟩) e).trans (by simp)⟩
theorem boxL2 {w w' : World} {t : TypeId} {x0 : Value} {x1 : Value} (h : Low (w.alloc (.cells #[x0, x1] t)) w') : (w'.cell? ⟨w.heap.size, 0, none⟩ = some x0 ∧ w'.cell? ⟨w.heap.size, 1, none⟩ = some x1) ∧ ∀ j, w'.frozen? ⟨w.heap.size, j, none⟩ = false := by
  have e : w'.heap[w.heap.size]? = (w.alloc (.cells #[x0, x1] t)).heap[w.heap.size]? := h.2.2.2 _ (by simp)
  have g : ∀ j, w'.cell? ⟨w.heap.size, j, none⟩ = #[x0, x1][j]? := fun j => (World.cell?_of_block (a := ⟨w.heap.size, j, none⟩) e).trans (by rw [World.cell?_alloc_mark])
  exact ⟨⟨g 0, g 1⟩, fun j => (World.frozen?_of_block (a := ⟨w.heap.size, j, none⟩) e).trans (by simp)⟩
set_option maxHeartbeats 3200000 in
theorem read8_c (hl : l.length ≤ 70000) (ht : ∀ x ∈ l, x.k = 1 → x.t.length ≤ 70000) (a : Int) (ha1 : -9223372036854775808 ≤ a) (ha2 : a ≤ 9223372036854775807) (w : World) (hw : WsQ ao l w) :
    Calls Tryd.prog 12 #[.slice ao l.length cap, .int .i64 a] w (RdP l a w) := by
  have HC := Lib.hid fun X => exprr_c (cap := cap) hl ht a ha1 ha2 (w.alloc X) (hw.low (low_new (Low.refl w) X))
  clear ha1 ha2 hw ht
  go_enter Tryd.func12, Tryd.ntmps12
  go_wp2_with fail
  refine (HC.out _).mono ?_
  rintro e w1 ⟨p, rfl, x1, l1⟩
  have X1 := Lib.hid x1
  unfold exv
  have L1 := Lib.hid l1
  obtain ⟨⟨c0, c1, c2, c3, c4, c5, c6, c7, c8, c9, c10, c11⟩, fz⟩ := boxL12 l1
  clear l1 HC x1
  go_wp2_with fail
  obtain ⟨E0, E1, E2, E3, E4, E5, E6, E7, E8, E9, E10, E11⟩ := put12 c0 c1 c2 c3 c4 c5 c6 c7 c8 c9 c10 c11
  refine bodyPost_ret (v := .tuple #[.agg #[.int .i64 (rdT l a).ex.op, .int .i64 (rdT l a).ex.v.k, .bool (rdT l a).ex.v.b, .int .i64 (rdT l a).ex.v.n, .string ⟨(rdT l a).ex.v.s.toArray⟩, .string ⟨(rdT l a).ex.v.t.toArray⟩, .string ⟨(rdT l a).ex.v.i.toArray⟩, .slice none 0 0, .slice none 0 0, .string ⟨(rdT l a).ex.nm.toArray⟩, .slice p.ka (rdT l a).ex.ks.length p.kc, .slice p.na (rdT l a).ex.ns.length p.nc], .int .i64 (rdT l a).num.1, .int .i64 (rdT l a).num.2.1, .int .i64 (rdT l a).num.2.2]) (by simp [results, Tryd.results12, go_sem, E0, E1, E2, E3, E4, E5, E6, E7, E8, E9, E10, E11]) rfl ?_
  exact ⟨p, rfl, tow_x (w := w) (B := w.heap.size + 1) (X1.out.lower (by simp)) (Nat.lt_succ_self _), Lx.to_low (Low.refl w) (tow_lxk (b := w.heap.size) (Lx.of_low ((low_new (Low.refl w) _).trans L1.out)) (Nat.le_refl _)) (Nat.le_refl _)⟩
set_option maxHeartbeats 3200000 in
theorem uid8_c (hl : l.length ≤ 70000) (ht : ∀ x ∈ l, x.k = 1 → x.t.length ≤ 70000) (a : Int) (ha1 : -9223372036854775808 ≤ a) (ha2 : a ≤ 9223372036854775807) (w : World) (hw : WsQ ao l w) :
    Calls Tryd.prog 11 #[.slice ao l.length cap, .int .i64 a] w (UdP l a w) := by
  have HC := Lib.hid fun X => uidr_c (cap := cap) hl ht a ha1 ha2 (w.alloc X) (hw.low (low_new (Low.refl w) X))
  clear ha1 ha2 hw ht
  go_enter Tryd.func11, Tryd.ntmps11
  go_wp2_with fail
  refine (HC.out _).mono ?_
  rintro e w1 ⟨rfl, l1⟩
  have L1 := Lib.hid l1
  obtain ⟨⟨c0, c1⟩, fz⟩ := boxL2 l1
  clear l1 HC
  go_wp2_with fail
  obtain ⟨E0, E1⟩ := put2 c0 c1
  refine bodyPost_ret (v := .tuple #[.agg #[.string ⟨(udT l a).getU.1.toArray⟩, .string ⟨(udT l a).getU.2.toArray⟩], .int .i64 (udT l a).num.1, .int .i64 (udT l a).num.2.1, .int .i64 (udT l a).num.2.2]) (by simp [results, Tryd.results11, go_sem, E0, E1]) rfl ?_
  exact ⟨rfl, Lx.to_low (Low.refl w) (((Lx.of_low (b := w.heap.size) ((low_new (Low.refl w) _).trans L1.out)).setN _ _ _ (Nat.le_refl _)).setN _ _ _ (Nat.le_refl _)) (Nat.le_refl _)⟩
end
end Go.Proofs.YtflpidnkppljlaaDoor
