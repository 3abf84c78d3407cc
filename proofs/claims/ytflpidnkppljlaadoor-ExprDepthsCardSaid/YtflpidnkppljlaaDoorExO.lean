/- Lists of items with commas between. Condition: the words are no more than 70000; what an item reads. A set's items and a record's fields as lists. No condition. -/
import Derived.Test.YtflpidnkppljlaaDoorExpL
set_option linter.unusedVariables false
set_option linter.unnecessarySimpa false
set_option linter.unusedSimpArgs false
namespace Go.Proofs.YtflpidnkppljlaaDoor
open Go.RowKit
abbrev ItF := Nat → Rd Unit → Rd (Ex × List (List UInt8))
abbrev NxF := Nat → List Ex → List (List UInt8) → Int → Rd Ex
section
variable {b : Nat} {ao : Option Addr} {cap : Nat} {l : List Wd} {op : Int} {W1 : World}
/-- What a list's items are, and how it goes on. -/
structure LstF (l : List Wd) (op : Int) (en : List UInt8) (item : ItF) (nx : NxF) : Prop where
  nx : ∀ f xs ss a, nx (f + 1) xs ss a = (item f (.ok () a)).then fun y n => if isW l n 5 [44] = true then nx f (xs ++ [y.1]) (ss ++ y.2) (n + 1) else (mustW l 5 en n).then fun _ n => .ok (.mk op li0 [] (xs ++ [y.1]) (ss ++ y.2)) n
  adv : ∀ f a y n, item f (.ok () a) = .ok y n → 0 ≤ a ∧ a < n ∧ n ≤ (l.length : Int) ∧ y.2.length ≤ 1
/-- How a list goes on behind an item. -/
def LstK (l : List Wd) (op : Int) (en : List UInt8) (nx : NxF) (R : Rd Ex) (f : Nat) (s : Rd Unit) (xs : List (Ex × Pl)) (ys : List (List UInt8)) : Prop :=
  (∀ e p, s = .bad e p → R = .bad e p) ∧ ∀ n, s = .ok () n → (R = if isW l n 5 [44] = true then nx f (xs.map (·.1)) ys (n + 1) else (mustW l 5 en n).then fun _ n => .ok (.mk op li0 [] (xs.map (·.1)) ys) n) ∧ 12 * leftW l n + 1 ≤ f ∧ 0 ≤ n ∧ (xs.length : Int) ≤ n ∧ (ys.length : Int) ≤ n ∧ n ≤ (l.length : Int)
theorem lstK_step {en : List UInt8} {item : ItF} {nx : NxF} (hF : LstF l op en item nx) {R : Rd Ex} {f : Nat} {a : Int} {xs : List (Ex × Pl)} {ys : List (List UInt8)} (hR : R = nx (f + 1) (xs.map (·.1)) ys a) (hf : 12 * leftW l a + 12 ≤ f) (hx : (xs.length : Int) ≤ a) (hy : (ys.length : Int) ≤ a) {x : Ex} {q : Pl} {t : List (List UInt8)} (ok : ∀ y n, item f (.ok () a) = .ok y n → (x, t) = y) :
    LstK l op en nx R f (item f (.ok () a)).unit (xs ++ [(x, q)]) (ys ++ t) := by
  rw [hR, hF.nx]
  cases hr : item f (.ok () a) with
  | bad e p => exact ⟨fun e' p' h => by injection h with h1 h2; subst h1 h2; rfl, fun n h => by cases h⟩
  | ok y m =>
    obtain rfl := ok y m hr
    have h1 := hF.adv _ _ _ _ hr
    have h2 := left_less h1.1 h1.2.1 h1.2.2.1
    have h3 : t.length ≤ 1 := h1.2.2.2
    refine ⟨fun e' p' h => (by cases h), fun n h => ?_⟩
    injection h with _ h
    subst h
    refine ⟨by simp [Rd.then], by omega, by omega, by simp; omega, by simp; omega, h1.2.2.1⟩
set_option maxHeartbeats 8000000 in
theorem list1_c (hl : l.length ≤ 70000) {d f : Nat} {a : Int} (en : List UInt8) (item : ItF) (nx : NxF) (hF : LstF l op en item nx) (br : Nat) (w : World) (h : St b ao cap l (d : Int) (.ok () a) w) (p : Pl) (he : ES b op W1 w p [] []) (ha : 0 ≤ a)
    (hf : 12 * leftW l a + 13 ≤ f)
    (ih : ∀ f' s W p xs ys, f' ≤ f → St b ao cap l (d : Int) s W → ES b op W1 W p xs ys → xs.length ≤ 70000 → ys.length ≤ 70000 → (∃ a, s = .ok () a ∧ 12 * leftW l a + 12 ≤ f') → Calls Tryd.prog 90 #[.pointer (some ⟨W1.heap.size, 0, none⟩), .pointer (some ⟨br, 0, none⟩)] W (ItP b ao cap l d op W1 xs ys (item f' s))) :
    Calls Tryd.prog 89 #[.pointer (some ⟨b, 0, none⟩), .string ⟨en.toArray⟩, .func (.func 90) #[] #[.pointer (some ⟨W1.heap.size, 0, none⟩), .pointer (some ⟨br, 0, none⟩)]] w fun e w' => e = .returned (.tuple #[]) ∧ ∃ xs ys p', ES b op W1 w' p' xs ys ∧
      St b ao cap l (d : Int) (if isW l a 5 en = true then .ok (.mk op li0 [] [] []) (a + 1) else nx f [] [] a).unit w' ∧ ∀ y n, (if isW l a 5 en = true then .ok (.mk op li0 [] [] []) (a + 1) else nx f [] [] a) = .ok y n → .mk op li0 [] (xs.map (·.1)) ys = y := by
  have HE := Lib.hid he
  have HI := Lib.hid ih
  have HT := Lib.hid (takes_c hl 5 (by decide) en w h)
  have H := Lib.hid h
  have HFF := Lib.hid hF
  clear ih he h hF
  obtain ⟨q, hq⟩ : ∃ q, isW l a 5 en = q := ⟨_, rfl⟩
  have hq' : tkB l (.ok () a) 5 en = q := hq
  have hs : tkS l (.ok () a) 5 en = if q = true then .ok () (a + 1) else .ok () a := by rw [← hq]; rfl
  rw [hq', hs] at HT
  rw [hq]
  cases q with
  | true =>
    simp only [if_true] at HT ⊢
    clear hq hq' hs
    go_enter Tryd.func89, Tryd.ntmps89
    go_wp2_with fail
    refine HT.out.mono ?_
    rintro e w1 ⟨rfl, s1, l1⟩
    have S1 := Lib.hid s1
    have L1 := Lib.hid l1
    clear s1 l1
    go_wp2_with fail
    go_returns
    exact ⟨rfl, [], [], p, HE.out.lxw L1.out, S1.out, fun y n h => by injection h⟩
  | false =>
    simp only [Bool.false_eq_true, if_false] at HT ⊢
    obtain ⟨f0, rfl⟩ : ∃ f0, f = f0 + 1 := ⟨f - 1, by omega⟩
    have HST := Lib.hid fun (x : Ex) (q : Pl) (t : List (List UInt8)) (ok : ∀ y n, item f0 (.ok () a) = .ok y n → (x, t) = y) => lstK_step HFF.out (R := nx (f0 + 1) [] [] a) (xs := []) (ys := []) (q := q) rfl (show 12 * leftW l a + 12 ≤ f0 by omega) ha ha ok
    have HF0 := Lib.hid (show 12 * leftW l a + 12 ≤ f0 by omega)
    clear hq hq' hs hf
    generalize nx (f0 + 1) [] [] a = R at *
    go_enter Tryd.func89, Tryd.ntmps89
    go_wp2_with fail
    refine HT.out.mono ?_
    rintro e w1 ⟨rfl, s1, l1⟩
    have S1 := Lib.hid s1
    have E1 := Lib.hid (HE.out.lxw l1)
    clear s1 l1 HT
    go_wp2_with fail
    refine (HI.out f0 _ _ _ _ _ (Nat.le_succ _) S1.out E1.out (by simp) (by simp) ⟨a, rfl, HF0.out⟩).mono ?_
    rintro e w2 ⟨rfl, x, q, t, p2, e2, s2, ok2⟩
    have E2 := Lib.hid e2
    have S2 := Lib.hid s2
    have K2 := Lib.hid (HST.out x q t ok2)
    clear e2 s2 ok2 HST
    go_wp2_with fail
    go_loopg [12] f0 (fun gk vv wr => ∃ (si : Rd Unit) (xs : List (Ex × Pl)) (ys : List (List UInt8)) (pi : Pl) (fi : Nat), fi ≤ gk ∧ fi ≤ f0 ∧ Hid (St b ao cap l (d : Int) si wr) ∧ Hid (ES b op W1 wr pi xs ys) ∧ Hid (LstK l op en nx R fi si xs ys))
    case atStart => exact ⟨_, _, _, p2, f0, Nat.le_refl _, Nat.le_refl _, S2, E2, K2⟩
    case round =>
      obtain ⟨si, xs, ys, pi, fi, hg, hfi, SI, EI, K⟩ := hrel
      have HT2 := Lib.hid (takes_c hl 5 (by decide) [44] wr SI.out)
      obtain ⟨q2, hq2⟩ : ∃ q2, tkB l si 5 [44] = q2 := ⟨_, rfl⟩
      rw [hq2] at HT2
      cases q2 with
      | true =>
        obtain ⟨n, rfl, hn, hS⟩ := tkS_yes (by decide) hq2
        rw [hS] at HT2
        have hk := K.out.2 (n : Int) rfl
        rw [if_pos (show isW l (n : Int) 5 [44] = true from hq2)] at hk
        obtain ⟨k1, k2, k3, k4, k5, k6⟩ := hk
        obtain ⟨f1, rfl⟩ : ∃ f1, fi = f1 + 1 := ⟨fi - 1, by omega⟩
        have hll := left_less (l := l) (a := (n : Int)) (n := (n : Int) + 1) (by omega) (by omega) (by omega)
        have HST := Lib.hid fun (x : Ex) (q : Pl) (t : List (List UInt8)) (ok : ∀ y m, item f1 (.ok () ((n : Int) + 1)) = .ok y m → (x, t) = y) => lstK_step HFF.out (q := q) k1 (show 12 * leftW l ((n : Int) + 1) + 12 ≤ f1 by omega) (by omega) (by omega) ok
        have HF1 := Lib.hid (show 12 * leftW l ((n : Int) + 1) + 12 ≤ f1 by omega)
        have HXX := Lib.hid (show xs.length ≤ 70000 by omega)
        have HYY := Lib.hid (show ys.length ≤ 70000 by omega)
        clear k1 k2 k3 k4 k5 k6 hq2 hS hll
        go_wp2_with fail
        refine HT2.out.mono ?_
        rintro e w3 ⟨rfl, s3, l3⟩
        have S3 := Lib.hid s3
        have E3 := Lib.hid (EI.out.lxw l3)
        clear s3 l3 HT2
        go_wp2_with fail
        refine (HI.out f1 _ _ _ _ _ (by omega) S3.out E3.out HXX.out HYY.out ⟨_, rfl, HF1.out⟩).mono ?_
        rintro e w4 ⟨rfl, x4, q4, t4, p4, e4, s4, ok4⟩
        have E4 := Lib.hid e4
        have S4 := Lib.hid s4
        have K4 := Lib.hid (HST.out x4 q4 t4 ok4)
        clear e4 s4 ok4 HST
        go_wp2_with fail
        go_roundg f1
        case measure => omega
        case rel => exact ⟨_, _, _, p4, f1, Nat.le_refl _, by omega, S4, E4, K4⟩
      | false =>
        have E := Lib.hid (tkS_no hq2)
        have HEND : Hid (R.unit = mustS l si 5 en ∧ ∀ y n, R = .ok y n → .mk op li0 [] (xs.map (·.1)) ys = y) := Lib.hid (by
          obtain ⟨k1, k2⟩ := K.out
          cases si with
          | bad e p => rw [k1 e p rfl]; exact ⟨rfl, fun y n h => by cases h⟩
          | ok u n =>
            have k3 := (k2 n rfl).1
            rw [if_neg (by rw [show isW l n 5 [44] = false from hq2]; decide)] at k3
            rw [k3]
            unfold mustS
            simp only [Rd.then]
            cases mustW l 5 en n with
            | bad e p => exact ⟨rfl, fun y n h => by cases h⟩
            | ok u m => exact ⟨rfl, fun y n h => by injection h⟩)
        clear hq2
        go_wp2_with fail
        refine HT2.out.mono ?_
        rintro e w3 ⟨rfl, s3, l3⟩
        rw [E.out] at s3
        have S3 := Lib.hid s3
        have E3 := Lib.hid (EI.out.lxw l3)
        clear s3 l3 HT2
        go_wp2_with fail
        refine (must_c hl 5 (by decide) en _ S3.out).mono ?_
        rintro e w4 ⟨rfl, s4, l4⟩
        have S4 := Lib.hid s4
        have E4 := Lib.hid (E3.out.lxw l4)
        clear s4 l4
        go_wp2_with fail
        go_returns
        exact ⟨rfl, xs, ys, pi, E4.out, by rw [HEND.out.1]; exact S4.out, HEND.out.2⟩
set_option maxHeartbeats 8000000 in
theorem list2_c (hl : l.length ≤ 70000) {d f : Nat} {a : Int} (en : List UInt8) (item : ItF) (nx : NxF) (hF : LstF l op en item nx) (br : Nat) (w : World) (h : St b ao cap l (d : Int) (.ok () a) w) (p : Pl) (he : ES b op W1 w p [] []) (ha : 0 ≤ a)
    (hf : 12 * leftW l a + 13 ≤ f)
    (ih : ∀ f' s W p xs ys, f' ≤ f → St b ao cap l (d : Int) s W → ES b op W1 W p xs ys → xs.length ≤ 70000 → ys.length ≤ 70000 → (∃ a, s = .ok () a ∧ 12 * leftW l a + 12 ≤ f') → Calls Tryd.prog 91 #[.pointer (some ⟨W1.heap.size, 0, none⟩), .pointer (some ⟨br, 0, none⟩)] W (ItP b ao cap l d op W1 xs ys (item f' s))) :
    Calls Tryd.prog 89 #[.pointer (some ⟨b, 0, none⟩), .string ⟨en.toArray⟩, .func (.func 91) #[] #[.pointer (some ⟨W1.heap.size, 0, none⟩), .pointer (some ⟨br, 0, none⟩)]] w fun e w' => e = .returned (.tuple #[]) ∧ ∃ xs ys p', ES b op W1 w' p' xs ys ∧
      St b ao cap l (d : Int) (if isW l a 5 en = true then .ok (.mk op li0 [] [] []) (a + 1) else nx f [] [] a).unit w' ∧ ∀ y n, (if isW l a 5 en = true then .ok (.mk op li0 [] [] []) (a + 1) else nx f [] [] a) = .ok y n → .mk op li0 [] (xs.map (·.1)) ys = y := by
  have HE := Lib.hid he
  have HI := Lib.hid ih
  have HT := Lib.hid (takes_c hl 5 (by decide) en w h)
  have H := Lib.hid h
  have HFF := Lib.hid hF
  clear ih he h hF
  obtain ⟨q, hq⟩ : ∃ q, isW l a 5 en = q := ⟨_, rfl⟩
  have hq' : tkB l (.ok () a) 5 en = q := hq
  have hs : tkS l (.ok () a) 5 en = if q = true then .ok () (a + 1) else .ok () a := by rw [← hq]; rfl
  rw [hq', hs] at HT
  rw [hq]
  cases q with
  | true =>
    simp only [if_true] at HT ⊢
    clear hq hq' hs
    go_enter Tryd.func89, Tryd.ntmps89
    go_wp2_with fail
    refine HT.out.mono ?_
    rintro e w1 ⟨rfl, s1, l1⟩
    have S1 := Lib.hid s1
    have L1 := Lib.hid l1
    clear s1 l1
    go_wp2_with fail
    go_returns
    exact ⟨rfl, [], [], p, HE.out.lxw L1.out, S1.out, fun y n h => by injection h⟩
  | false =>
    simp only [Bool.false_eq_true, if_false] at HT ⊢
    obtain ⟨f0, rfl⟩ : ∃ f0, f = f0 + 1 := ⟨f - 1, by omega⟩
    have HST := Lib.hid fun (x : Ex) (q : Pl) (t : List (List UInt8)) (ok : ∀ y n, item f0 (.ok () a) = .ok y n → (x, t) = y) => lstK_step HFF.out (R := nx (f0 + 1) [] [] a) (xs := []) (ys := []) (q := q) rfl (show 12 * leftW l a + 12 ≤ f0 by omega) ha ha ok
    have HF0 := Lib.hid (show 12 * leftW l a + 12 ≤ f0 by omega)
    clear hq hq' hs hf
    generalize nx (f0 + 1) [] [] a = R at *
    go_enter Tryd.func89, Tryd.ntmps89
    go_wp2_with fail
    refine HT.out.mono ?_
    rintro e w1 ⟨rfl, s1, l1⟩
    have S1 := Lib.hid s1
    have E1 := Lib.hid (HE.out.lxw l1)
    clear s1 l1 HT
    go_wp2_with fail
    refine (HI.out f0 _ _ _ _ _ (Nat.le_succ _) S1.out E1.out (by simp) (by simp) ⟨a, rfl, HF0.out⟩).mono ?_
    rintro e w2 ⟨rfl, x, q, t, p2, e2, s2, ok2⟩
    have E2 := Lib.hid e2
    have S2 := Lib.hid s2
    have K2 := Lib.hid (HST.out x q t ok2)
    clear e2 s2 ok2 HST
    go_wp2_with fail
    go_loopg [12] f0 (fun gk vv wr => ∃ (si : Rd Unit) (xs : List (Ex × Pl)) (ys : List (List UInt8)) (pi : Pl) (fi : Nat), fi ≤ gk ∧ fi ≤ f0 ∧ Hid (St b ao cap l (d : Int) si wr) ∧ Hid (ES b op W1 wr pi xs ys) ∧ Hid (LstK l op en nx R fi si xs ys))
    case atStart => exact ⟨_, _, _, p2, f0, Nat.le_refl _, Nat.le_refl _, S2, E2, K2⟩
    case round =>
      obtain ⟨si, xs, ys, pi, fi, hg, hfi, SI, EI, K⟩ := hrel
      have HT2 := Lib.hid (takes_c hl 5 (by decide) [44] wr SI.out)
      obtain ⟨q2, hq2⟩ : ∃ q2, tkB l si 5 [44] = q2 := ⟨_, rfl⟩
      rw [hq2] at HT2
      cases q2 with
      | true =>
        obtain ⟨n, rfl, hn, hS⟩ := tkS_yes (by decide) hq2
        rw [hS] at HT2
        have hk := K.out.2 (n : Int) rfl
        rw [if_pos (show isW l (n : Int) 5 [44] = true from hq2)] at hk
        obtain ⟨k1, k2, k3, k4, k5, k6⟩ := hk
        obtain ⟨f1, rfl⟩ : ∃ f1, fi = f1 + 1 := ⟨fi - 1, by omega⟩
        have hll := left_less (l := l) (a := (n : Int)) (n := (n : Int) + 1) (by omega) (by omega) (by omega)
        have HST := Lib.hid fun (x : Ex) (q : Pl) (t : List (List UInt8)) (ok : ∀ y m, item f1 (.ok () ((n : Int) + 1)) = .ok y m → (x, t) = y) => lstK_step HFF.out (q := q) k1 (show 12 * leftW l ((n : Int) + 1) + 12 ≤ f1 by omega) (by omega) (by omega) ok
        have HF1 := Lib.hid (show 12 * leftW l ((n : Int) + 1) + 12 ≤ f1 by omega)
        have HXX := Lib.hid (show xs.length ≤ 70000 by omega)
        have HYY := Lib.hid (show ys.length ≤ 70000 by omega)
        clear k1 k2 k3 k4 k5 k6 hq2 hS hll
        go_wp2_with fail
        refine HT2.out.mono ?_
        rintro e w3 ⟨rfl, s3, l3⟩
        have S3 := Lib.hid s3
        have E3 := Lib.hid (EI.out.lxw l3)
        clear s3 l3 HT2
        go_wp2_with fail
        refine (HI.out f1 _ _ _ _ _ (by omega) S3.out E3.out HXX.out HYY.out ⟨_, rfl, HF1.out⟩).mono ?_
        rintro e w4 ⟨rfl, x4, q4, t4, p4, e4, s4, ok4⟩
        have E4 := Lib.hid e4
        have S4 := Lib.hid s4
        have K4 := Lib.hid (HST.out x4 q4 t4 ok4)
        clear e4 s4 ok4 HST
        go_wp2_with fail
        go_roundg f1
        case measure => omega
        case rel => exact ⟨_, _, _, p4, f1, Nat.le_refl _, by omega, S4, E4, K4⟩
      | false =>
        have E := Lib.hid (tkS_no hq2)
        have HEND : Hid (R.unit = mustS l si 5 en ∧ ∀ y n, R = .ok y n → .mk op li0 [] (xs.map (·.1)) ys = y) := Lib.hid (by
          obtain ⟨k1, k2⟩ := K.out
          cases si with
          | bad e p => rw [k1 e p rfl]; exact ⟨rfl, fun y n h => by cases h⟩
          | ok u n =>
            have k3 := (k2 n rfl).1
            rw [if_neg (by rw [show isW l n 5 [44] = false from hq2]; decide)] at k3
            rw [k3]
            unfold mustS
            simp only [Rd.then]
            cases mustW l 5 en n with
            | bad e p => exact ⟨rfl, fun y n h => by cases h⟩
            | ok u m => exact ⟨rfl, fun y n h => by injection h⟩)
        clear hq2
        go_wp2_with fail
        refine HT2.out.mono ?_
        rintro e w3 ⟨rfl, s3, l3⟩
        rw [E.out] at s3
        have S3 := Lib.hid s3
        have E3 := Lib.hid (EI.out.lxw l3)
        clear s3 l3 HT2
        go_wp2_with fail
        refine (must_c hl 5 (by decide) en _ S3.out).mono ?_
        rintro e w4 ⟨rfl, s4, l4⟩
        have S4 := Lib.hid s4
        have E4 := Lib.hid (E3.out.lxw l4)
        clear s4 l4
        go_wp2_with fail
        go_returns
        exact ⟨rfl, xs, ys, pi, E4.out, by rw [HEND.out.1]; exact S4.out, HEND.out.2⟩
end
end Go.Proofs.YtflpidnkppljlaaDoor
namespace Go.Proofs.YtflpidnkppljlaaDoor
open Go.RowKit
section
variable {b : Nat} {ao : Option Addr} {cap : Nat} {l : List Wd}
def itS (l : List Wd) (d : Nat) : ItF := fun f s => (s.then fun _ a => rdE l f 0 d a).then fun x n => .ok (x, []) n
def nxS (l : List Wd) (d : Nat) : NxF := fun f xs ss a => (setE l f d xs a).then fun x n => .ok (.mk 19 li0 [] x.ks ss) n
def itR (l : List Wd) (d : Nat) : ItF := fun f s => ((mustS l (fldS l s).unit 5 [58]).then fun _ a => rdE l f 0 d a).then fun x n => .ok (x, [(fldS l s).getL]) n
def nxR (l : List Wd) (d : Nat) : NxF := fun f xs ss a => recE l f d xs ss a
theorem then_assoc {α β γ : Type} (r : Rd α) (g : α → Int → Rd β) (h : β → Int → Rd γ) : (r.then g).then h = r.then fun x n => (g x n).then h := by cases r <;> rfl
theorem then_if {α β : Type} (q : Bool) (x y : Rd α) (h : α → Int → Rd β) : (if q = true then x else y).then h = if q = true then x.then h else y.then h := by cases q <;> rfl
theorem lstS (d : Nat) : LstF l 19 [93] (itS l d) (nxS l d) where
  nx f xs ss a := by
    show (setE l (f + 1) d xs a).then _ = ((rdE l f 0 d a).then _).then _
    rw [setE]
    cases rdE l f 0 d a with
    | bad e p => rfl
    | ok x n => cases hq : isW l n 5 [44] <;> cases hm : mustW l 5 [93] n <;> simp [Rd.then, hq, hm, nxS, Ex.ks]
  adv f a y n h := by
    obtain ⟨x, m, h1, h2⟩ := then_ok.1 h
    have h3 := (advE (l := l) f).rd _ _ _ _ _ h1
    injection h2 with h2 h4
    subst h2 h4
    exact ⟨h3.1, h3.2.1, h3.2.2, Nat.zero_le _⟩
theorem recR_eq (d f : Nat) (a : Int) : itR l d f (.ok () a) = (textW l (if (wdA l a).k = 3 then 3 else 1) a).then fun t n => (mustW l 5 [58] n).then fun _ n => (rdE l f 0 d n).then fun x n => .ok (x, [t]) n := by
  unfold itR fldS mustS
  simp only [Rd.then]
  cases textW l (if (wdA l a).k = 3 then 3 else 1) a with
  | bad e p => rfl
  | ok t n =>
    simp only [Rd.unit, Rd.then, Rd.getL]
    cases mustW l 5 [58] n with
    | bad e p => rfl
    | ok u m => rfl
theorem lstR (d : Nat) : LstF l 20 [125] (itR l d) (nxR l d) where
  nx f xs ss a := by
    rw [recR_eq]
    show recE l (f + 1) d xs ss a = _
    rw [recE]
    cases textW l (if (wdA l a).k = 3 then 3 else 1) a with
    | bad e p => rfl
    | ok t n =>
      simp only [Rd.then]
      cases mustW l 5 [58] n with
      | bad e p => rfl
      | ok u m =>
        simp only [Rd.then]
        cases rdE l f 0 d m with
        | bad e p => rfl
        | ok x k => rfl
  adv f a y n h := by
    rw [recR_eq] at h
    obtain ⟨t, m, h1, h2⟩ := then_ok.1 h
    obtain ⟨_, m2, h3, h4⟩ := then_ok.1 h2
    obtain ⟨x, m3, h5, h6⟩ := then_ok.1 h4
    have a1 := textW_ok h1 (by split <;> decide)
    have a2 := mustW_ok h3 (by decide)
    have a3 := (advE (l := l) f).rd _ _ _ _ _ h5
    injection h6 with h6 h7
    subst h6 h7
    exact ⟨a1.1, by omega, a3.2.2, Nat.le_refl _⟩
theorem setE_form (d : Nat) : ∀ (f : Nat) (xs : List Ex) (a : Int) (x : Ex) (n : Int), setE l f d xs a = .ok x n → x = .mk 19 li0 [] x.ks []
  | 0, xs, a, x, n, h => by simp only [setE] at h; exact (badF_ok h).elim
  | f + 1, xs, a, x, n, h => by
    simp only [setE] at h
    obtain ⟨y, m, h1, h2⟩ := then_ok.1 h
    split at h2
    · exact setE_form d f _ _ _ _ h2
    · obtain ⟨_, m2, h3, h4⟩ := then_ok.1 h2
      injection h4 with h4 _
      subst h4; rfl
theorem nxS_eq (d f : Nat) (a : Int) : nxS l d f [] [] a = setE l f d [] a := by
  unfold nxS
  cases h : setE l f d [] a with
  | bad e p => rfl
  | ok x n => simp only [Rd.then]; rw [← setE_form d f [] a x n h]
/-- What stands in brackets of whatever kind. -/
def brackR (l : List Wd) (f d : Nat) (a : Int) : Rd Ex :=
  if isW l a 5 [40] = true then (rdE l f 0 d (a + 1)).then fun x n => (mustW l 5 [41] n).then fun _ n => .ok x n
  else if isW l a 5 [91] = true then (if isW l (a + 1) 5 [93] = true then .ok (.mk 19 li0 [] [] []) (a + 2) else setE l f d [] (a + 1))
  else if isW l a 5 [123] = true then (if isW l (a + 1) 5 [125] = true then .ok (.mk 20 li0 [] [] []) (a + 2) else recE l f d [] [] (a + 1))
  else badF l a
end
end Go.Proofs.YtflpidnkppljlaaDoor
