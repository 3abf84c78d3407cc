/- Rows of operators, from left to right. Condition: the words are no more than 70000; what the next level reads. -/
import Derived.Test.YtflpidnkppljlaaDoorExU
import Derived.Deep.RegionLaw
set_option linter.unusedVariables false
set_option linter.unnecessarySimpa false
set_option linter.unusedSimpArgs false
namespace Go.Proofs.YtflpidnkppljlaaDoor
open Go.RowKit
section
variable {b : Nat} {ao : Option Addr} {cap : Nat} {l : List Wd}
/-- Are the steps enough? -/
def Ms (l : List Wd) (f lv : Nat) (s : Rd Unit) : Prop := match s with | .ok _ a => 12 * leftW l a + 12 - lv ≤ f | .bad _ _ => 12 - lv ≤ f
/-- A rule keeps its word with so many steps. -/
def RuleC (b : Nat) (ao : Option Addr) (cap : Nat) (l : List Wd) (F lv f d : Nat) : Prop :=
  ∀ (s : Rd Unit) (W : World), St b ao cap l (d : Int) s W → Ms l f lv s → Calls Tryd.prog F #[.pointer (some ⟨b, 0, none⟩)] W (RuleP b ao cap l (d : Int) (s.then fun _ a => rdE l f lv d a) W)
theorem opS_zero {s : Rd Unit} {ops : List (List UInt8 × Int)} (h : ∀ o ∈ ops, o.2 ≠ 0) (h0 : opL l s ops = 0) : opS l s ops = s := by
  induction ops with
  | nil => rfl
  | cons o r ih =>
    obtain ⟨m, o⟩ := o
    unfold opL at h0
    unfold opS
    by_cases hq : tkB l s 5 m = true
    · rw [if_pos hq] at h0; exact absurd h0 (h (m, o) (by simp))
    · rw [if_neg hq] at h0 ⊢; exact ih (fun o ho => h o (by simp [ho])) h0
theorem opS_pos {s : Rd Unit} {ops : List (List UInt8 × Int)} (h0 : opL l s ops ≠ 0) : ∃ n : Nat, s = .ok () (n : Int) ∧ n < l.length ∧ opS l s ops = .ok () ((n : Int) + 1) := by
  induction ops with
  | nil => exact absurd rfl h0
  | cons o r ih =>
    obtain ⟨m, o⟩ := o
    unfold opL at h0
    unfold opS
    by_cases hq : tkB l s 5 m = true
    · rw [if_pos hq]; exact tkS_yes (by decide) hq
    · rw [if_neg hq] at h0 ⊢; exact ih h0
theorem opL_bad {e : Int} {p : Nat} {ops : List (List UInt8 × Int)} : opL l (.bad e p) ops = 0 := by
  induction ops with
  | nil => rfl
  | cons o r ih => obtain ⟨m, o⟩ := o; unfold opL; exact ih
/-- How a row goes on. -/
def RowK (l : List Wd) (lv d : Nat) (R : Rd Ex) (ops : List (List UInt8 × Int)) (f : Nat) (x : Ex) (r : Rd Unit) : Prop :=
  R = (r.then fun _ n => rowE l f lv d x n) ∧ match r with | .ok _ n => 12 * leftW l n + 1 ≤ f | .bad _ _ => True
theorem rowK_start {lv d f : Nat} {s : Rd Unit} {ops : List (List UInt8 × Int)} {x : Ex} (hm : Ms l (f + 1) lv s) (hlv : lv ≤ 5) (ok : ∀ y n, (s.then fun _ a => rdE l f (lv + 1) d a) = .ok y n → x = y) :
    RowK l lv d ((s.then fun _ a => rdE l f (lv + 1) d a).then fun x n => rowE l f lv d x n) ops f x (s.then fun _ a => rdE l f (lv + 1) d a).unit := by
  cases s with
  | bad e p => exact ⟨rfl, trivial⟩
  | ok u a =>
    simp only [Rd.then] at ok ⊢
    cases hr : rdE l f (lv + 1) d a with
    | bad e p => exact ⟨rfl, trivial⟩
    | ok y n =>
      obtain rfl := ok y n hr
      refine ⟨rfl, ?_⟩
      have h1 := (advE (l := l) f).rd _ _ _ _ _ hr
      have h2 := left_less h1.1 h1.2.1 h1.2.2
      have h3 : 12 * leftW l a + 12 - lv ≤ f + 1 := hm
      show 12 * leftW l n + 1 ≤ f
      omega
theorem rowK_end {lv d f : Nat} {R : Rd Ex} {s : Rd Unit} {ops : List (List UInt8 × Int)} {x : Ex} (h : RowK l lv d R ops f x s) (h0 : opL l s ops = 0) (ho : ∀ u a, s = .ok u a → opL l s ops = opAt l lv a) : R.unit = s ∧ ∀ y n, R = .ok y n → x = y := by
  obtain ⟨rfl, h2⟩ := h
  cases s with
  | bad e p => exact ⟨rfl, fun y n h => by cases h⟩
  | ok u a =>
    obtain ⟨f', rfl⟩ : ∃ f', f = f' + 1 := ⟨f - 1, by have : 12 * leftW l a + 1 ≤ f := h2; omega⟩
    have e : opAt l lv a = 0 := by rw [← ho u a rfl]; exact h0
    simp only [Rd.then]
    rw [rowE, if_pos e]
    exact ⟨rfl, fun y n h => by injection h⟩
theorem rowK_next {lv d f n : Nat} {R : Rd Ex} {ops : List (List UInt8 × Int)} {x : Ex} (hlv : lv ≤ 5) (hn : n < l.length) (h : RowK l lv d R ops f x (.ok () (n : Int))) (h0 : opAt l lv (n : Int) ≠ 0) :
    ∃ f', f = f' + 1 ∧ Ms l f' (lv + 1) (.ok () ((n : Int) + 1)) ∧ ∀ y, (∀ z m, rdE l f' (lv + 1) d ((n : Int) + 1) = .ok z m → y = z) → RowK l lv d R ops f' (nodE (opAt l lv (n : Int)) [x, y]) (rdE l f' (lv + 1) d ((n : Int) + 1)).unit := by
  obtain ⟨rfl, h2⟩ := h
  have h2 : 12 * leftW l (n : Int) + 1 ≤ f := h2
  obtain ⟨f', rfl⟩ : ∃ f', f = f' + 1 := ⟨f - 1, by omega⟩
  have hl := left_less (l := l) (a := (n : Int)) (n := (n : Int) + 1) (by omega) (by omega) (by omega)
  refine ⟨f', rfl, ?_, fun y hy => ?_⟩
  · show 12 * leftW l ((n : Int) + 1) + 12 - (lv + 1) ≤ f'
    omega
  · unfold RowK
    simp only [Rd.then]
    rw [rowE, if_neg h0]
    cases hr : rdE l f' (lv + 1) d ((n : Int) + 1) with
    | bad e p => exact ⟨rfl, trivial⟩
    | ok z m =>
      obtain rfl := hy z m hr
      refine ⟨rfl, ?_⟩
      have h3 := (advE (l := l) f').rd _ _ _ _ _ hr
      have h4 := left_less h3.1 h3.2.1 h3.2.2
      show 12 * leftW l m + 1 ≤ f'
      omega
theorem lx_draw (b : Nat) (w : World) : Lx b w w.drew := (Lx.refl b w).drew
end
end Go.Proofs.YtflpidnkppljlaaDoor
