/- Plain: what is read goes over words that are there, and not over the End. No condition. Plain: what is read is no deeper than the words that it goes over; its errors are two. No condition. Plain: what the words of a text are: names begin with a letter, marks don't, the last one alone is the End. No condition. -/
import Derived.Test.YtflpidnkppljlaaDoorExP
set_option linter.unusedVariables false
set_option linter.unnecessarySimpa false
set_option linter.unusedSimpArgs false
namespace Go.Proofs.YtflpidnkppljlaaDoor
section
variable {l : List Wd} {M : Int}
theorem isW_inM (hM : ∀ a, (wdA l a).k ≠ 0 → 0 ≤ a ∧ a < M) {a k : Int} {s : List UInt8} (h : isW l a k s = true) (hk : k ≠ 0) : 0 ≤ a ∧ a < M := by
  unfold isW at h
  simp only [Bool.and_eq_true, beq_iff_eq] at h
  exact hM _ (by rw [h.1]; exact hk)
theorem mustW_okM (hM : ∀ a, (wdA l a).k ≠ 0 → 0 ≤ a ∧ a < M) {k a : Int} {s : List UInt8} {x : Unit} {n : Int} (h : mustW l k s a = .ok x n) (hk : k ≠ 0) : 0 ≤ a ∧ a < M ∧ n = a + 1 := by
  unfold mustW at h
  by_cases h1 : isW l a k s = true
  · rw [if_pos h1] at h
    injection h with _ h2
    have := isW_inM hM h1 hk
    omega
  · rw [if_neg h1] at h; exact (badF_ok h).elim
theorem textW_okM (hM : ∀ a, (wdA l a).k ≠ 0 → 0 ≤ a ∧ a < M) {k a : Int} {x : List UInt8} {n : Int} (h : textW l k a = .ok x n) (hk : k ≠ 0) : 0 ≤ a ∧ a < M ∧ n = a + 1 := by
  unfold textW at h
  by_cases h1 : (wdA l a).k = k
  · rw [if_pos h1] at h
    injection h with _ h2
    have := hM (a) (by rw [h1]; exact hk)
    omega
  · rw [if_neg h1] at h; exact (badF_ok h).elim
theorem pathM_okM (hM : ∀ a, (wdA l a).k ≠ 0 → 0 ≤ a ∧ a < M) : ∀ (f : Nat) {s : List UInt8} {a : Int} {x : List UInt8} {n : Int}, pathM l f s a = .ok x n → a ≤ M → a ≤ n ∧ n ≤ M
  | 0, s, a, x, n, h, ha => by
    simp only [pathM] at h
    injection h with _ h2
    omega
  | f + 1, s, a, x, n, h, ha => by
    simp only [pathM] at h
    by_cases h1 : isW l a 5 kCol2 = true ∧ (wdA l (a + 1)).k = 1
    · rw [if_pos h1] at h
      have h2 := hM (a + 1) (by rw [h1.2]; decide)
      have := pathM_okM hM f h (by omega)
      omega
    · rw [if_neg h1] at h
      injection h with _ h2
      omega
theorem pathR_okM (hM : ∀ a, (wdA l a).k ≠ 0 → 0 ≤ a ∧ a < M) {f : Nat} {a : Int} {x : List UInt8} {n : Int} (h : pathR l f a = .ok x n) : 0 ≤ a ∧ a < n ∧ n ≤ M := by
  unfold pathR at h
  split at h
  · exact (badF_ok h).elim
  · obtain ⟨s, m, h1, h2⟩ := then_ok.1 h
    have h3 := textW_okM hM h1 (by decide)
    have := pathM_okM hM f h2 (by omega)
    omega
theorem uidR_okM (hM : ∀ a, (wdA l a).k ≠ 0 → 0 ≤ a ∧ a < M) {f : Nat} {a : Int} {x : List UInt8 × List UInt8} {n : Int} (h : uidR l f a = .ok x n) : 0 ≤ a ∧ a < n ∧ n ≤ M := by
  unfold uidR at h
  obtain ⟨t, m, h1, h2⟩ := then_ok.1 h
  obtain ⟨_, m2, h3, h4⟩ := then_ok.1 h2
  obtain ⟨i, m3, h5, h6⟩ := then_ok.1 h4
  have a1 := pathR_okM hM h1
  have a2 := mustW_okM hM h3 (by decide)
  have a3 := textW_okM hM h5 (by decide)
  injection h6 with _ h7
  omega
theorem opAt_inM (hM : ∀ a, (wdA l a).k ≠ 0 → 0 ≤ a ∧ a < M) {lv : Nat} {a : Int} (h : opAt l lv a ≠ 0) : 0 ≤ a ∧ a < M := by
  unfold opAt at h
  split at h
  · rename_i h1; exact isW_inM hM h1.2 (by decide)
  · split at h
    · rename_i h1; exact isW_inM hM h1.2 (by decide)
    · split at h
      · rename_i h1; exact isW_inM hM h1.2 (by decide)
      · split at h
        · rename_i h1; exact isW_inM hM h1.2 (by decide)
        · split at h
          · rename_i h1; exact isW_inM hM h1.2 (by decide)
          · exact absurd rfl h
theorem relAt_inM (hM : ∀ a, (wdA l a).k ≠ 0 → 0 ≤ a ∧ a < M) {a : Int} {op : Nat} (h : relAt l a = some op) : 0 ≤ a ∧ a < M := by
  unfold relAt at h
  repeat' split at h
  all_goals first
    | (rename_i h1; exact isW_inM hM h1 (by decide))
    | simp at h
/-- What the five say of how far they go. -/
structure AdvEM (l : List Wd) (M : Int) (f : Nat) : Prop where
  rd : ∀ lv d a x n, rdE l f lv d a = .ok x n → 0 ≤ a ∧ a < n ∧ n ≤ M
  row : ∀ lv d y a x n, rowE l f lv d y a = .ok x n → a ≤ M → a ≤ n ∧ n ≤ M
  mem : ∀ d y a x n, memE l f d y a = .ok x n → a ≤ M → a ≤ n ∧ n ≤ M
  set : ∀ d xs a x n, setE l f d xs a = .ok x n → a < n ∧ n ≤ M
  rec' : ∀ d xs ss a x n, recE l f d xs ss a = .ok x n → a < n ∧ n ≤ M
theorem row_advM (hM : ∀ a, (wdA l a).k ≠ 0 → 0 ≤ a ∧ a < M) {f : Nat} (ih : AdvEM l M f) (lv d : Nat) (y : Ex) (a : Int) (x : Ex) (n : Int) (h : rowE l (f + 1) lv d y a = .ok x n) (ha : a ≤ M) : a ≤ n ∧ n ≤ M := by
  simp only [rowE] at h
  split at h
  · injection h with _ h2; omega
  · obtain ⟨z, m, h1, h2⟩ := then_ok.1 h
    have b1 := ih.rd _ _ _ _ _ h1
    have b2 := ih.row _ _ _ _ _ _ h2 (by omega)
    omega
theorem mem_advM (hM : ∀ a, (wdA l a).k ≠ 0 → 0 ≤ a ∧ a < M) {f : Nat} (ih : AdvEM l M f) (d : Nat) (y : Ex) (a : Int) (x : Ex) (n : Int) (h : memE l (f + 1) d y a = .ok x n) (ha : a ≤ M) : a ≤ n ∧ n ≤ M := by
  simp only [memE] at h
  split at h
  · obtain ⟨s, m, h1, h2⟩ := then_ok.1 h
    have b1 := textW_okM hM h1 (by decide)
    split at h2
    · split at h2
      · exact (badF_ok h2).elim
      · obtain ⟨z, m2, h3, h4⟩ := then_ok.1 h2
        obtain ⟨_, m3, h5, h6⟩ := then_ok.1 h4
        have b2 := ih.rd _ _ _ _ _ h3
        have b3 := mustW_okM hM h5 (by decide)
        have b4 := ih.mem _ _ _ _ _ h6 (by omega)
        omega
    · have b4 := ih.mem _ _ _ _ _ h2 (by omega)
      omega
  · split at h
    · obtain ⟨s, m, h1, h2⟩ := then_ok.1 h
      obtain ⟨_, m3, h5, h6⟩ := then_ok.1 h2
      have b1 := textW_okM hM h1 (by decide)
      have b3 := mustW_okM hM h5 (by decide)
      have b4 := ih.mem _ _ _ _ _ h6 (by omega)
      omega
    · injection h with _ h2; omega
theorem set_advM (hM : ∀ a, (wdA l a).k ≠ 0 → 0 ≤ a ∧ a < M) {f : Nat} (ih : AdvEM l M f) (d : Nat) (xs : List Ex) (a : Int) (x : Ex) (n : Int) (h : setE l (f + 1) d xs a = .ok x n) : a < n ∧ n ≤ M := by
  simp only [setE] at h
  obtain ⟨z, m, h1, h2⟩ := then_ok.1 h
  have b1 := ih.rd _ _ _ _ _ h1
  split at h2
  · have b2 := ih.set _ _ _ _ _ h2
    omega
  · obtain ⟨_, m3, h5, h6⟩ := then_ok.1 h2
    have b3 := mustW_okM hM h5 (by decide)
    injection h6 with _ h7
    omega
theorem rec_advM (hM : ∀ a, (wdA l a).k ≠ 0 → 0 ≤ a ∧ a < M) {f : Nat} (ih : AdvEM l M f) (d : Nat) (xs : List Ex) (ss : List (List UInt8)) (a : Int) (x : Ex) (n : Int) (h : recE l (f + 1) d xs ss a = .ok x n) : a < n ∧ n ≤ M := by
  simp only [recE] at h
  obtain ⟨s, m0, h0, h0'⟩ := then_ok.1 h
  obtain ⟨_, m1, h1, h1'⟩ := then_ok.1 h0'
  obtain ⟨z, m, h2, h2'⟩ := then_ok.1 h1'
  have b0 := textW_okM hM h0 (by split <;> decide)
  have b1 := mustW_okM hM h1 (by decide)
  have b2 := ih.rd _ _ _ _ _ h2
  split at h2'
  · have b3 := ih.rec' _ _ _ _ _ _ h2'
    omega
  · obtain ⟨_, m3, h5, h6⟩ := then_ok.1 h2'
    have b3 := mustW_okM hM h5 (by decide)
    injection h6 with _ h7
    omega
theorem prim_advM (hM : ∀ a, (wdA l a).k ≠ 0 → 0 ≤ a ∧ a < M) {f : Nat} (ih : AdvEM l M f) (d : Nat) (a : Int) (x : Ex) (n : Int) (h : rdE l (f + 1) 8 d a = .ok x n) : 0 ≤ a ∧ a < n ∧ n ≤ M := by
  simp only [rdE] at h
  split at h
  · rename_i k; have := hM (a) (by rw [k]; decide); injection h with _ h2; omega
  · split at h
    · rename_i k; have := hM (a) (by rw [k]; decide); injection h with _ h2; omega
    · split at h
      · rename_i k
        have := hM (a) (by rw [k]; decide)
        split at h
        · injection h with _ h2; omega
        · exact (badF_ok h).elim
      · split at h
        · rename_i k
          have := hM (a) (by rw [k]; decide)
          split at h
          · injection h with _ h2; omega
          · split at h
            · obtain ⟨u, m, h1, h2⟩ := then_ok.1 h
              have b := uidR_okM hM h1
              injection h2 with _ h3
              omega
            · split at h
              · injection h with _ h2; omega
              · exact (badF_ok h).elim
        · split at h
          · rename_i k
            have := isW_inM hM k (by decide)
            obtain ⟨u, m, h1, h2⟩ := then_ok.1 h
            obtain ⟨_, m3, h5, h6⟩ := then_ok.1 h2
            have b1 := ih.rd _ _ _ _ _ h1
            have b3 := mustW_okM hM h5 (by decide)
            injection h6 with _ h7
            omega
          · split at h
            · rename_i k
              have := isW_inM hM k (by decide)
              split at h
              · rename_i k2
                have := isW_inM hM k2 (by decide)
                injection h with _ h2; omega
              · have b := ih.set _ _ _ _ _ h
                omega
            · split at h
              · rename_i k
                have := isW_inM hM k (by decide)
                split at h
                · rename_i k2
                  have := isW_inM hM k2 (by decide)
                  injection h with _ h2; omega
                · have b := ih.rec' _ _ _ _ _ _ h
                  omega
              · exact (badF_ok h).elim
theorem expr_advM (hM : ∀ a, (wdA l a).k ≠ 0 → 0 ≤ a ∧ a < M) {f : Nat} (ih : AdvEM l M f) (d : Nat) (a : Int) (x : Ex) (n : Int) (h : rdE l (f + 1) 0 d a = .ok x n) : 0 ≤ a ∧ a < n ∧ n ≤ M := by
  simp only [rdE] at h
  split at h
  · simp at h
  · split at h
    · rename_i k
      have b0 := isW_inM hM k (by decide)
      obtain ⟨x1, m1, h1, h1'⟩ := then_ok.1 h
      obtain ⟨_, m2, h2, h2'⟩ := then_ok.1 h1'
      obtain ⟨x3, m3, h3, h3'⟩ := then_ok.1 h2'
      obtain ⟨_, m4, h4, h4'⟩ := then_ok.1 h3'
      obtain ⟨x5, m5, h5, h5'⟩ := then_ok.1 h4'
      have b1 := ih.rd _ _ _ _ _ h1
      have b2 := mustW_okM hM h2 (by decide)
      have b3 := ih.rd _ _ _ _ _ h3
      have b4 := mustW_okM hM h4 (by decide)
      have b5 := ih.rd _ _ _ _ _ h5
      injection h5' with _ h6
      omega
    · exact ih.rd _ _ _ _ _ h
theorem unary_advM (hM : ∀ a, (wdA l a).k ≠ 0 → 0 ≤ a ∧ a < M) {f : Nat} (ih : AdvEM l M f) (d : Nat) (a : Int) (x : Ex) (n : Int) (h : rdE l (f + 1) 6 d a = .ok x n) : 0 ≤ a ∧ a < n ∧ n ≤ M := by
  simp only [rdE] at h
  split at h
  · simp at h
  · split at h
    · rename_i k
      have b0 := isW_inM hM k (by decide)
      obtain ⟨x1, m1, h1, h1'⟩ := then_ok.1 h
      have b1 := ih.rd _ _ _ _ _ h1
      injection h1' with _ h6
      omega
    · split at h
      · rename_i k
        have b0 := isW_inM hM k (by decide)
        obtain ⟨x1, m1, h1, h1'⟩ := then_ok.1 h
        have b1 := ih.rd _ _ _ _ _ h1
        injection h1' with _ h6
        omega
      · exact ih.rd _ _ _ _ _ h
theorem rel_advM (hM : ∀ a, (wdA l a).k ≠ 0 → 0 ≤ a ∧ a < M) {f : Nat} (ih : AdvEM l M f) (d : Nat) (a : Int) (x : Ex) (n : Int) (h : rdE l (f + 1) 3 d a = .ok x n) : 0 ≤ a ∧ a < n ∧ n ≤ M := by
  simp only [rdE] at h
  obtain ⟨x1, m1, h1, h1'⟩ := then_ok.1 h
  have b1 := ih.rd _ _ _ _ _ h1
  split at h1'
  · obtain ⟨x2, m2, h2, h2'⟩ := then_ok.1 h1'
    have b2 := ih.rd _ _ _ _ _ h2
    injection h2' with _ h6
    omega
  · split at h1'
    · obtain ⟨x2, m2, h2, h2'⟩ := then_ok.1 h1'
      have b2 := textW_okM hM h2 (by decide)
      injection h2' with _ h6
      omega
    · split at h1'
      · obtain ⟨x2, m2, h2, h2'⟩ := then_ok.1 h1'
        have b2 := pathR_okM hM h2
        injection h2' with _ h6
        omega
      · injection h1' with _ h6
        omega
theorem memb_advM (hM : ∀ a, (wdA l a).k ≠ 0 → 0 ≤ a ∧ a < M) {f : Nat} (ih : AdvEM l M f) (d : Nat) (a : Int) (x : Ex) (n : Int) (h : rdE l (f + 1) 7 d a = .ok x n) : 0 ≤ a ∧ a < n ∧ n ≤ M := by
  simp only [rdE] at h
  obtain ⟨x1, m1, h1, h1'⟩ := then_ok.1 h
  have b1 := ih.rd _ _ _ _ _ h1
  have b2 := ih.mem _ _ _ _ _ h1' (by omega)
  omega
theorem lev_advM (hM : ∀ a, (wdA l a).k ≠ 0 → 0 ≤ a ∧ a < M) {f : Nat} (ih : AdvEM l M f) (lv d : Nat) (a : Int) (x : Ex) (n : Int) (h : ((rdE l f (lv + 1) d a).then fun x n => rowE l f lv d x n) = .ok x n) : 0 ≤ a ∧ a < n ∧ n ≤ M := by
  obtain ⟨x1, m1, h1, h1'⟩ := then_ok.1 h
  have b1 := ih.rd _ _ _ _ _ h1
  have b2 := ih.row _ _ _ _ _ _ h1' (by omega)
  omega
theorem advEM (hM : ∀ a, (wdA l a).k ≠ 0 → 0 ≤ a ∧ a < M) : ∀ f, AdvEM l M f
  | 0 => ⟨fun lv d a x n h => by simp only [rdE] at h; exact (badF_ok h).elim, fun lv d y a x n h _ => by simp only [rowE] at h; exact (badF_ok h).elim, fun d y a x n h _ => by simp only [memE] at h; exact (badF_ok h).elim, fun d xs a x n h => by simp only [setE] at h; exact (badF_ok h).elim, fun d xs ss a x n h => by simp only [recE] at h; exact (badF_ok h).elim⟩
  | f + 1 => by
    have ih := advEM hM f
    refine ⟨fun lv d a x n h => ?_, row_advM hM ih, mem_advM hM ih, set_advM hM ih, rec_advM hM ih⟩
    match lv, h with
    | 0, h => exact expr_advM hM ih d a x n h
    | 1, h => simp only [rdE] at h; exact lev_advM hM ih 1 d a x n h
    | 2, h => simp only [rdE] at h; exact lev_advM hM ih 2 d a x n h
    | 3, h => exact rel_advM hM ih d a x n h
    | 4, h => simp only [rdE] at h; exact lev_advM hM ih 4 d a x n h
    | 5, h => simp only [rdE] at h; exact lev_advM hM ih 5 d a x n h
    | 6, h => exact unary_advM hM ih d a x n h
    | 7, h => exact memb_advM hM ih d a x n h
    | 8, h => exact prim_advM hM ih d a x n h
    | k + 9, h => simp only [rdE] at h; exact lev_advM hM ih (k + 9) d a x n h
end
end Go.Proofs.YtflpidnkppljlaaDoor
namespace Go.Proofs.YtflpidnkppljlaaDoor
def Be {α : Type} (r : Rd α) : Prop := ∀ e p, r = .bad e p → e = 10 ∨ e = 11
theorem Be.ok {α : Type} {x : α} {n : Int} : Be (.ok x n) := fun _ _ h => by cases h
theorem Be.e11 {α : Type} {p : Nat} : Be (.bad 11 p : Rd α) := fun e q h => by injection h with h; exact .inr h.symm
theorem Be.then {α β : Type} {r : Rd α} {g : α → Int → Rd β} (h : Be r) (hg : ∀ x n, Be (g x n)) : Be (r.then g) := by
  cases r with
  | bad e a => intro e2 p2 h2; simp only [Rd.then] at h2; injection h2 with h2; exact h2 ▸ h e a rfl
  | ok x n => exact hg x n
section
variable {l : List Wd}
theorem Be.badF {α : Type} {a : Int} : Be (badF l a : Rd α) := fun e q h => by injection h with h; exact .inl h.symm
theorem Be.must {k a : Int} {s : List UInt8} : Be (mustW l k s a) := by unfold mustW; split; exact Be.ok; exact Be.badF
theorem Be.text {k a : Int} : Be (textW l k a) := by unfold textW; split; exact Be.ok; exact Be.badF
theorem Be.pathM : ∀ (f : Nat) (s : List UInt8) (a : Int), Be (pathM l f s a)
  | 0, s, a => by simp only [Go.Proofs.YtflpidnkppljlaaDoor.pathM]; exact Be.ok
  | f + 1, s, a => by
    simp only [Go.Proofs.YtflpidnkppljlaaDoor.pathM]
    split
    · exact Be.pathM f _ _
    · exact Be.ok
theorem Be.path {f : Nat} {a : Int} : Be (pathR l f a) := by unfold pathR; split; exact Be.badF; exact Be.then Be.text fun _ _ => Be.pathM _ _ _
theorem Be.uid {f : Nat} {a : Int} : Be (uidR l f a) := by unfold uidR; exact Be.then Be.path fun _ _ => Be.then Be.must fun _ _ => Be.then Be.text fun _ _ => Be.ok
structure BadE (l : List Wd) (f : Nat) : Prop where
  rd : ∀ lv d a, Be (rdE l f lv d a)
  row : ∀ lv d y a, Be (rowE l f lv d y a)
  mem : ∀ d y a, Be (memE l f d y a)
  set : ∀ d xs a, Be (setE l f d xs a)
  rec' : ∀ d xs ss a, Be (recE l f d xs ss a)
theorem badE : ∀ f, BadE l f
  | 0 => ⟨fun _ _ _ => by simp only [rdE]; exact Be.badF, fun _ _ _ _ => by simp only [rowE]; exact Be.badF, fun _ _ _ => by simp only [memE]; exact Be.badF, fun _ _ _ => by simp only [setE]; exact Be.badF, fun _ _ _ _ => by simp only [recE]; exact Be.badF⟩
  | f + 1 => by
    have ih := badE f
    refine ⟨fun lv d a => ?_, fun lv d y a => ?_, fun d y a => ?_, fun d xs a => ?_, fun d xs ss a => ?_⟩
    · match lv with
      | 0 => simp only [rdE]; (repeat' first | exact Be.badF | exact Be.ok | exact Be.e11 | exact Be.must | exact Be.text | exact Be.path | exact Be.uid | exact (ih).rd _ _ _ | exact (ih).row _ _ _ _ | exact (ih).mem _ _ _ | exact (ih).set _ _ _ | exact (ih).rec' _ _ _ _ | refine Be.then ?_ fun _ _ => ?_ | split)
      | 1 => simp only [rdE]; (repeat' first | exact Be.badF | exact Be.ok | exact Be.e11 | exact Be.must | exact Be.text | exact Be.path | exact Be.uid | exact (ih).rd _ _ _ | exact (ih).row _ _ _ _ | exact (ih).mem _ _ _ | exact (ih).set _ _ _ | exact (ih).rec' _ _ _ _ | refine Be.then ?_ fun _ _ => ?_ | split)
      | 2 => simp only [rdE]; (repeat' first | exact Be.badF | exact Be.ok | exact Be.e11 | exact Be.must | exact Be.text | exact Be.path | exact Be.uid | exact (ih).rd _ _ _ | exact (ih).row _ _ _ _ | exact (ih).mem _ _ _ | exact (ih).set _ _ _ | exact (ih).rec' _ _ _ _ | refine Be.then ?_ fun _ _ => ?_ | split)
      | 3 => simp only [rdE]; (repeat' first | exact Be.badF | exact Be.ok | exact Be.e11 | exact Be.must | exact Be.text | exact Be.path | exact Be.uid | exact (ih).rd _ _ _ | exact (ih).row _ _ _ _ | exact (ih).mem _ _ _ | exact (ih).set _ _ _ | exact (ih).rec' _ _ _ _ | refine Be.then ?_ fun _ _ => ?_ | split)
      | 4 => simp only [rdE]; (repeat' first | exact Be.badF | exact Be.ok | exact Be.e11 | exact Be.must | exact Be.text | exact Be.path | exact Be.uid | exact (ih).rd _ _ _ | exact (ih).row _ _ _ _ | exact (ih).mem _ _ _ | exact (ih).set _ _ _ | exact (ih).rec' _ _ _ _ | refine Be.then ?_ fun _ _ => ?_ | split)
      | 5 => simp only [rdE]; (repeat' first | exact Be.badF | exact Be.ok | exact Be.e11 | exact Be.must | exact Be.text | exact Be.path | exact Be.uid | exact (ih).rd _ _ _ | exact (ih).row _ _ _ _ | exact (ih).mem _ _ _ | exact (ih).set _ _ _ | exact (ih).rec' _ _ _ _ | refine Be.then ?_ fun _ _ => ?_ | split)
      | 6 => simp only [rdE]; (repeat' first | exact Be.badF | exact Be.ok | exact Be.e11 | exact Be.must | exact Be.text | exact Be.path | exact Be.uid | exact (ih).rd _ _ _ | exact (ih).row _ _ _ _ | exact (ih).mem _ _ _ | exact (ih).set _ _ _ | exact (ih).rec' _ _ _ _ | refine Be.then ?_ fun _ _ => ?_ | split)
      | 7 => simp only [rdE]; (repeat' first | exact Be.badF | exact Be.ok | exact Be.e11 | exact Be.must | exact Be.text | exact Be.path | exact Be.uid | exact (ih).rd _ _ _ | exact (ih).row _ _ _ _ | exact (ih).mem _ _ _ | exact (ih).set _ _ _ | exact (ih).rec' _ _ _ _ | refine Be.then ?_ fun _ _ => ?_ | split)
      | 8 => simp only [rdE]; (repeat' first | exact Be.badF | exact Be.ok | exact Be.e11 | exact Be.must | exact Be.text | exact Be.path | exact Be.uid | exact (ih).rd _ _ _ | exact (ih).row _ _ _ _ | exact (ih).mem _ _ _ | exact (ih).set _ _ _ | exact (ih).rec' _ _ _ _ | refine Be.then ?_ fun _ _ => ?_ | split)
      | k + 9 => simp only [rdE]; (repeat' first | exact Be.badF | exact Be.ok | exact Be.e11 | exact Be.must | exact Be.text | exact Be.path | exact Be.uid | exact (ih).rd _ _ _ | exact (ih).row _ _ _ _ | exact (ih).mem _ _ _ | exact (ih).set _ _ _ | exact (ih).rec' _ _ _ _ | refine Be.then ?_ fun _ _ => ?_ | split)
    · simp only [rowE]; (repeat' first | exact Be.badF | exact Be.ok | exact Be.e11 | exact Be.must | exact Be.text | exact Be.path | exact Be.uid | exact (ih).rd _ _ _ | exact (ih).row _ _ _ _ | exact (ih).mem _ _ _ | exact (ih).set _ _ _ | exact (ih).rec' _ _ _ _ | refine Be.then ?_ fun _ _ => ?_ | split)
    · simp only [memE]; (repeat' first | exact Be.badF | exact Be.ok | exact Be.e11 | exact Be.must | exact Be.text | exact Be.path | exact Be.uid | exact (ih).rd _ _ _ | exact (ih).row _ _ _ _ | exact (ih).mem _ _ _ | exact (ih).set _ _ _ | exact (ih).rec' _ _ _ _ | refine Be.then ?_ fun _ _ => ?_ | split)
    · simp only [setE]; (repeat' first | exact Be.badF | exact Be.ok | exact Be.e11 | exact Be.must | exact Be.text | exact Be.path | exact Be.uid | exact (ih).rd _ _ _ | exact (ih).row _ _ _ _ | exact (ih).mem _ _ _ | exact (ih).set _ _ _ | exact (ih).rec' _ _ _ _ | refine Be.then ?_ fun _ _ => ?_ | split)
    · simp only [recE]; (repeat' first | exact Be.badF | exact Be.ok | exact Be.e11 | exact Be.must | exact Be.text | exact Be.path | exact Be.uid | exact (ih).rd _ _ _ | exact (ih).row _ _ _ _ | exact (ih).mem _ _ _ | exact (ih).set _ _ _ | exact (ih).rec' _ _ _ _ | refine Be.then ?_ fun _ _ => ?_ | split)
theorem exDepL_app (xs : List Ex) (y : Ex) : exDepL (xs ++ [y]) = max (exDepL xs) (exDep y) := by
  induction xs with
  | nil => simp [exDepL]
  | cons x xs ih => simp only [List.cons_append, exDepL, ih]; omega
structure DepE (l : List Wd) (f : Nat) : Prop where
  rd : ∀ lv d a x n, rdE l f lv d a = .ok x n → (exDep x : Int) ≤ n - a
  row : ∀ lv d y a x n, rowE l f lv d y a = .ok x n → a ≤ (l.length : Int) → (exDep x : Int) ≤ exDep y + (n - a)
  mem : ∀ d y a x n, memE l f d y a = .ok x n → a ≤ (l.length : Int) → (exDep x : Int) ≤ exDep y + (n - a)
  set : ∀ d xs a x n, setE l f d xs a = .ok x n → (exDep x : Int) ≤ max (exDepL xs : Int) (n - a) + 1
  rec' : ∀ d xs ss a x n, recE l f d xs ss a = .ok x n → (exDep x : Int) ≤ max (exDepL xs : Int) (n - a) + 1
theorem row_dep {f : Nat} (ih : DepE l f) (lv d : Nat) (y : Ex) (a : Int) (x : Ex) (n : Int) (h : rowE l (f + 1) lv d y a = .ok x n) (ha : a ≤ (l.length : Int)) : (exDep x : Int) ≤ exDep y + (n - a) := by
  simp only [rowE] at h
  split at h
  · injection h with h1 h2; subst h1; omega
  · obtain ⟨z, m, h1, h2⟩ := then_ok.1 h
    have b1 := (advE f).rd _ _ _ _ _ h1
    have b2 := (advE f).row _ _ _ _ _ _ h2 (by omega)
    have e1 := ih.rd _ _ _ _ _ h1
    have e2 := ih.row _ _ _ _ _ _ h2 (by omega)
    simp only [nodE, exDep, exDepL] at e2
    omega
theorem mem_dep {f : Nat} (ih : DepE l f) (d : Nat) (y : Ex) (a : Int) (x : Ex) (n : Int) (h : memE l (f + 1) d y a = .ok x n) (ha : a ≤ (l.length : Int)) : (exDep x : Int) ≤ exDep y + (n - a) := by
  simp only [memE] at h
  split at h
  · obtain ⟨s, m, h1, h2⟩ := then_ok.1 h
    have b1 := textW_ok h1 (by decide)
    split at h2
    · split at h2
      · exact (badF_ok h2).elim
      · obtain ⟨z, m2, h3, h4⟩ := then_ok.1 h2
        obtain ⟨_, m3, h5, h6⟩ := then_ok.1 h4
        have b2 := (advE f).rd _ _ _ _ _ h3
        have e2 := ih.rd _ _ _ _ _ h3
        have b3 := mustW_ok h5 (by decide)
        have b4 := (advE f).mem _ _ _ _ _ h6 (by omega)
        have e4 := ih.mem _ _ _ _ _ h6 (by omega)
        simp only [nodE, exDep, exDepL] at e4
        omega
    · have b4 := (advE f).mem _ _ _ _ _ h2 (by omega)
      have e4 := ih.mem _ _ _ _ _ h2 (by omega)
      simp only [namE, exDep, exDepL] at e4
      omega
  · split at h
    · obtain ⟨s, m, h1, h2⟩ := then_ok.1 h
      obtain ⟨_, m3, h5, h6⟩ := then_ok.1 h2
      have b1 := textW_ok h1 (by decide)
      have b3 := mustW_ok h5 (by decide)
      have b4 := (advE f).mem _ _ _ _ _ h6 (by omega)
      have e4 := ih.mem _ _ _ _ _ h6 (by omega)
      simp only [namE, exDep, exDepL] at e4
      omega
    · injection h with h1 h2; subst h1; omega
theorem set_dep {f : Nat} (ih : DepE l f) (d : Nat) (xs : List Ex) (a : Int) (x : Ex) (n : Int) (h : setE l (f + 1) d xs a = .ok x n) : (exDep x : Int) ≤ max (exDepL xs : Int) (n - a) + 1 := by
  simp only [setE] at h
  obtain ⟨z, m, h1, h2⟩ := then_ok.1 h
  have b1 := (advE f).rd _ _ _ _ _ h1
  have e1 := ih.rd _ _ _ _ _ h1
  split at h2
  · have b2 := (advE f).set _ _ _ _ _ h2
    have e2 := ih.set _ _ _ _ _ h2
    rw [exDepL_app] at e2
    omega
  · obtain ⟨_, m3, h5, h6⟩ := then_ok.1 h2
    have b3 := mustW_ok h5 (by decide)
    injection h6 with h6 h7
    subst h6
    simp only [exDep, exDepL_app]
    omega
theorem rec_dep {f : Nat} (ih : DepE l f) (d : Nat) (xs : List Ex) (ss : List (List UInt8)) (a : Int) (x : Ex) (n : Int) (h : recE l (f + 1) d xs ss a = .ok x n) : (exDep x : Int) ≤ max (exDepL xs : Int) (n - a) + 1 := by
  simp only [recE] at h
  obtain ⟨s, m0, h0, h0'⟩ := then_ok.1 h
  obtain ⟨_, m1, h1, h1'⟩ := then_ok.1 h0'
  obtain ⟨z, m, h2, h2'⟩ := then_ok.1 h1'
  have b0 := textW_ok h0 (by split <;> decide)
  have b1 := mustW_ok h1 (by decide)
  have b2 := (advE f).rd _ _ _ _ _ h2
  have e2 := ih.rd _ _ _ _ _ h2
  split at h2'
  · have b3 := (advE f).rec' _ _ _ _ _ _ h2'
    have e3 := ih.rec' _ _ _ _ _ _ h2'
    rw [exDepL_app] at e3
    omega
  · obtain ⟨_, m3, h5, h6⟩ := then_ok.1 h2'
    have b3 := mustW_ok h5 (by decide)
    injection h6 with h6 h7
    subst h6
    simp only [exDep, exDepL_app]
    omega
theorem leaf_dep {x y : Ex} {n m a : Int} (h : (Rd.ok x n : Rd Ex) = .ok y m) (hx : exDep x = 1) (hn : a + 1 ≤ n) : (exDep y : Int) ≤ m - a := by
  injection h with h1 h2; subst h1; omega
theorem prim_dep {f : Nat} (ih : DepE l f) (d : Nat) (a : Int) (x : Ex) (n : Int) (h : rdE l (f + 1) 8 d a = .ok x n) : (exDep x : Int) ≤ n - a := by
  have h0 := (advE (f + 1)).rd _ _ _ _ _ h
  simp only [rdE] at h
  split at h
  · exact leaf_dep h rfl (by omega)
  · split at h
    · exact leaf_dep h rfl (by omega)
    · split at h
      · split at h
        · exact leaf_dep h rfl (by omega)
        · exact (badF_ok h).elim
      · split at h
        · split at h
          · exact leaf_dep h rfl (by omega)
          · split at h
            · obtain ⟨u, m, h1, h2⟩ := then_ok.1 h
              have b := uidR_ok h1
              exact leaf_dep h2 rfl (by omega)
            · split at h
              · exact leaf_dep h rfl (by omega)
              · exact (badF_ok h).elim
        · split at h
          · obtain ⟨u, m, h1, h2⟩ := then_ok.1 h
            obtain ⟨_, m3, h5, h6⟩ := then_ok.1 h2
            have b1 := (advE f).rd _ _ _ _ _ h1
            have e1 := ih.rd _ _ _ _ _ h1
            have b3 := mustW_ok h5 (by decide)
            injection h6 with h6 h7
            subst h6
            omega
          · split at h
            · split at h
              · exact leaf_dep h rfl (by omega)
              · have b := (advE f).set _ _ _ _ _ h
                have e := ih.set _ _ _ _ _ h
                simp only [exDepL] at e
                omega
            · split at h
              · split at h
                · exact leaf_dep h rfl (by omega)
                · have b := (advE f).rec' _ _ _ _ _ _ h
                  have e := ih.rec' _ _ _ _ _ _ h
                  simp only [exDepL] at e
                  omega
              · exact (badF_ok h).elim
theorem expr_dep {f : Nat} (ih : DepE l f) (d : Nat) (a : Int) (x : Ex) (n : Int) (h : rdE l (f + 1) 0 d a = .ok x n) : (exDep x : Int) ≤ n - a := by
  simp only [rdE] at h
  split at h
  · simp at h
  · split at h
    · obtain ⟨x1, m1, h1, h1'⟩ := then_ok.1 h
      obtain ⟨_, m2, h2, h2'⟩ := then_ok.1 h1'
      obtain ⟨x3, m3, h3, h3'⟩ := then_ok.1 h2'
      obtain ⟨_, m4, h4, h4'⟩ := then_ok.1 h3'
      obtain ⟨x5, m5, h5, h5'⟩ := then_ok.1 h4'
      have b1 := (advE f).rd _ _ _ _ _ h1
      have b2 := mustW_ok h2 (by decide)
      have b3 := (advE f).rd _ _ _ _ _ h3
      have b4 := mustW_ok h4 (by decide)
      have b5 := (advE f).rd _ _ _ _ _ h5
      have e1 := ih.rd _ _ _ _ _ h1
      have e3 := ih.rd _ _ _ _ _ h3
      have e5 := ih.rd _ _ _ _ _ h5
      injection h5' with h5' h6
      subst h5'
      simp only [nodE, exDep, exDepL]
      omega
    · exact ih.rd _ _ _ _ _ h
theorem unary_dep {f : Nat} (ih : DepE l f) (d : Nat) (a : Int) (x : Ex) (n : Int) (h : rdE l (f + 1) 6 d a = .ok x n) : (exDep x : Int) ≤ n - a := by
  simp only [rdE] at h
  split at h
  · simp at h
  · split at h
    · obtain ⟨x1, m1, h1, h1'⟩ := then_ok.1 h
      have b1 := ih.rd _ _ _ _ _ h1
      injection h1' with h5 h6
      subst h5
      simp only [nodE, exDep, exDepL]
      omega
    · split at h
      · obtain ⟨x1, m1, h1, h1'⟩ := then_ok.1 h
        have b1 := ih.rd _ _ _ _ _ h1
        injection h1' with h5 h6
        subst h5
        simp only [nodE, exDep, exDepL]
        omega
      · exact ih.rd _ _ _ _ _ h
theorem relE_dep (op : Nat) (x y : Ex) : exDep (relE op x y) ≤ max (exDep x) (exDep y) + 2 := by
  unfold relE
  split <;> simp only [nodE, exDep, exDepL] <;> omega
theorem rel_dep {f : Nat} (ih : DepE l f) (d : Nat) (a : Int) (x : Ex) (n : Int) (h : rdE l (f + 1) 3 d a = .ok x n) : (exDep x : Int) ≤ n - a := by
  simp only [rdE] at h
  obtain ⟨x1, m1, h1, h1'⟩ := then_ok.1 h
  have b1 := (advE f).rd _ _ _ _ _ h1
  have e1 := ih.rd _ _ _ _ _ h1
  split at h1'
  · obtain ⟨x2, m2, h2, h2'⟩ := then_ok.1 h1'
    have b2 := (advE f).rd _ _ _ _ _ h2
    have e2 := ih.rd _ _ _ _ _ h2
    injection h2' with h5 h6
    subst h5
    rename_i op _
    have := relE_dep op x1 x2
    omega
  · split at h1'
    · obtain ⟨x2, m2, h2, h2'⟩ := then_ok.1 h1'
      have b2 := textW_ok h2 (by decide)
      injection h2' with h5 h6
      subst h5
      simp only [namE, exDep, exDepL]
      omega
    · split at h1'
      · obtain ⟨x2, m2, h2, h2'⟩ := then_ok.1 h1'
        have b2 := pathR_ok h2
        injection h2' with h5 h6
        subst h5
        simp only [namE, exDep, exDepL]
        omega
      · injection h1' with h5 h6
        subst h5
        omega
theorem lev_dep {f : Nat} (ih : DepE l f) (lv d : Nat) (a : Int) (x : Ex) (n : Int) (h : ((rdE l f (lv + 1) d a).then fun x n => rowE l f lv d x n) = .ok x n) : (exDep x : Int) ≤ n - a := by
  obtain ⟨x1, m1, h1, h1'⟩ := then_ok.1 h
  have b1 := (advE f).rd _ _ _ _ _ h1
  have e1 := ih.rd _ _ _ _ _ h1
  have e2 := ih.row _ _ _ _ _ _ h1' (by omega)
  omega
theorem memb_dep {f : Nat} (ih : DepE l f) (d : Nat) (a : Int) (x : Ex) (n : Int) (h : rdE l (f + 1) 7 d a = .ok x n) : (exDep x : Int) ≤ n - a := by
  simp only [rdE] at h
  obtain ⟨x1, m1, h1, h1'⟩ := then_ok.1 h
  have b1 := (advE f).rd _ _ _ _ _ h1
  have e1 := ih.rd _ _ _ _ _ h1
  have e2 := ih.mem _ _ _ _ _ h1' (by omega)
  omega
theorem depE : ∀ f, DepE l f
  | 0 => ⟨fun lv d a x n h => by simp only [rdE] at h; exact (badF_ok h).elim, fun lv d y a x n h _ => by simp only [rowE] at h; exact (badF_ok h).elim, fun d y a x n h _ => by simp only [memE] at h; exact (badF_ok h).elim, fun d xs a x n h => by simp only [setE] at h; exact (badF_ok h).elim, fun d xs ss a x n h => by simp only [recE] at h; exact (badF_ok h).elim⟩
  | f + 1 => by
    have ih := depE f
    refine ⟨fun lv d a x n h => ?_, row_dep ih, mem_dep ih, set_dep ih, rec_dep ih⟩
    match lv, h with
    | 0, h => exact expr_dep ih d a x n h
    | 1, h => simp only [rdE] at h; exact lev_dep ih 1 d a x n h
    | 2, h => simp only [rdE] at h; exact lev_dep ih 2 d a x n h
    | 3, h => exact rel_dep ih d a x n h
    | 4, h => simp only [rdE] at h; exact lev_dep ih 4 d a x n h
    | 5, h => simp only [rdE] at h; exact lev_dep ih 5 d a x n h
    | 6, h => exact unary_dep ih d a x n h
    | 7, h => exact memb_dep ih d a x n h
    | 8, h => exact prim_dep ih d a x n h
    | k + 9, h => simp only [rdE] at h; exact lev_dep ih (k + 9) d a x n h
end
end Go.Proofs.YtflpidnkppljlaaDoor
namespace Go.Proofs.YtflpidnkppljlaaDoor
/-- A word as a text has it. -/
def GdW (N : Nat) (x : Wd) : Prop := (x.k = 1 → x.t.length ≤ N ∧ ∃ c r, x.t = c :: r ∧ letR c = true) ∧ (x.k = 5 → ∀ c r, x.t = c :: r → letR c = false)
theorem fst1_good {l : List UInt8} (h : (fst1 l).e = 0) : ((fst1 l).k = 1 → (fst1 l).t.length ≤ l.length ∧ ∃ c r, (fst1 l).t = c :: r ∧ letR c = true) ∧ ((fst1 l).k = 5 → ∀ c r, (fst1 l).t = c :: r → letR c = false) := by
  match l with
  | [] => exact absurd h (by decide)
  | c :: r =>
    rw [fst1_cons] at *
    by_cases h1 : (c == 34) = true
    · rw [if_pos h1] at *
      unfold quoW at *
      split
      · split
        · exact ⟨fun h => (by first | (simp at h; done) | (simp [badW] at h; done) | (exact absurd (show _ = _ from h) (by simp [badW]))), fun h => (by first | (simp at h; done) | (simp [badW] at h; done) | (exact absurd (show _ = _ from h) (by simp [badW])))⟩
        · exact ⟨fun h => (by first | (simp at h; done) | (simp [badW] at h; done) | (exact absurd (show _ = _ from h) (by simp [badW]))), fun h => (by first | (simp at h; done) | (simp [badW] at h; done) | (exact absurd (show _ = _ from h) (by simp [badW])))⟩
      · exact ⟨fun h => (by first | (simp at h; done) | (simp [badW] at h; done) | (exact absurd (show _ = _ from h) (by simp [badW]))), fun h => (by first | (simp at h; done) | (simp [badW] at h; done) | (exact absurd (show _ = _ from h) (by simp [badW])))⟩
    · rw [if_neg h1] at *
      by_cases h2 : (c == 63) = true
      · rw [if_pos h2] at *
        unfold sloW at *
        split
        · exact ⟨fun h => (by first | (simp at h; done) | (simp [badW] at h; done) | (exact absurd (show _ = _ from h) (by simp [badW]))), fun h => (by first | (simp at h; done) | (simp [badW] at h; done) | (exact absurd (show _ = _ from h) (by simp [badW])))⟩
        · exact ⟨fun h => (by first | (simp at h; done) | (simp [badW] at h; done) | (exact absurd (show _ = _ from h) (by simp [badW]))), fun h => (by first | (simp at h; done) | (simp [badW] at h; done) | (exact absurd (show _ = _ from h) (by simp [badW])))⟩
      · rw [if_neg h2] at *
        by_cases h3 : digB c = true
        · rw [if_pos h3] at *
          unfold numW at *
          split
          · exact ⟨fun h => (by first | (simp at h; done) | (simp [badW] at h; done) | (exact absurd (show _ = _ from h) (by simp [badW]))), fun h => (by first | (simp at h; done) | (simp [badW] at h; done) | (exact absurd (show _ = _ from h) (by simp [badW])))⟩
          · exact ⟨fun h => (by first | (simp at h; done) | (simp [badW] at h; done) | (exact absurd (show _ = _ from h) (by simp [badW]))), fun h => (by first | (simp at h; done) | (simp [badW] at h; done) | (exact absurd (show _ = _ from h) (by simp [badW])))⟩
        · rw [if_neg h3] at *
          by_cases h4 : letR c = true
          · rw [if_pos h4] at *
            have hp := nameN_pos (r := r) h4
            obtain ⟨n, hn⟩ : ∃ n, nameN (c :: r) = n + 1 := ⟨nameN (c :: r) - 1, by omega⟩
            refine ⟨fun _ => ⟨by simp [List.length_take]; omega, c, r.take n, by show List.take (nameN (c :: r)) (c :: r) = _; rw [hn]; rfl, h4⟩, fun h => (by first | (simp at h; done) | (simp [badW] at h; done) | (exact absurd (show _ = _ from h) (by simp [badW])))⟩
          · rw [if_neg h4] at *
            unfold mrkW at *
            split
            · exact ⟨fun h => (by first | (simp at h; done) | (simp [badW] at h; done) | (exact absurd (show _ = _ from h) (by simp [badW]))), fun h => (by first | (simp at h; done) | (simp [badW] at h; done) | (exact absurd (show _ = _ from h) (by simp [badW])))⟩
            · refine ⟨fun h => (by first | (simp at h; done) | (simp [badW] at h; done) | (exact absurd (show _ = _ from h) (by simp [badW]))), fun _ c' r' h' => ?_⟩
              have h' : List.take (mrkN (c :: r)) (c :: r) = c' :: r' := h'
              cases hm : mrkN (c :: r) with
              | zero => rw [hm] at h'; simp at h'
              | succ n => rw [hm] at h'; simp at h'; rw [← h'.1]; simpa using h4
theorem lexF_good : ∀ (f : Nat) (l : List UInt8) (a : Nat), (lexF f l a).1 = 0 → ∃ pre z, (lexF f l a).2.2 = pre ++ [⟨0, [], 0, z⟩] ∧ ∀ x ∈ pre, GdW l.length x
  | 0, l, a, _ => ⟨[], a, rfl, fun x hx => by cases hx⟩
  | f + 1, l, a, h => by
    rw [lexF] at h ⊢
    by_cases h0 : l.isEmpty = true
    · rw [if_pos h0]; exact ⟨[], a, rfl, fun x hx => by cases hx⟩
    · rw [if_neg h0] at h ⊢
      by_cases he : (fst1 l).e = 0
      · rw [if_pos he] at h ⊢
        obtain ⟨d, hd⟩ : ∃ d, d = (fst1 l).w + skp false (l.drop (fst1 l).w) := ⟨_, rfl⟩
        rw [← hd] at h ⊢
        by_cases hr : (lexF f (l.drop d) (a + d)).1 = 0
        · rw [if_pos hr]
          obtain ⟨pre, z, h1, h2⟩ := lexF_good f (l.drop d) (a + d) hr
          refine ⟨⟨(fst1 l).k, (fst1 l).t, (fst1 l).n, a⟩ :: pre, z, by rw [h1]; rfl, fun x hx => ?_⟩
          rcases List.mem_cons.1 hx with rfl | hx
          · exact fst1_good he
          · have := h2 x hx
            rw [List.length_drop] at this
            exact ⟨fun hk => ⟨by have := (this.1 hk).1; omega, (this.1 hk).2⟩, this.2⟩
        · rw [if_neg hr] at h; exact absurd h hr
      · rw [if_neg he] at h; exact absurd h he
theorem lexF_len8 : ∀ (f : Nat) (l : List UInt8) (a : Nat), (lexF f l a).2.2.length ≤ f + 1
  | 0, _, _ => by simp [lexF]
  | f + 1, l, a => by
    rw [lexF]
    split
    · simp
    · split
      · have ih := lexF_len8 f (l.drop ((fst1 l).w + skp false (l.drop (fst1 l).w))) (a + ((fst1 l).w + skp false (l.drop (fst1 l).w)))
        split
        · simp; omega
        · omega
      · simp
/-- The words of a text. -/
structure WsOk (ws : List Wd) : Prop where
  len : ws.length ≤ 70000
  nam : ∀ x ∈ ws, x.k = 1 → x.t.length ≤ 70000
  gd : ∀ x ∈ ws, GdW 70000 x
  pos : 0 < ws.length
  en : ∀ a, (wdA ws a).k ≠ 0 → 0 ≤ a ∧ a < (ws.length : Int) - 1
theorem lexL_ok {L : List UInt8} (h : (lexL L).1 = 0) : WsOk (lexL L).2.2 := by
  unfold lexL at h ⊢
  by_cases hl : 65536 < L.length
  · rw [if_pos hl] at h; exact absurd h (by decide)
  · rw [if_neg hl] at h ⊢
    unfold lexR at h ⊢
    obtain ⟨pre, z, h1, h2⟩ := lexF_good _ _ _ h
    have hlen := lexF_len8 (L.drop (skp false L)).length (L.drop (skp false L)) (skp false L)
    rw [h1] at hlen ⊢
    rw [List.length_drop] at hlen h2
    have hg : ∀ x ∈ pre ++ [(⟨0, [], 0, z⟩ : Wd)], GdW 70000 x := fun x hx => by
      rcases List.mem_append.1 hx with hx | hx
      · have := h2 x hx
        exact ⟨fun hk => ⟨by have := (this.1 hk).1; omega, (this.1 hk).2⟩, this.2⟩
      · simp only [List.mem_cons, List.not_mem_nil, or_false] at hx
        subst hx
        exact ⟨fun h => (by first | (simp at h; done) | (simp [badW] at h; done) | (exact absurd (show _ = _ from h) (by simp [badW]))), fun h => (by first | (simp at h; done) | (simp [badW] at h; done) | (exact absurd (show _ = _ from h) (by simp [badW])))⟩
    refine ⟨by omega, fun x hx hk => ((hg x hx).1 hk).1, hg, by simp, fun a ha => ?_⟩
    have hin := wd_in ha
    rw [List.length_append, List.length_singleton] at hin ⊢
    refine ⟨hin.1, ?_⟩
    by_cases e : a = (pre.length : Int)
    · exfalso
      apply ha
      unfold wdA
      rw [if_pos ⟨by omega, by simp; omega⟩, e]
      simp
    · omega
end Go.Proofs.YtflpidnkppljlaaDoor
