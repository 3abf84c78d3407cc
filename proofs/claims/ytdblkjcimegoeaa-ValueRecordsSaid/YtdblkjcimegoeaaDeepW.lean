/- Whether a value is nested deeper than a number. No condition but that the number is not below 0. -/
import Derived.Test.YtdblkjcimegoeaaDepW
namespace Go.Proofs.Ytdblkjcimegoeaa
open Go.RowKit Go.Sort
def DeC (k : Nat) (v : V) : Prop := ∀ (w : World) (it nm : Value), R w v it nm → Calls Try.prog 12 #[av v.h it nm, .int .i64 (k : Int)] w fun e w' => e = .returned (.bool (decide (k < dpt v))) ∧ Gr w w'
set_option maxHeartbeats 800000 in
theorem deepC_c (k : Nat) (hk : k < 1000) (x : V) (ih : DeC k x) (bx : Nat) (w : World) (it nm : Value) (hr : R w x it nm) (hb : w.cell? ⟨bx, 0, none⟩ = some (.int .i64 ((k + 1 : Nat) : Int))) :
    Calls Try.prog 25 #[av x.h it nm, .pointer (some ⟨bx, 0, none⟩)] w fun e w' => e = .returned (.bool (decide (k < dpt x))) ∧ Gr w w' := by
  obtain ⟨ai, ci, an, cn, rfl, rfl⟩ := r_slices hr
  have HC := Lib.hid (ih _ _ _ (hr.low (Gr.alloc (Gr.refl w) (.cells #[.int .i64 x.h.k, .bool x.h.b, .int .i64 x.h.n, .string x.h.s, .string x.h.t, .string x.h.i, .slice ai x.l.length ci, .slice an x.ns.length cn] 29)).low))
  have hb2 : ∀ X, (w.alloc X).cell? ⟨bx, 0, none⟩ = some (.int .i64 ((k : Int) + 1)) := fun X => (Gr.alloc (Gr.refl w) X).cell (by rw [hb]; simp)
  generalize decide (k < dpt x) = r at HC ⊢
  clear hr hb ih
  unfold av at *
  go_enter Try.func25, Try.ntmps25
  go_wp2_with fail
  refine HC.out.mono ?_
  rintro e w1 ⟨rfl, g⟩
  go_wp2_with fail
  go_ret
  exact ⟨rfl, (Gr.alloc (Gr.refl w) _).trans g⟩
set_option maxHeartbeats 1600000 in
theorem deeper_n (k : Nat) (hk : k < 1000) : ∀ v : V, DeC k v := by
  induction k with
  | zero =>
    intro v w it nm hr
    obtain ⟨ai, ci, an, cn, rfl, rfl⟩ := r_slices hr
    have e : decide (0 < dpt v) = true := by rw [dpt_v]; simp
    rw [e]
    clear hr e hk
    unfold av
    go_enter Try.func12, Try.ntmps12
    go_wp2_with fail
    go_ret
    exact ⟨rfl, Gr.alloc (Gr.alloc (Gr.refl w) _) _⟩
  | succ k ih =>
    intro v w it nm hr
    obtain ⟨ai, ci, an, cn, rfl, rfl⟩ := r_slices hr
    have e : decide (k + 1 < dpt v) = v.nest.any fun x => decide (k < dpt x) := by
      rw [dpt_v, Bool.eq_iff_iff]
      simp only [decide_eq_true_eq, List.any_eq_true]
      constructor
      · intro h
        rcases Classical.em (∃ x, x ∈ v.nest ∧ k < dpt x) with h1 | h1
        · exact h1
        · have : dptL v.nest ≤ k := dptL_le.2 fun x hx => by
            rcases Nat.lt_or_ge k (dpt x) with h2 | h2
            · exact absurd ⟨x, hx, h2⟩ h1
            · exact h2
          omega
      · rintro ⟨x, hx, h⟩
        have := (dptL_le (n := dptL v.nest)).1 (Nat.le_refl _) x hx
        omega
    have CN := Lib.hid fun W (h : Low w W) => nested_c v W _ _ (hr.low h)
    have CO := Lib.hid fun W ra (h : Ro W v.nest ra) (hb : W.cell? ⟨w.heap.size + 1, 0, none⟩ = some (.int .i64 ((k + 1 : Nat) : Int))) => conD_c (fun x => decide (k < dpt x)) (w.heap.size + 1) v.nest W (fun x hx w' hg it nm hr => deepC_c k (by omega) x (ih (by omega) x) _ w' it nm hr (hg.cell hb)) ra h
    rw [e]
    clear e ih hr
    generalize (v.nest.any fun x => decide (k < dpt x)) = r at CO ⊢
    obtain ⟨W, hW⟩ : ∃ W, W = (w.alloc (.cells #[.int .i64 v.h.k, .bool v.h.b, .int .i64 v.h.n, .string v.h.s, .string v.h.t, .string v.h.i, .slice ai v.l.length ci, .slice an v.ns.length cn] 29)).alloc (.cells #[.int .i64 ((k : Int) + 1)] 3) := ⟨_, rfl⟩
    have hg : Gr w W := hW ▸ Gr.alloc (Gr.alloc (Gr.refl w) _) _
    have hb : W.cell? ⟨w.heap.size + 1, 0, none⟩ = some (.int .i64 ((k : Int) + 1)) := by rw [hW]; simp [go_sem]
    unfold av at *
    go_enter Try.func12, Try.ntmps12
    go_wp2_with fail
    rw [← hW]
    clear hW
    refine (CN.out _ hg.low).mono ?_
    rintro e w1 ⟨ra, rfl, pa, g⟩
    have hb1 := g.cell hb
    go_wp2_with fail
    refine (CO.out _ _ pa hb1).mono ?_
    rintro e w2 ⟨rfl, g2⟩
    go_wp2_with fail
    go_ret
    exact ⟨rfl, hg.trans (g.trans g2)⟩
theorem deeper_c (v : V) (w : World) (it nm : Value) (hr : R w v it nm) : Calls Try.prog 12 #[av v.h it nm, .int .i64 50] w fun e w' => e = .returned (.bool (decide (50 < dpt v))) ∧ Gr w w' := deeper_n 50 (by decide) v w it nm hr
end Go.Proofs.Ytdblkjcimegoeaa
