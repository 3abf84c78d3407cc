/- The order of truths, of entities' names, of rows of names. No condition. -/
import Derived.Test.YtdblkjcimegoeaaOrdW
import Derived.Test.YtdblkjcimegoeaaShelf
import Derived.Deep.RegionHeld3
import Derived.Deep.RegionWith
namespace Go.Proofs.Ytdblkjcimegoeaa
open Go.RowKit Go.Sort
theorem truths_c (a b : Bool) (w : World) : Calls Try.prog 18 #[.bool a, .bool b] w fun e w' => e = .returned (.int .i64 (cmpB a b)) ∧ w = w' := by
  cases a <;> cases b
  all_goals
    go_enter Try.func18, Try.ntmps18
    go_wp2_with fail
    go_ret
    exact ⟨rfl, rfl⟩
theorem sCmp_c (a b : ByteArray) (w : World) : Calls Try.prog 20 #[.string a, .string b] w fun e w' => e = .returned (.int .i64 (cmpT a b)) ∧ w = w' :=
  (Try.strings_Compare a b w).mono fun _ _ ⟨h, k⟩ => ⟨h, k.symm⟩
set_option maxHeartbeats 800000 in
theorem or_c (a b : Int) (bk cap : Nat) (w : World) (h0 : w.cell? ⟨bk, 0, none⟩ = some (.int .i64 a)) (h1 : w.cell? ⟨bk, 1, none⟩ = some (.int .i64 b)) :
    Calls Try.prog 32 #[.slice (some ⟨bk, 0, none⟩) 2 cap] w fun e w' => e = .returned (.int .i64 (orI a b)) ∧ w = w' := by
  by_cases ha : a = 0
  · subst ha
    by_cases hb : b = 0
    · subst hb
      go_enter Try.func32, Try.ntmps32
      go_wp2_with fail
      refine wp_loop_rounds 3 ?_
      rw [rounds_succ]; go_wp2_with fail
      rw [rounds_succ]; go_wp2_with fail
      rw [rounds_succ]; go_wp2_with fail
      go_ret
      exact ⟨rfl, rfl⟩
    · go_enter Try.func32, Try.ntmps32
      go_wp2_with fail
      refine wp_loop_rounds 3 ?_
      rw [rounds_succ]; go_wp2_with fail
      rw [rounds_succ]; go_wp2_with fail
      go_ret
      exact ⟨rfl, rfl⟩
  · have hr : orI a b = a := if_neg ha
    rw [hr]
    clear hr
    go_enter Try.func32, Try.ntmps32
    go_wp2_with fail
    refine wp_loop_rounds 3 ?_
    rw [rounds_succ]; go_wp2_with fail
    go_ret
    exact ⟨rfl, rfl⟩
set_option maxHeartbeats 1600000 in
theorem uids_c (t i t' i' : ByteArray) (w : World) : Calls Try.prog 21 #[.agg #[.string t, .string i], .agg #[.string t', .string i']] w fun e w' => e = .returned (.int .i64 (orI (cmpT t t') (cmpT i i'))) ∧ Gr w w' := by
  obtain ⟨x, hx⟩ : ∃ x, x = cmpT t t' := ⟨_, rfl⟩
  obtain ⟨y, hy⟩ : ∃ y, y = cmpT i i' := ⟨_, rfl⟩
  have c1 : ∀ w, Calls Try.prog 20 #[.string t, .string t'] w fun e w' => e = .returned (.int .i64 x) ∧ w = w' := fun w => by rw [hx]; exact sCmp_c t t' w
  have c2 : ∀ w, Calls Try.prog 20 #[.string i, .string i'] w fun e w' => e = .returned (.int .i64 y) ∧ w = w' := fun w => by rw [hy]; exact sCmp_c i i' w
  rw [← hx, ← hy]
  have C1 := Lib.hid c1
  have C2 := Lib.hid c2
  have c3 : ∀ (W : World) (bk c : Nat) (tt : TypeId), W.heap.size = bk → Calls Try.prog 32 #[.slice (some ⟨bk, 0, none⟩) 2 c] (W.alloc (.cells #[.int .i64 x, .int .i64 y] tt)).drew fun e w' => e = .returned (.int .i64 (orI x y)) ∧ (W.alloc (.cells #[.int .i64 x, .int .i64 y] tt)).drew = w' :=
    fun W bk c tt hb => by
      subst hb
      refine or_c x y _ c _ ?_ ?_
      · show (W.alloc _).cell? _ = _
        rw [World.cell?_alloc_mark]; rfl
      · show (W.alloc _).cell? _ = _
        rw [World.cell?_alloc_mark]; rfl
  have C3 := Lib.hid c3
  clear hx hy c1 c2 c3
  go_enter Try.func21, Try.ntmps21
  go_wp2_with fail
  obtain ⟨W, hW⟩ : ∃ W, W = (w.alloc (.cells #[.string t, .string i] 26)).alloc (.cells #[.string t', .string i'] 26) := ⟨_, rfl⟩
  have g0 : Gr w W := hW ▸ Gr.alloc (Gr.alloc (Gr.refl w) _) _
  have a0 : W.cell? ⟨w.heap.size, 0, none⟩ = some (.string t) := by rw [hW]; simp [go_sem]
  have a1 : W.cell? ⟨w.heap.size, 1, none⟩ = some (.string i) := by rw [hW]; simp [go_sem]
  have b0 : W.cell? ⟨w.heap.size + 1, 0, none⟩ = some (.string t') := by rw [hW]; simp [go_sem]
  have b1 : W.cell? ⟨w.heap.size + 1, 1, none⟩ = some (.string i') := by rw [hW]; simp [go_sem]
  rw [← hW]
  clear hW
  have G0 := Lib.hid g0
  clear g0
  go_region_held3 (fun w' => w'.cell? ⟨w.heap.size, 0, none⟩ = some (.string t) ∧ w'.cell? ⟨w.heap.size, 1, none⟩ = some (.string i) ∧ w'.cell? ⟨w.heap.size + 1, 0, none⟩ = some (.string t') ∧ w'.cell? ⟨w.heap.size + 1, 1, none⟩ = some (.string i')) (go_keep) (first | (go_at_call_of 20 (Value.string t); refine (C1.out _).mono ?_; rintro e w' ⟨rfl, rfl⟩) | (go_at_call_of 20 (Value.string i); refine (C2.out _).mono ?_; rintro e w' ⟨rfl, rfl⟩) | (go_at_call 32; refine (C3.out _ _ _ _ rfl).mono ?_; rintro e w' ⟨rfl, rfl⟩))
  all_goals
    go_wp2_with fail
    go_ret
    exact ⟨rfl, by first | exact Gr.alloc (Gr.drew G0.out) _ | exact Gr.drew (Gr.alloc G0.out _)⟩
end Go.Proofs.Ytdblkjcimegoeaa
