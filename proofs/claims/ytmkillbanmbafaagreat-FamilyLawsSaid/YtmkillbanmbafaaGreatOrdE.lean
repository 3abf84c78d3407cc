/- entity.Order, and the reference's: the order of names. No condition. -/
import Derived.Test.YtmkillbanmbafaaGreatOrds
import Derived.Test.YtmkillbanmbafaaGreatRefs
import Derived.Test.YtmkillbanmbafaaGreatEntM
namespace Go.Proofs.YtmkillbanmbafaaGreat
open Go.RowKit Go.Sort
def refV (u : Us) : V := .mk ⟨4, false, 0, ⟨#[]⟩, u.t, u.i⟩ [] []
theorem ord_refV (a b : Us) : ord (refV a) (refV b) = cmpUs a b := by
  rw [ord_eq]
  simp [refV, V.h, cmpUs]
theorem r_refV (w : World) (u : Us) : R w (refV u) (.slice none 0 0) (.slice none 0 0) := by
  have h1 := u.ht
  have h2 := u.hi
  unfold maxLen at h1 h2
  exact rep_v.2 ⟨⟨Nat.zero_le _, h1, h2⟩, ⟨none, 0, rfl, by simp [refV, V.ns], by simp [refV, V.ns], .inl rfl⟩, none, 0, rfl, ⟨by simp [refV, V.l], by simp⟩, .inl rfl⟩
theorem eRef_c (u : Us) (w : World) : Calls Tryz.prog 49 #[.agg #[.string u.t, .string u.i]] w fun e w' => e = .returned (.agg #[.int .i64 4, .bool false, .int .i64 0, .string ⟨#[]⟩, .string u.t, .string u.i, .slice none 0 0, .slice none 0 0]) ∧ Gr w w' := by
  go_enter Tryz.func49, Tryz.ntmps49
  go_wp2_with fail
  refine bodyPost_ret (v := .agg #[.int .i64 4, .bool false, .int .i64 0, .string ⟨#[]⟩, .string u.t, .string u.i, .slice none 0 0, .slice none 0 0]) (by simp [results, Tryz.results49, go_sem]; try rfl) rfl ?_
  exact ⟨rfl, Gr.alloc (Gr.alloc (Gr.refl w) _) _⟩
set_option maxHeartbeats 1600000 in
theorem eOrder_c (a b : Us) (w : World) : Calls Tryz.prog 37 #[.agg #[.string a.t, .string a.i], .agg #[.string b.t, .string b.i]] w fun e w' => e = .returned (.int .i64 (cmpUs a b)) ∧ Gr w w' := by
  have mixed : Tryz.prog.follows .mixedOrders = true := by kernel_rfl
  obtain ⟨r, hr⟩ : ∃ r, r = cmpUs a b := ⟨_, rfl⟩
  have c3 : ∀ X, Calls Tryz.prog 48 #[.agg #[.int .i64 4, .bool false, .int .i64 0, .string ⟨#[]⟩, .string a.t, .string a.i, .slice none 0 0, .slice none 0 0], .agg #[.int .i64 4, .bool false, .int .i64 0, .string ⟨#[]⟩, .string b.t, .string b.i, .slice none 0 0, .slice none 0 0]] X fun e w' => e = .returned (.int .i64 r) ∧ Gr X w' := fun X => by
    rw [hr, ← ord_refV]; exact order_c (refV a) (refV b) X _ _ _ _ (r_refV X a) (r_refV X b)
  rw [← hr]
  clear hr
  obtain ⟨W, hW⟩ : ∃ W, W = (w.alloc (.cells #[.string a.t, .string a.i] 24)).alloc (.cells #[.string b.t, .string b.i] 24) := ⟨_, rfl⟩
  have g0 : Gr w W := hW ▸ Gr.alloc (Gr.alloc (Gr.refl w) _) _
  have a0 : ∀ n os, (grow (W.drewN n) os).cell? ⟨w.heap.size, 0, none⟩ = some (.string a.t) := fun n os => (Gr.grow (Gr.refl W) n os).cell (by rw [hW]; simp [go_sem])
  have a1 : ∀ n os, (grow (W.drewN n) os).cell? ⟨w.heap.size, 1, none⟩ = some (.string a.i) := fun n os => (Gr.grow (Gr.refl W) n os).cell (by rw [hW]; simp [go_sem])
  have b0 : ∀ n os, (grow (W.drewN n) os).cell? ⟨w.heap.size + 1, 0, none⟩ = some (.string b.t) := fun n os => (Gr.grow (Gr.refl W) n os).cell (by rw [hW]; simp [go_sem])
  have b1 : ∀ n os, (grow (W.drewN n) os).cell? ⟨w.heap.size + 1, 1, none⟩ = some (.string b.i) := fun n os => (Gr.grow (Gr.refl W) n os).cell (by rw [hW]; simp [go_sem])
  have C1 := Lib.hid fun n os => Calls.grown_of (eRef_c a (grow (W.drewN n) os))
  have C2 := Lib.hid fun n os => Calls.grown_of (eRef_c b (grow (W.drewN n) os))
  have C3 := Lib.hid fun n os => Calls.grown_of (c3 (grow (W.drewN n) os))
  have G0 := Lib.hid g0
  have HW := Lib.hid hW
  clear c3 g0 hW
  go_enter Tryz.func37, Tryz.ntmps37
  go_wp2_with fail
  rw [← HW.out]
  clear HW
  go_quiet_grown (first | (with_reducible exact C1.out _ _) | (with_reducible exact C2.out _ _) | (with_reducible exact C3.out _ _))
  go_wp2_with fail
  go_ret
  exact ⟨rfl, G0.out.trans (Gr.grow (Gr.refl W) _ _)⟩
set_option maxHeartbeats 1600000 in
theorem rOrdE_c (a b : Us) (w : World) : Calls Tryz.prog 24 #[.agg #[.string a.t, .string a.i], .agg #[.string b.t, .string b.i]] w fun e w' => e = .returned (.int .i64 (cmpUs a b)) ∧ Gr w w' := by
  have ht := a.ht
  have hi := a.hi
  have ht' := b.ht
  have hi' := b.hi
  unfold maxLen at ht hi ht' hi'
  have C1 := Lib.hid fun W => rTexts_c a.t b.t ht ht' W
  have C2 := Lib.hid fun W => rTexts_c a.i b.i hi hi' W
  have G0 := Lib.hid (show Gr w ((w.alloc (.cells #[.string a.t, .string a.i] 24)).alloc (.cells #[.string b.t, .string b.i] 24)) from Gr.alloc (Gr.alloc (Gr.refl w) _) _)
  have hc : cmpUs a b = if cmpT a.t b.t = 0 then cmpT a.i b.i else cmpT a.t b.t := rfl
  rw [hc]
  generalize cmpT a.t b.t = x at C1 ⊢
  generalize cmpT a.i b.i = y at C2 ⊢
  have A0 : ∀ W, Gr ((w.alloc (.cells #[.string a.t, .string a.i] 24)).alloc (.cells #[.string b.t, .string b.i] 24)) W → W.cell? ⟨w.heap.size, 1, none⟩ = some (.string a.i) ∧ W.cell? ⟨w.heap.size + 1, 1, none⟩ = some (.string b.i) := fun W h => ⟨h.cell (by simp [go_sem]), h.cell (by simp [go_sem])⟩
  have HA := Lib.hid A0
  obtain ⟨r, hr⟩ : ∃ r, r = if x = 0 then y else x := ⟨_, rfl⟩
  rw [← hr]
  have HR := Lib.hid hr
  clear A0 ht hi ht' hi' hc hr
  go_enter Tryz.func24, Tryz.ntmps24
  go_wp2_with fail
  refine (C1.out _).mono ?_
  rintro e w1 ⟨rfl, g⟩
  obtain ⟨x1, x2⟩ := HA.out _ g
  have G1 := Lib.hid (G0.out.trans g)
  clear g
  by_cases h0 : x = 0
  · subst h0
    go_wp2_with fail
    refine (C2.out _).mono ?_
    rintro e w2 ⟨rfl, g⟩
    go_wp2_with fail
    go_ret
    exact ⟨retI (by rw [HR.out]; simp), G1.out.trans g⟩
  · go_wp2_with fail
    go_ret
    exact ⟨retI (by rw [HR.out, if_neg h0]), G1.out⟩
end Go.Proofs.YtmkillbanmbafaaGreat
