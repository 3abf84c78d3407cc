/- The order of values, as the program has it, is the order by definition. No condition. -/
import Derived.Test.YtdblkjcimegoeaaOrdN
namespace Go.Proofs.Ytdblkjcimegoeaa
open Go.RowKit Go.Sort
theorem repF_take {A : Nat → Prop} {w : World} {b : Nat} : ∀ {l : List V} {o : Nat} (k : Nat), RepF A w b o l → RepF A w b o (l.take k)
  | [], _, k, h => by simpa using h
  | x :: l, o, 0, h => by rw [List.take_zero, RepF]; trivial
  | x :: l, o, k + 1, h => by
    rw [List.take_succ_cons]
    rw [RepF] at h ⊢
    exact ⟨h.1, repF_take k h.2⟩
/-- The first k of a row. -/
theorem ro_take {w : World} {l : List V} {ao : Option Addr} {n cap k : Nat} (h : Ro w l (.slice ao n cap)) (hk : k ≤ l.length) : Ro w (l.take k) (.slice ao k cap) := by
  obtain ⟨ai, ci, he, ⟨h1, h2⟩, hx⟩ := h
  simp only [Value.slice.injEq] at he
  obtain ⟨rfl, rfl, rfl⟩ := he
  refine ⟨ao, cap, by rw [List.length_take, Nat.min_eq_left hk], ⟨by rw [List.length_take]; omega, h2⟩, ?_⟩
  rcases hx with h0 | ⟨b, o, rfl, ha, hf⟩
  · exact .inl (by rw [h0]; simp)
  · exact .inr ⟨b, o, rfl, ha, repF_take k hf⟩
/-- What a call answers that tells a row. -/
def RowP (l : List V) (w : World) (e : Ending) (w' : World) : Prop := ∃ it, e = .returned it ∧ Ro w' l it ∧ Gr w w'
set_option maxHeartbeats 800000 in
theorem named_c (v : V) (w : World) (it nm : Value) (hr : R w v it nm) : Calls Try.prog 36 #[av v.h it nm] w (RowP v.named w) := by
  obtain ⟨-, ⟨an, cn, rfl, zn, -⟩, hro⟩ := rep_v.1 hr
  obtain ⟨ai, ci, rfl, ⟨zl, zc⟩, -⟩ := id hro
  have HR := Lib.hid hro
  clear hr hro
  have z1 : (v.l.length : Int) ≤ ci := by omega
  unfold av
  go_enter Try.func36, Try.ntmps36
  go_wp2_with fail
  go_ret
  refine ⟨_, rfl, ?_, Gr.alloc (Gr.refl w) _⟩
  have e : (min (v.ns.length : Int) (v.l.length : Int)).toNat = min v.ns.length v.l.length := by omega
  show Ro _ _ (.slice ai (min (v.ns.length : Int) (v.l.length : Int)).toNat ci)
  rw [e]
  exact (ro_take HR.out (Nat.min_le_right _ _)).low (Gr.alloc (Gr.refl w) _).low
theorem mem_named {v : V} {x : V} (h : x ∈ v.named) : x ∈ v.l := List.mem_of_mem_take h
set_option maxHeartbeats 2000000 in
theorem recs_c (a b : V) (ih : ∀ x ∈ a.l, ∀ y ∈ b.l, OrdC 9 x y) (w : World) (it nm it' nm' : Value) (ha : R w a it nm) (hb : R w b it' nm') :
    Calls Try.prog 23 #[av a.h it nm, av b.h it' nm'] w fun e w' => e = .returned (.int .i64 (orI (cmpN a.ns b.ns) (ordL a.named b.named))) ∧ Gr w w' := by
  obtain ⟨ai, ci, an, cn, rfl, rfl⟩ := r_slices ha
  obtain ⟨ai', ci', an', cn', rfl, rfl⟩ := r_slices hb
  have na : Na w a.ns (.slice an a.ns.length cn) := (rep_v.1 ha).2.1
  have nb : Na w b.ns (.slice an' b.ns.length cn') := (rep_v.1 hb).2.1
  have CV := Lib.hid fun (W : World) => named_c a W (.slice ai a.l.length ci) (.slice an a.ns.length cn)
  have CV' := Lib.hid fun (W : World) => named_c b W (.slice ai' b.l.length ci') (.slice an' b.ns.length cn')
  have CL := Lib.hid (cloV_c a.named b.named fun x hx y hy => ih x (mem_named hx) y (mem_named hy))
  have CN := Lib.hid (cloN_c a.ns b.ns)
  generalize ordL a.named b.named = r at CL ⊢
  generalize cmpN a.ns b.ns = c at CN ⊢
  have HA := Lib.hid ha
  have HB := Lib.hid hb
  have NA := Lib.hid na
  have NB := Lib.hid nb
  clear ha hb ih na nb
  unfold av
  go_enter Try.func23, Try.ntmps23
  go_wp2_with fail
  obtain ⟨W, hW⟩ : ∃ W, W = (w.alloc (.cells #[.int .i64 a.h.k, .bool a.h.b, .int .i64 a.h.n, .string a.h.s, .string a.h.t, .string a.h.i, .slice ai a.l.length ci, .slice an a.ns.length cn] 29)).alloc (.cells #[.int .i64 b.h.k, .bool b.h.b, .int .i64 b.h.n, .string b.h.s, .string b.h.t, .string b.h.i, .slice ai' b.l.length ci', .slice an' b.ns.length cn'] 29) := ⟨_, rfl⟩
  have g1 : Gr (w.alloc (.cells #[.int .i64 a.h.k, .bool a.h.b, .int .i64 a.h.n, .string a.h.s, .string a.h.t, .string a.h.i, .slice ai a.l.length ci, .slice an a.ns.length cn] 29)) W := hW ▸ Gr.alloc (Gr.refl _) _
  have g2 : Gr ((w.alloc (.cells #[.int .i64 a.h.k, .bool a.h.b, .int .i64 a.h.n, .string a.h.s, .string a.h.t, .string a.h.i, .slice ai a.l.length ci, .slice an a.ns.length cn] 29)).alloc (.cells #[.int .i64 b.h.k, .bool b.h.b, .int .i64 b.h.n, .string b.h.s, .string b.h.t, .string b.h.i, .slice ai' b.l.length ci', .slice an' b.ns.length cn'] 29)) W := hW ▸ Gr.refl _
  have g0 : Gr w W.drew := ((Gr.alloc (Gr.refl w) _).trans g1).drew
  have G0 := Lib.hid g0
  obtain ⟨a0, a1, a2, a3, a4, a5, a6, a7⟩ := gr_box g1
  have g3 := gr_box g2
  rw [show (w.alloc (.cells #[.int .i64 a.h.k, .bool a.h.b, .int .i64 a.h.n, .string a.h.s, .string a.h.t, .string a.h.i, .slice ai a.l.length ci, .slice an a.ns.length cn] 29)).heap.size = w.heap.size + 1 by simp] at g3
  obtain ⟨b0, b1, b2, b3, b4, b5, b6, b7⟩ := g3
  rw [← hW]
  clear hW g0 g1 g2
  go_region_held3 (fun w' => w'.cell? ⟨w.heap.size, 7, none⟩ = some (.slice an a.ns.length cn) ∧ w'.cell? ⟨w.heap.size + 1, 7, none⟩ = some (.slice an' b.ns.length cn')) (go_keep) (first
    | (go_at_call 35; refine (byName_c _).mono ?_; rintro e w1 ⟨bx, rfl, hb, g⟩; have a0 := g.cell a0; have a1 := g.cell a1; have a2 := g.cell a2; have a3 := g.cell a3; have a4 := g.cell a4; have a5 := g.cell a5; have a6 := g.cell a6; have a7 := g.cell a7; have b0 := g.cell b0; have b1 := g.cell b1; have b2 := g.cell b2; have b3 := g.cell b3; have b4 := g.cell b4; have b5 := g.cell b5; have b6 := g.cell b6; have b7 := g.cell b7; have G1 := Lib.hid (G0.out.trans g).drew; have G2 := Lib.hid (G0.out.trans g))
    | (go_at_call 42; refine (CN.out bx _ _ _ hb (NA.out.low (G0.out.trans g).low) (NB.out.low (G0.out.trans g).low)).mono ?_; rintro e w2 ⟨rfl, rfl⟩))
  by_cases h0 : c = 0
  · subst h0
    clear hb g
    go_wp2_with fail
    go_region_held3 (fun w' => w'.cell? ⟨w.heap.size, 0, none⟩ = some (.int .i64 a.h.k) ∧ w'.cell? ⟨w.heap.size, 1, none⟩ = some (.bool a.h.b) ∧ w'.cell? ⟨w.heap.size, 2, none⟩ = some (.int .i64 a.h.n) ∧ w'.cell? ⟨w.heap.size, 3, none⟩ = some (.string a.h.s) ∧ w'.cell? ⟨w.heap.size, 4, none⟩ = some (.string a.h.t) ∧ w'.cell? ⟨w.heap.size, 5, none⟩ = some (.string a.h.i) ∧ w'.cell? ⟨w.heap.size, 6, none⟩ = some (.slice ai a.l.length ci) ∧ w'.cell? ⟨w.heap.size, 7, none⟩ = some (.slice an a.ns.length cn) ∧ w'.cell? ⟨w.heap.size + 1, 0, none⟩ = some (.int .i64 b.h.k) ∧ w'.cell? ⟨w.heap.size + 1, 1, none⟩ = some (.bool b.h.b) ∧ w'.cell? ⟨w.heap.size + 1, 2, none⟩ = some (.int .i64 b.h.n) ∧ w'.cell? ⟨w.heap.size + 1, 3, none⟩ = some (.string b.h.s) ∧ w'.cell? ⟨w.heap.size + 1, 4, none⟩ = some (.string b.h.t) ∧ w'.cell? ⟨w.heap.size + 1, 5, none⟩ = some (.string b.h.i) ∧ w'.cell? ⟨w.heap.size + 1, 6, none⟩ = some (.slice ai' b.l.length ci') ∧ w'.cell? ⟨w.heap.size + 1, 7, none⟩ = some (.slice an' b.ns.length cn')) (go_keep) (first
      | (go_at_call 22; refine (byItem_c _).mono ?_; rintro e w1 ⟨bx, rfl, hb, g⟩; have a0 := g.cell a0; have a1 := g.cell a1; have a2 := g.cell a2; have a3 := g.cell a3; have a4 := g.cell a4; have a5 := g.cell a5; have a6 := g.cell a6; have a7 := g.cell a7; have b0 := g.cell b0; have b1 := g.cell b1; have b2 := g.cell b2; have b3 := g.cell b3; have b4 := g.cell b4; have b5 := g.cell b5; have b6 := g.cell b6; have b7 := g.cell b7; have G := Lib.hid (G1.out.trans g))
      | (go_at_call_of 36 (Value.slice ai a.l.length ci); refine (CV.out _ (HA.out.low G.out.low)).mono ?_; rintro e w2 ⟨ra, rfl, pa, g⟩; have a0 := g.cell a0; have a1 := g.cell a1; have a2 := g.cell a2; have a3 := g.cell a3; have a4 := g.cell a4; have a5 := g.cell a5; have a6 := g.cell a6; have a7 := g.cell a7; have b0 := g.cell b0; have b1 := g.cell b1; have b2 := g.cell b2; have b3 := g.cell b3; have b4 := g.cell b4; have b5 := g.cell b5; have b6 := g.cell b6; have b7 := g.cell b7; have hb := g.cell hb; have G := Lib.hid (G.out.trans g))
      | (go_at_call_of 36 (Value.slice ai' b.l.length ci'); refine (CV'.out _ (HB.out.low G.out.low)).mono ?_; rintro e w3 ⟨rb, rfl, pb, g⟩; have a0 := g.cell a0; have a1 := g.cell a1; have a2 := g.cell a2; have a3 := g.cell a3; have a4 := g.cell a4; have a5 := g.cell a5; have a6 := g.cell a6; have a7 := g.cell a7; have b0 := g.cell b0; have b1 := g.cell b1; have b2 := g.cell b2; have b3 := g.cell b3; have b4 := g.cell b4; have b5 := g.cell b5; have b6 := g.cell b6; have b7 := g.cell b7; have hb := g.cell hb; have pa := pa.low g.low; have G := Lib.hid (G.out.trans g))
      | (go_at_call 33; refine (CL.out bx _ _ _ hb pa pb).mono ?_; rintro e w4 ⟨rfl, g⟩; have a0 := g.cell a0; have a1 := g.cell a1; have a2 := g.cell a2; have a3 := g.cell a3; have a4 := g.cell a4; have a5 := g.cell a5; have a6 := g.cell a6; have a7 := g.cell a7; have b0 := g.cell b0; have b1 := g.cell b1; have b2 := g.cell b2; have b3 := g.cell b3; have b4 := g.cell b4; have b5 := g.cell b5; have b6 := g.cell b6; have b7 := g.cell b7; have G := Lib.hid (G.out.trans g)))
    all_goals
      go_wp2_with fail
      go_ret
      exact ⟨rfl, G.out⟩
  · have e : orI c r = c := if_neg h0
    have E := Lib.hid e
    clear e
    go_wp2_with fail
    go_ret
    exact ⟨retI E.out, G2.out⟩
end Go.Proofs.Ytdblkjcimegoeaa
