/- The reference's order of values is the order by definition. No condition. -/
import Derived.Test.YtgpdcelfnpoenaaRefT
namespace Go.Proofs.Ytgpdcelfnpoenaa
open Go.RowKit Go.Sort
theorem ordL_end {l m : List V} (h : l = [] ∨ m = []) : ordL l m = cmpI l.length m.length := by
  unfold cmpI Lib.compareInt
  cases l with
  | nil => cases m with
    | nil => simp [ordL_nil]
    | cons y m => simp [ordL_nil_cons] <;> omega
  | cons x l => cases m with
    | nil => simp [ordL_cons_nil] <;> omega
    | cons y m => simp at h
theorem drop_end {α : Type} {l m : List α} {i : Nat} (h1 : i ≤ l.length) (h2 : i ≤ m.length) : cmpI (l.drop i).length (m.drop i).length = cmpI l.length m.length := by
  simp only [List.length_drop, cmpI, Lib.compareInt]
  split <;> split <;> (try split) <;> (try split) <;> omega
set_option maxHeartbeats 1600000 in
theorem rRows_c (l m : List V) (ih : ∀ x ∈ l, ∀ y ∈ m, OrdC 60 x y) (w : World) (it it' : Value) (hl : Ro w l it) (hm : Ro w m it') :
    Calls Try.prog 77 #[it, it'] w fun e w' => e = .returned (.int .i64 (ordL l m)) ∧ Gr w w' := by
  obtain ⟨al, cl, rfl, ⟨zl, zl'⟩, -⟩ := id hl
  obtain ⟨am, cm, rfl, ⟨zm, zm'⟩, -⟩ := id hm
  have HL := Lib.hid hl
  have HM := Lib.hid hm
  have HI := Lib.hid ih
  clear hl hm ih
  obtain ⟨r, hr⟩ : ∃ r, r = ordL l m := ⟨_, rfl⟩
  have HR := Lib.hid hr
  rw [← hr]
  clear hr
  go_enter Try.func77, Try.ntmps77
  go_wp2_with fail
  go_loopg [5] l.length (fun gk vi wr => ∃ i : Nat, vi = .int .i64 (i : Int) ∧ i ≤ l.length ∧ i ≤ m.length ∧ l.length - i ≤ gk ∧ Hid (Gr w wr) ∧ Hid (r = ordL (l.drop i) (m.drop i)))
  case atStart => exact ⟨0, rfl, Nat.zero_le _, Nat.zero_le _, Nat.le_refl _, Lib.hid (Gr.refl _), HR⟩
  case round =>
    obtain ⟨i, rfl, hi, hi', hg, G, K⟩ := hrel
    by_cases hlt : i < l.length
    · have z1 : (i : Int) < (l.length : Int) := by omega
      by_cases hlm : i < m.length
      · have z2 : (i : Int) < (m.length : Int) := by omega
        obtain ⟨b, o, ai, ci, an, cn, rfl, hcs, hrx⟩ := ro_at (HL.out.low G.out.low) hlt
        obtain ⟨e0, e1, e2, e3, e4, e5, e6, e7⟩ := cells8 hcs
        obtain ⟨b', o', ai', ci', an', cn', rfl, hcs', hrx'⟩ := ro_at (HM.out.low G.out.low) hlm
        obtain ⟨d0, d1, d2, d3, d4, d5, d6, d7⟩ := cells8 hcs'
        have HR := Lib.hid hrx
        have HR' := Lib.hid hrx'
        have hcon := HI.out l[i] (List.getElem_mem hlt) m[i] (List.getElem_mem hlm)
        obtain ⟨c, hc⟩ : ∃ c, c = ord l[i] m[i] := ⟨_, rfl⟩
        unfold OrdC at hcon
        rw [← hc] at hcon
        have HC := Lib.hid hcon
        have hst : r = orI c (ordL (l.drop (i + 1)) (m.drop (i + 1))) := by rw [hc, ← ordL_cons, ← drop_cons hlt, ← drop_cons hlm]; exact K.out
        have HS := Lib.hid hst
        have G0 := Lib.hid G.out.drew
        clear hst hcs hcs' hrx hrx' hcon hc
        go_wp2_with fail
        go_region_held3 (fun w' => w'.cell? ⟨b, o + i * 8, none⟩ = some (.int .i64 l[i].h.k) ∧ w'.cell? ⟨b, o + i * 8 + 1, none⟩ = some (.bool l[i].h.b) ∧ w'.cell? ⟨b, o + i * 8 + 2, none⟩ = some (.int .i64 l[i].h.n) ∧ w'.cell? ⟨b, o + i * 8 + 3, none⟩ = some (.string l[i].h.s) ∧ w'.cell? ⟨b, o + i * 8 + 4, none⟩ = some (.string l[i].h.t) ∧ w'.cell? ⟨b, o + i * 8 + 5, none⟩ = some (.string l[i].h.i) ∧ w'.cell? ⟨b, o + i * 8 + 6, none⟩ = some (.slice ai l[i].l.length ci) ∧ w'.cell? ⟨b, o + i * 8 + 7, none⟩ = some (.slice an l[i].ns.length cn) ∧ w'.cell? ⟨b', o' + i * 8, none⟩ = some (.int .i64 m[i].h.k) ∧ w'.cell? ⟨b', o' + i * 8 + 1, none⟩ = some (.bool m[i].h.b) ∧ w'.cell? ⟨b', o' + i * 8 + 2, none⟩ = some (.int .i64 m[i].h.n) ∧ w'.cell? ⟨b', o' + i * 8 + 3, none⟩ = some (.string m[i].h.s) ∧ w'.cell? ⟨b', o' + i * 8 + 4, none⟩ = some (.string m[i].h.t) ∧ w'.cell? ⟨b', o' + i * 8 + 5, none⟩ = some (.string m[i].h.i) ∧ w'.cell? ⟨b', o' + i * 8 + 6, none⟩ = some (.slice ai' m[i].l.length ci') ∧ w'.cell? ⟨b', o' + i * 8 + 7, none⟩ = some (.slice an' m[i].ns.length cn')) (go_keep) (first
          | (go_at_call 60; refine (HC.out _ _ _ _ _ (HR.out.low (Gr.refl _).drew.low) (HR'.out.low (Gr.refl _).drew.low)).mono ?_; rintro e w1 ⟨rfl, g⟩; have e0 := g.cell e0; have d0 := g.cell d0; have e1 := g.cell e1; have d1 := g.cell d1; have e2 := g.cell e2; have d2 := g.cell d2; have e3 := g.cell e3; have d3 := g.cell d3; have e4 := g.cell e4; have d4 := g.cell d4; have e5 := g.cell e5; have d5 := g.cell d5; have e6 := g.cell e6; have d6 := g.cell d6; have e7 := g.cell e7; have d7 := g.cell d7; have G1 := Lib.hid (G0.out.trans g)))
        all_goals
          by_cases h0 : c = 0
          · subst h0
            have HS' : Hid (r = ordL (l.drop (i + 1)) (m.drop (i + 1))) := HS
            go_wp2_with fail
            go_roundg (l.length - (i + 1))
            case measure => omega
            case rel => exact ⟨i + 1, by go_num, by omega, by omega, by omega, G1, HS'⟩
          · have hr : r = c := by rw [HS.out, orI, if_neg h0]
            have HQ := Lib.hid hr
            clear hr
            go_wp2_with fail
            go_ret
            exact ⟨retI HQ.out, G1.out⟩
      · have z2 : ¬ (i : Int) < (m.length : Int) := by omega
        have hr : r = cmpI l.length m.length := by
          rw [K.out, ordL_end (.inr (List.drop_eq_nil_of_le (by omega))), drop_end (by omega) (by omega)]
        have HQ := Lib.hid hr
        clear hr
        go_wp2_with fail
        refine (rInts_c _ _ _).mono ?_
        rintro e w' ⟨rfl, rfl⟩
        go_wp2_with fail
        go_ret
        exact ⟨retI HQ.out, G.out⟩
    · have z1 : ¬ (i : Int) < (l.length : Int) := by omega
      have hr : r = cmpI l.length m.length := by
        rw [K.out, ordL_end (.inl (List.drop_eq_nil_of_le (by omega))), drop_end (by omega) (by omega)]
      have HQ := Lib.hid hr
      clear hr
      go_wp2_with fail
      refine (rInts_c _ _ _).mono ?_
      rintro e w' ⟨rfl, rfl⟩
      go_wp2_with fail
      go_ret
      exact ⟨retI HQ.out, G.out⟩
set_option maxHeartbeats 800000 in
theorem rNamed_c (v : V) (w : World) (it nm : Value) (hr : R w v it nm) : Calls Try.prog 78 #[av v.h it nm] w (RowP v.named w) := by
  obtain ⟨-, ⟨an, cn, rfl, zn, -⟩, hro⟩ := rep_v.1 hr
  obtain ⟨ai, ci, rfl, ⟨zl, zc⟩, -⟩ := id hro
  have z1 : (v.l.length : Int) ≤ ci := by omega
  unfold av
  by_cases hm : v.ns.length < v.l.length
  · have z2 : (v.ns.length : Int) < v.l.length := by omega
    have z3 : (v.ns.length : Int) ≤ ci := by omega
    have HR := Lib.hid (show Ro w v.named (.slice ai v.ns.length ci) by
      have h := ro_take hro (k := v.ns.length) (by omega)
      rwa [show v.l.take v.ns.length = v.named by unfold V.named; rw [Nat.min_eq_left (by omega)]] at h)
    clear hr hro
    go_enter Try.func78, Try.ntmps78
    go_wp2_with fail
    go_ret
    exact ⟨_, rfl, HR.out.low (Gr.alloc (Gr.refl w) _).low, Gr.alloc (Gr.refl w) _⟩
  · have z2 : ¬ (v.ns.length : Int) < v.l.length := by omega
    have HR := Lib.hid (show Ro w v.named (.slice ai v.l.length ci) by
      have h := ro_take hro (k := v.l.length) (Nat.le_refl _)
      rwa [show v.l.take v.l.length = v.named by unfold V.named; rw [Nat.min_eq_right (by omega)]] at h)
    clear hr hro
    go_enter Try.func78, Try.ntmps78
    go_wp2_with fail
    go_ret
    exact ⟨_, rfl, HR.out.low (Gr.alloc (Gr.refl w) _).low, Gr.alloc (Gr.refl w) _⟩
end Go.Proofs.Ytgpdcelfnpoenaa
