/- The reference's order of numbers, of texts, of names. Condition: the length that any text has. The reference's order of values is the order by definition. No condition. The reference's Order is the order by definition. No condition. -/
import Derived.Test.YtmkillbanmbafaaGreatOrds
import Derived.BigQuiet
namespace Go.Proofs.YtmkillbanmbafaaGreat
open Go.RowKit Go.Sort
theorem rInts_c (a b : Int) (w : World) : Calls Tryz.prog 52 #[.int .i64 a, .int .i64 b] w fun e w' => e = .returned (.int .i64 (cmpI a b)) ∧ w = w' := by
  by_cases h1 : a < b
  · have HR := Lib.hid (show cmpI a b = -1 by unfold cmpI Lib.compareInt; rw [if_pos h1])
    go_enter Tryz.func52, Tryz.ntmps52
    go_wp2_with fail
    go_ret
    exact ⟨retI HR.out, rfl⟩
  · by_cases h2 : b < a
    · have HR := Lib.hid (show cmpI a b = 1 by unfold cmpI Lib.compareInt; rw [if_neg h1, if_pos h2])
      go_enter Tryz.func52, Tryz.ntmps52
      go_wp2_with fail
      go_ret
      exact ⟨retI HR.out, rfl⟩
    · have HR := Lib.hid (show cmpI a b = 0 by unfold cmpI Lib.compareInt; rw [if_neg h1, if_neg h2])
      go_enter Tryz.func52, Tryz.ntmps52
      go_wp2_with fail
      go_ret
      exact ⟨retI HR.out, rfl⟩
theorem cb_cons (x y : UInt8) (l m : List UInt8) : Lib.compareBytes (x :: l) (y :: m) = if x < y then -1 else if y < x then 1 else Lib.compareBytes l m := rfl
theorem cb_end {l m : List UInt8} (h : l = [] ∨ m = []) : Lib.compareBytes l m = cmpI l.length m.length := by
  unfold cmpI Lib.compareInt
  cases l <;> cases m <;> simp [Lib.compareBytes] at * <;> omega
theorem u8_lt {x y : UInt8} : x < y ↔ (x.toNat : Int) < (y.toNat : Int) := by rw [UInt8.lt_iff_toNat_lt]; omega
set_option maxHeartbeats 1600000 in
theorem rTexts_c (s t : ByteArray) (hs : s.size ≤ 9223372036854775807) (_ht : t.size ≤ 9223372036854775807) (w : World) : Calls Tryz.prog 39 #[.string s, .string t] w fun e w' => e = .returned (.int .i64 (cmpT s t)) ∧ Gr w w' := by
  obtain ⟨r, hr⟩ : ∃ r, r = cmpT s t := ⟨_, rfl⟩
  have HR := Lib.hid hr
  rw [← hr]
  clear hr
  go_enter Tryz.func39, Tryz.ntmps39
  go_wp2_with fail
  go_loopg [5] s.size (fun gk vi wr => ∃ i : Nat, vi = .int .i64 (i : Int) ∧ i ≤ s.size ∧ i ≤ t.size ∧ s.size - i ≤ gk ∧ Hid (Gr w wr) ∧ Hid (r = Lib.compareBytes (s.data.toList.drop i) (t.data.toList.drop i)))
  case atStart => exact ⟨0, rfl, Nat.zero_le _, Nat.zero_le _, Nat.le_refl _, Lib.hid (Gr.refl _), HR⟩
  case round =>
    obtain ⟨i, rfl, hi, hi', hg, G, K⟩ := hrel
    by_cases h1 : i < s.size
    · have z1 : (i : Int) < (s.size : Int) := by omega
      by_cases h2 : i < t.size
      · have z2 : (i : Int) < (t.size : Int) := by omega
        have hst : r = if s[i] < t[i] then -1 else if t[i] < s[i] then 1 else Lib.compareBytes (s.data.toList.drop (i + 1)) (t.data.toList.drop (i + 1)) := by
          have h := K.out
          rw [drop_cons (show i < s.data.toList.length by simpa using h1), drop_cons (show i < t.data.toList.length by simpa using h2), cb_cons] at h
          exact h
        rcases Int.lt_trichotomy (s[i].toNat : Int) (t[i].toNat : Int) with hl | hl | hl
        · have hr : r = -1 := by rw [hst, if_pos (u8_lt.2 hl)]
          have HQ := Lib.hid hr
          clear hst hr
          have n1 : ¬ (s[i].toNat : Int) = (t[i].toNat : Int) := by omega
          go_wp2_with fail
          go_quiet (fail)
          go_wp2_with fail
          go_quiet (fail)
          go_wp2_with fail
          go_ret
          exact ⟨retI HQ.out, (G.out.drewN _).drewN _⟩
        · have he : s[i] = t[i] := UInt8.toNat_inj.1 (by omega)
          have hr : r = Lib.compareBytes (s.data.toList.drop (i + 1)) (t.data.toList.drop (i + 1)) := by
            rw [hst, he, if_neg (UInt8.lt_irrefl _), if_neg (UInt8.lt_irrefl _)]
          have HQ : Hid (r = Lib.compareBytes (s.data.toList.drop (i + 1)) (t.data.toList.drop (i + 1))) := hr
          clear hst hr he
          go_wp2_with fail
          go_quiet (fail)
          go_wp2_with fail
          go_roundg (s.size - (i + 1))
          case measure => omega
          case rel => exact ⟨i + 1, by go_num, by omega, by omega, by omega, Lib.hid (G.out.drewN _), HQ⟩
        · have hr : r = 1 := by rw [hst, if_neg (by rw [u8_lt]; omega), if_pos (u8_lt.2 hl)]
          have HQ := Lib.hid hr
          clear hst hr
          have n1 : ¬ (s[i].toNat : Int) = (t[i].toNat : Int) := by omega
          have n2 : ¬ (s[i].toNat : Int) < (t[i].toNat : Int) := by omega
          go_wp2_with fail
          go_quiet (fail)
          go_wp2_with fail
          go_quiet (fail)
          go_wp2_with fail
          go_ret
          exact ⟨retI HQ.out, (G.out.drewN _).drewN _⟩
      · have z2 : ¬ (i : Int) < (t.size : Int) := by omega
        have hr : r = cmpI s.size t.size := by
          rw [K.out, cb_end (.inr (List.drop_eq_nil_of_le (by simp; omega)))]
          simp [cmpI, Lib.compareInt]
          split <;> split <;> omega
        have HQ := Lib.hid hr
        clear hr
        go_wp2_with fail
        refine (rInts_c _ _ _).mono ?_
        rintro e w' ⟨rfl, rfl⟩
        go_wp2_with fail
        go_ret
        exact ⟨retI HQ.out, G.out⟩
    · have z1 : ¬ (i : Int) < (s.size : Int) := by omega
      have hr : r = cmpI s.size t.size := by
        rw [K.out, cb_end (.inl (List.drop_eq_nil_of_le (by simp; omega)))]
        simp [cmpI, Lib.compareInt]
        split <;> split <;> omega
      have HQ := Lib.hid hr
      clear hr
      go_wp2_with fail
      refine (rInts_c _ _ _).mono ?_
      rintro e w' ⟨rfl, rfl⟩
      go_wp2_with fail
      go_ret
      exact ⟨retI HQ.out, G.out⟩
end Go.Proofs.YtmkillbanmbafaaGreat
namespace Go.Proofs.YtmkillbanmbafaaGreat
open Go.RowKit Go.Sort
theorem ordL_end {l m : List V} (h : l = [] ∨ m = []) : ordL l m = cmpI l.length m.length := by
  unfold cmpI Lib.compareInt
  cases l with
  | nil => cases m with
    | nil => simp [ordL_nil]
    | cons y m => simp [ordL_nil_cons] <;> omega
  | cons x l => cases m with
    | nil => simp [ordL_cons_nil] <;> omega
    | cons y m => simp at h
theorem drop_end {α : Type} {l m : List α} {i : Nat} (h1 : i ≤ l.length) (h2 : i ≤ m.length) : cmpI (l.drop i).length (m.drop i).length = cmpI l.length m.length := by
  simp only [List.length_drop, cmpI, Lib.compareInt]
  split <;> split <;> (try split) <;> (try split) <;> omega
set_option maxHeartbeats 1600000 in
theorem rRows_c (l m : List V) (ih : ∀ x ∈ l, ∀ y ∈ m, OrdC 75 x y) (w : World) (it it' : Value) (hl : Ro w l it) (hm : Ro w m it') :
    Calls Tryz.prog 102 #[it, it'] w fun e w' => e = .returned (.int .i64 (ordL l m)) ∧ Gr w w' := by
  obtain ⟨al, cl, rfl, ⟨zl, zl'⟩, -⟩ := id hl
  obtain ⟨am, cm, rfl, ⟨zm, zm'⟩, -⟩ := id hm
  have HL := Lib.hid hl
  have HM := Lib.hid hm
  have HI := Lib.hid ih
  clear hl hm ih
  obtain ⟨r, hr⟩ : ∃ r, r = ordL l m := ⟨_, rfl⟩
  have HR := Lib.hid hr
  rw [← hr]
  clear hr
  go_enter Tryz.func102, Tryz.ntmps102
  go_wp2_with fail
  go_loopg [5] l.length (fun gk vi wr => ∃ i : Nat, vi = .int .i64 (i : Int) ∧ i ≤ l.length ∧ i ≤ m.length ∧ l.length - i ≤ gk ∧ Hid (Gr w wr) ∧ Hid (r = ordL (l.drop i) (m.drop i)))
  case atStart => exact ⟨0, rfl, Nat.zero_le _, Nat.zero_le _, Nat.le_refl _, Lib.hid (Gr.refl _), HR⟩
  case round =>
    obtain ⟨i, rfl, hi, hi', hg, G, K⟩ := hrel
    by_cases hlt : i < l.length
    · have z1 : (i : Int) < (l.length : Int) := by omega
      by_cases hlm : i < m.length
      · have z2 : (i : Int) < (m.length : Int) := by omega
        obtain ⟨b, o, ai, ci, an, cn, rfl, hcs, hrx⟩ := ro_at (HL.out.low G.out.low) hlt
        obtain ⟨e0, e1, e2, e3, e4, e5, e6, e7⟩ := cells8 hcs
        obtain ⟨b', o', ai', ci', an', cn', rfl, hcs', hrx'⟩ := ro_at (HM.out.low G.out.low) hlm
        obtain ⟨d0, d1, d2, d3, d4, d5, d6, d7⟩ := cells8 hcs'
        have HR := Lib.hid hrx
        have HR' := Lib.hid hrx'
        have hcon := HI.out l[i] (List.getElem_mem hlt) m[i] (List.getElem_mem hlm)
        obtain ⟨c, hc⟩ : ∃ c, c = ord l[i] m[i] := ⟨_, rfl⟩
        unfold OrdC at hcon
        rw [← hc] at hcon
        have HC := Lib.hid hcon
        have hst : r = orI c (ordL (l.drop (i + 1)) (m.drop (i + 1))) := by rw [hc, ← ordL_cons, ← drop_cons hlt, ← drop_cons hlm]; exact K.out
        have HS := Lib.hid hst
        have G0 := Lib.hid G.out.drew
        clear hst hcs hcs' hrx hrx' hcon hc
        go_wp2_with fail
        go_region_held3 (fun w' => w'.cell? ⟨b, o + i * 8, none⟩ = some (.int .i64 l[i].h.k) ∧ w'.cell? ⟨b, o + i * 8 + 1, none⟩ = some (.bool l[i].h.b) ∧ w'.cell? ⟨b, o + i * 8 + 2, none⟩ = some (.int .i64 l[i].h.n) ∧ w'.cell? ⟨b, o + i * 8 + 3, none⟩ = some (.string l[i].h.s) ∧ w'.cell? ⟨b, o + i * 8 + 4, none⟩ = some (.string l[i].h.t) ∧ w'.cell? ⟨b, o + i * 8 + 5, none⟩ = some (.string l[i].h.i) ∧ w'.cell? ⟨b, o + i * 8 + 6, none⟩ = some (.slice ai l[i].l.length ci) ∧ w'.cell? ⟨b, o + i * 8 + 7, none⟩ = some (.slice an l[i].ns.length cn) ∧ w'.cell? ⟨b', o' + i * 8, none⟩ = some (.int .i64 m[i].h.k) ∧ w'.cell? ⟨b', o' + i * 8 + 1, none⟩ = some (.bool m[i].h.b) ∧ w'.cell? ⟨b', o' + i * 8 + 2, none⟩ = some (.int .i64 m[i].h.n) ∧ w'.cell? ⟨b', o' + i * 8 + 3, none⟩ = some (.string m[i].h.s) ∧ w'.cell? ⟨b', o' + i * 8 + 4, none⟩ = some (.string m[i].h.t) ∧ w'.cell? ⟨b', o' + i * 8 + 5, none⟩ = some (.string m[i].h.i) ∧ w'.cell? ⟨b', o' + i * 8 + 6, none⟩ = some (.slice ai' m[i].l.length ci') ∧ w'.cell? ⟨b', o' + i * 8 + 7, none⟩ = some (.slice an' m[i].ns.length cn')) (go_keep) (first
          | (go_at_call 75; refine (HC.out _ _ _ _ _ (HR.out.low (Gr.refl _).drew.low) (HR'.out.low (Gr.refl _).drew.low)).mono ?_; rintro e w1 ⟨rfl, g⟩; have e0 := g.cell e0; have d0 := g.cell d0; have e1 := g.cell e1; have d1 := g.cell d1; have e2 := g.cell e2; have d2 := g.cell d2; have e3 := g.cell e3; have d3 := g.cell d3; have e4 := g.cell e4; have d4 := g.cell d4; have e5 := g.cell e5; have d5 := g.cell d5; have e6 := g.cell e6; have d6 := g.cell d6; have e7 := g.cell e7; have d7 := g.cell d7; have G1 := Lib.hid (G0.out.trans g)))
        all_goals
          by_cases h0 : c = 0
          · subst h0
            have HS' : Hid (r = ordL (l.drop (i + 1)) (m.drop (i + 1))) := HS
            go_wp2_with fail
            go_roundg (l.length - (i + 1))
            case measure => omega
            case rel => exact ⟨i + 1, by go_num, by omega, by omega, by omega, G1, HS'⟩
          · have hr : r = c := by rw [HS.out, orI, if_neg h0]
            have HQ := Lib.hid hr
            clear hr
            go_wp2_with fail
            go_ret
            exact ⟨retI HQ.out, G1.out⟩
      · have z2 : ¬ (i : Int) < (m.length : Int) := by omega
        have hr : r = cmpI l.length m.length := by
          rw [K.out, ordL_end (.inr (List.drop_eq_nil_of_le (by omega))), drop_end (by omega) (by omega)]
        have HQ := Lib.hid hr
        clear hr
        go_wp2_with fail
        refine (rInts_c _ _ _).mono ?_
        rintro e w' ⟨rfl, rfl⟩
        go_wp2_with fail
        go_ret
        exact ⟨retI HQ.out, G.out⟩
    · have z1 : ¬ (i : Int) < (l.length : Int) := by omega
      have hr : r = cmpI l.length m.length := by
        rw [K.out, ordL_end (.inl (List.drop_eq_nil_of_le (by omega))), drop_end (by omega) (by omega)]
      have HQ := Lib.hid hr
      clear hr
      go_wp2_with fail
      refine (rInts_c _ _ _).mono ?_
      rintro e w' ⟨rfl, rfl⟩
      go_wp2_with fail
      go_ret
      exact ⟨retI HQ.out, G.out⟩
set_option maxHeartbeats 800000 in
theorem rNamed_c (v : V) (w : World) (it nm : Value) (hr : R w v it nm) : Calls Tryz.prog 103 #[av v.h it nm] w (RowP v.named w) := by
  obtain ⟨-, ⟨an, cn, rfl, zn, -⟩, hro⟩ := rep_v.1 hr
  obtain ⟨ai, ci, rfl, ⟨zl, zc⟩, -⟩ := id hro
  have z1 : (v.l.length : Int) ≤ ci := by omega
  unfold av
  by_cases hm : v.ns.length < v.l.length
  · have z2 : (v.ns.length : Int) < v.l.length := by omega
    have z3 : (v.ns.length : Int) ≤ ci := by omega
    have HR := Lib.hid (show Ro w v.named (.slice ai v.ns.length ci) by
      have h := ro_take hro (k := v.ns.length) (by omega)
      rwa [show v.l.take v.ns.length = v.named by unfold V.named; rw [Nat.min_eq_left (by omega)]] at h)
    clear hr hro
    go_enter Tryz.func103, Tryz.ntmps103
    go_wp2_with fail
    go_ret
    exact ⟨_, rfl, HR.out.low (Gr.alloc (Gr.refl w) _).low, Gr.alloc (Gr.refl w) _⟩
  · have z2 : ¬ (v.ns.length : Int) < v.l.length := by omega
    have HR := Lib.hid (show Ro w v.named (.slice ai v.l.length ci) by
      have h := ro_take hro (k := v.l.length) (Nat.le_refl _)
      rwa [show v.l.take v.l.length = v.named by unfold V.named; rw [Nat.min_eq_right (by omega)]] at h)
    clear hr hro
    go_enter Tryz.func103, Tryz.ntmps103
    go_wp2_with fail
    go_ret
    exact ⟨_, rfl, HR.out.low (Gr.alloc (Gr.refl w) _).low, Gr.alloc (Gr.refl w) _⟩
end Go.Proofs.YtmkillbanmbafaaGreat
namespace Go.Proofs.YtmkillbanmbafaaGreat
open Go.RowKit Go.Sort
theorem cmpN_end {l m : List ByteArray} (h : l = [] ∨ m = []) : cmpN l m = cmpI l.length m.length := by
  unfold cmpI Lib.compareInt
  cases l with
  | nil => cases m with
    | nil => simp [cmpN]
    | cons y m => simp [cmpN] <;> omega
  | cons x l => cases m with
    | nil => simp [cmpN] <;> omega
    | cons y m => simp at h
theorem cmpI_self (x : Int) : cmpI x x = 0 := by simp [cmpI, Lib.compareInt]
theorem cmpI_ne {x y : Int} (h : x ≠ y) : cmpI x y ≠ 0 := by
  simp only [cmpI, Lib.compareInt]
  split
  · omega
  · split <;> omega
theorem bh_of {w : World} {v : V} {it nm : Value} (h : R w v it nm) : Bh v.h := (rep_v.1 h).1
set_option maxHeartbeats 4000000 in
set_option maxRecDepth 100000 in
theorem rOrder_n (n : Nat) : ∀ a b : V, dep a ≤ n → OrdC 75 a b := by
  induction n with
  | zero => intro a b h; rw [dep_v] at h; omega
  | succ n ih =>
    intro a b hd w it nm it' nm' ha hb
    have ih' : ∀ x ∈ a.l, ∀ y ∈ b.l, OrdC 75 x y := fun x hx y _ => ih x y (by have := dep_mem hx; rw [dep_v] at hd; omega)
    obtain ⟨ai, ci, an, cn, rfl, rfl⟩ := r_slices ha
    obtain ⟨ai', ci', an', cn', rfl, rfl⟩ := r_slices hb
    obtain ⟨r, hr⟩ : ∃ r, r = ord a b := ⟨_, rfl⟩
    have hr2 := hr
    rw [ord_eq] at hr2
    rw [← hr]
    clear hr
    have CV := Lib.hid fun (W : World) => rNamed_c a W (.slice ai a.l.length ci) (.slice an a.ns.length cn)
    have CV' := Lib.hid fun (W : World) => rNamed_c b W (.slice ai' b.l.length ci') (.slice an' b.ns.length cn')
    have CL := Lib.hid (rRows_c a.l b.l ih')
    have CM := Lib.hid (rRows_c a.named b.named fun x hx y hy => ih' x (mem_named hx) y (mem_named hy))
    have ra : Ro w a.l (.slice ai a.l.length ci) := (rep_v.1 ha).2.2
    have rb : Ro w b.l (.slice ai' b.l.length ci') := (rep_v.1 hb).2.2
    have NA := Lib.hid (show Na w a.ns (.slice an a.ns.length cn) from (rep_v.1 ha).2.1)
    have NB := Lib.hid (show Na w b.ns (.slice an' b.ns.length cn') from (rep_v.1 hb).2.1)
    have BA := Lib.hid (bh_of ha)
    have BB := Lib.hid (bh_of hb)
    generalize ordL a.l b.l = rl at hr2 CL
    generalize ordL a.named b.named = rm at hr2 CM
    have RA := Lib.hid ra
    have RB := Lib.hid rb
    have HA := Lib.hid ha
    have HB := Lib.hid hb
    have ena : a.ns.length ≤ 9223372036854775807 := by obtain ⟨_, _, _, h, _⟩ := (rep_v.1 ha).2.1; exact h
    have enb : b.ns.length ≤ 9223372036854775807 := by obtain ⟨_, _, _, h, _⟩ := (rep_v.1 hb).2.1; exact h
    clear ra rb ha hb ih ih' hd
    unfold av
    by_cases hk : a.h.k = b.h.k
    · rw [if_pos hk] at hr2
      by_cases k1 : a.h.k = 1
      · rw [if_pos k1] at hr2
        have kb : b.h.k = 1 := hk ▸ k1
        have HR := Lib.hid hr2
        clear hr2 hk
        rw [k1, kb]
        clear k1 kb
        generalize a.h.b = p at *
        generalize b.h.b = q at *
        cases p <;> cases q
        all_goals
          go_enter Tryz.func75, Tryz.ntmps75
          go_wp2_with fail
          go_ret
          exact ⟨retI HR.out, Gr.alloc (Gr.alloc (Gr.refl w) _) _⟩
      rw [if_neg k1] at hr2
      by_cases k2 : a.h.k = 2
      · rw [if_pos k2] at hr2
        have kb : b.h.k = 2 := hk ▸ k2
        have HR := Lib.hid hr2
        clear hr2 hk
        rw [k2, kb]
        clear k2 kb
        go_enter Tryz.func75, Tryz.ntmps75
        go_wp2_with fail
        refine (rInts_c a.h.n b.h.n _).mono ?_
        rintro e w' ⟨rfl, rfl⟩
        go_wp2_with fail
        go_ret
        exact ⟨retI HR.out, Gr.alloc (Gr.alloc (Gr.refl w) _) _⟩
      rw [if_neg k2] at hr2
      by_cases k3 : a.h.k = 3
      · rw [if_pos k3] at hr2
        have kb : b.h.k = 3 := hk ▸ k3
        have HR := Lib.hid hr2
        clear hr2 hk
        rw [k3, kb]
        clear k3 kb
        go_enter Tryz.func75, Tryz.ntmps75
        go_wp2_with fail
        refine (rTexts_c a.h.s b.h.s BA.out.1 BB.out.1 _).mono ?_
        rintro e w' ⟨rfl, g⟩
        go_wp2_with fail
        go_ret
        exact ⟨retI HR.out, (Gr.alloc (Gr.alloc (Gr.refl w) _) _).trans g⟩
      rw [if_neg k3] at hr2
      by_cases k4 : a.h.k = 4
      · rw [if_pos k4] at hr2
        have kb : b.h.k = 4 := hk ▸ k4
        have HR := Lib.hid hr2
        clear hr2 hk
        rw [k4, kb]
        clear k4 kb
        obtain ⟨c, hc⟩ : ∃ c, c = cmpT a.h.t b.h.t := ⟨_, rfl⟩
        obtain ⟨d, hd⟩ : ∃ d, d = cmpT a.h.i b.h.i := ⟨_, rfl⟩
        have C1 := Lib.hid fun W => rTexts_c a.h.t b.h.t BA.out.2.1 BB.out.2.1 W
        have C2 := Lib.hid fun W => rTexts_c a.h.i b.h.i BA.out.2.2 BB.out.2.2 W
        rw [← hc] at C1 HR
        rw [← hd] at C2 HR
        clear hc hd
        go_enter Tryz.func75, Tryz.ntmps75
        go_wp2_with fail
        refine (C1.out _).mono ?_
        rintro e w1 ⟨rfl, g⟩
        have a5 := (gr_box ((Gr.alloc (Gr.refl _) (.cells #[.int .i64 4, .bool b.h.b, .int .i64 b.h.n, .string b.h.s, .string b.h.t, .string b.h.i, .slice ai' b.l.length ci', .slice an' b.ns.length cn'] 37)).trans g)).2.2.2.2.2.1
        have b5 := (gr_box g).2.2.2.2.2.1
        rw [show (w.alloc (.cells #[.int .i64 4, .bool a.h.b, .int .i64 a.h.n, .string a.h.s, .string a.h.t, .string a.h.i, .slice ai a.l.length ci, .slice an a.ns.length cn] 37)).heap.size = w.heap.size + 1 by simp] at b5
        have G := Lib.hid ((Gr.alloc (Gr.alloc (Gr.refl w) _) _ : Gr w ((w.alloc (.cells #[.int .i64 4, .bool a.h.b, .int .i64 a.h.n, .string a.h.s, .string a.h.t, .string a.h.i, .slice ai a.l.length ci, .slice an a.ns.length cn] 37)).alloc (.cells #[.int .i64 4, .bool b.h.b, .int .i64 b.h.n, .string b.h.s, .string b.h.t, .string b.h.i, .slice ai' b.l.length ci', .slice an' b.ns.length cn'] 37))).trans g)
        clear g
        by_cases h0 : c = 0
        · subst h0
          have HQ : Hid (r = d) := HR
          go_wp2_with fail
          refine (C2.out _).mono ?_
          rintro e w2 ⟨rfl, g⟩
          go_wp2_with fail
          go_ret
          exact ⟨retI HQ.out, G.out.trans g⟩
        · have HQ := Lib.hid (show r = c by rw [HR.out, orI, if_neg h0])
          go_wp2_with fail
          go_ret
          exact ⟨retI HQ.out, G.out⟩
      rw [if_neg k4] at hr2
      by_cases k5 : a.h.k = 5
      · rw [if_pos k5] at hr2
        have kb : b.h.k = 5 := hk ▸ k5
        have HR := Lib.hid hr2
        clear hr2 hk
        rw [k5, kb]
        clear k5 kb
        go_enter Tryz.func75, Tryz.ntmps75
        go_wp2_with fail
        refine (CL.out _ _ _ (RA.out.low (Gr.alloc (Gr.alloc (Gr.refl w) _) _ : Gr w ((w.alloc (.cells #[.int .i64 5, .bool a.h.b, .int .i64 a.h.n, .string a.h.s, .string a.h.t, .string a.h.i, .slice ai a.l.length ci, .slice an a.ns.length cn] 37)).alloc (.cells #[.int .i64 5, .bool b.h.b, .int .i64 b.h.n, .string b.h.s, .string b.h.t, .string b.h.i, .slice ai' b.l.length ci', .slice an' b.ns.length cn'] 37))).low) (RB.out.low (Gr.alloc (Gr.alloc (Gr.refl w) _) _ : Gr w ((w.alloc (.cells #[.int .i64 5, .bool a.h.b, .int .i64 a.h.n, .string a.h.s, .string a.h.t, .string a.h.i, .slice ai a.l.length ci, .slice an a.ns.length cn] 37)).alloc (.cells #[.int .i64 5, .bool b.h.b, .int .i64 b.h.n, .string b.h.s, .string b.h.t, .string b.h.i, .slice ai' b.l.length ci', .slice an' b.ns.length cn'] 37))).low)).mono ?_
        rintro e w' ⟨rfl, g⟩
        go_wp2_with fail
        go_ret
        exact ⟨retI HR.out, (Gr.alloc (Gr.alloc (Gr.refl w) _) _).trans g⟩
      rw [if_neg k5] at hr2
      by_cases k6 : a.h.k = 6
      · rw [if_pos k6] at hr2
        have kb : b.h.k = 6 := hk ▸ k6
        have HR := Lib.hid hr2
        unfold av at CV CV'
        rw [k6] at CV
        rw [kb] at CV'
        clear hr2 hk
        rw [k6, kb]
        clear k6 kb
        go_enter Tryz.func75, Tryz.ntmps75
        go_wp2_with fail
        go_loopg [6] a.ns.length (fun gk vi wr => ∃ i : Nat, vi = .int .i64 (i : Int) ∧ i ≤ a.ns.length ∧ i ≤ b.ns.length ∧ a.ns.length - i ≤ gk ∧ Hid (Gr ((w.alloc (.cells #[.int .i64 6, .bool a.h.b, .int .i64 a.h.n, .string a.h.s, .string a.h.t, .string a.h.i, .slice ai a.l.length ci, .slice an a.ns.length cn] 37)).alloc (.cells #[.int .i64 6, .bool b.h.b, .int .i64 b.h.n, .string b.h.s, .string b.h.t, .string b.h.i, .slice ai' b.l.length ci', .slice an' b.ns.length cn'] 37)) wr) ∧ Hid (cmpN a.ns b.ns = cmpN (a.ns.drop i) (b.ns.drop i)))
        case atStart => exact ⟨0, rfl, Nat.zero_le _, Nat.zero_le _, Nat.le_refl _, Lib.hid (Gr.refl _), rfl⟩
        case round =>
          obtain ⟨i, rfl, hi, hi', hg, G, Q⟩ := hrel
          obtain ⟨a0, a1, a2, a3, a4, a5, a6, a7⟩ := gr_box ((Gr.alloc (Gr.refl _) (.cells #[.int .i64 6, .bool b.h.b, .int .i64 b.h.n, .string b.h.s, .string b.h.t, .string b.h.i, .slice ai' b.l.length ci', .slice an' b.ns.length cn'] 37)).trans G.out)
          have hb := gr_box G.out
          rw [show (w.alloc (.cells #[.int .i64 6, .bool a.h.b, .int .i64 a.h.n, .string a.h.s, .string a.h.t, .string a.h.i, .slice ai a.l.length ci, .slice an a.ns.length cn] 37)).heap.size = w.heap.size + 1 by simp] at hb
          obtain ⟨b0, b1, b2, b3, b4, b5, b6, b7⟩ := hb
          have GT := Lib.hid fun (W' : World) (h : Gr ((w.alloc (.cells #[.int .i64 6, .bool a.h.b, .int .i64 a.h.n, .string a.h.s, .string a.h.t, .string a.h.i, .slice ai a.l.length ci, .slice an a.ns.length cn] 37)).alloc (.cells #[.int .i64 6, .bool b.h.b, .int .i64 b.h.n, .string b.h.s, .string b.h.t, .string b.h.i, .slice ai' b.l.length ci', .slice an' b.ns.length cn'] 37)) W') => (Gr.alloc (Gr.alloc (Gr.refl w) _) _ : Gr w ((w.alloc (.cells #[.int .i64 6, .bool a.h.b, .int .i64 a.h.n, .string a.h.s, .string a.h.t, .string a.h.i, .slice ai a.l.length ci, .slice an a.ns.length cn] 37)).alloc (.cells #[.int .i64 6, .bool b.h.b, .int .i64 b.h.n, .string b.h.s, .string b.h.t, .string b.h.i, .slice ai' b.l.length ci', .slice an' b.ns.length cn'] 37))).trans h
          have G0 := Lib.hid (GT.out _ G.out)
          by_cases hlt : i < a.ns.length
          · have z1 : (i : Int) < (a.ns.length : Int) := by omega
            by_cases hlm : i < b.ns.length
            · have z2 : (i : Int) < (b.ns.length : Int) := by omega
              have q1 : i < a.ns.length := by omega
              have q2 : i < b.ns.length := by omega
              obtain ⟨x, o, rfl, hc, hs⟩ := na_at (NA.out.low G0.out.low) q1
              obtain ⟨x', o', rfl, hc', hs'⟩ := na_at (NB.out.low G0.out.low) q2
              obtain ⟨c, hcc⟩ : ∃ c, c = cmpT a.ns[i] b.ns[i] := ⟨_, rfl⟩
              have hst : cmpN a.ns b.ns = orI c (cmpN (a.ns.drop (i + 1)) (b.ns.drop (i + 1))) := by rw [hcc, ← cmpN_cons, ← drop_cons q1, ← drop_cons q2]; exact Q.out
              have HS := Lib.hid hst
              have C1 := Lib.hid fun W => rTexts_c a.ns[i] b.ns[i] hs hs' W
              rw [← hcc] at C1
              have G1 := Lib.hid G.out.drew
              clear hst hcc hs hs'
              go_wp2_with fail
              go_region_held3 (fun w' => w'.cell? ⟨w.heap.size, 7, none⟩ = some (.slice (some ⟨x, o, none⟩) a.ns.length cn) ∧ w'.cell? ⟨w.heap.size + 1, 7, none⟩ = some (.slice (some ⟨x', o', none⟩) b.ns.length cn') ∧ w'.cell? ⟨x, o + i, none⟩ = some (.string a.ns[i]) ∧ w'.cell? ⟨x', o' + i, none⟩ = some (.string b.ns[i])) (go_keep) (first
                | (go_at_call 39; refine (C1.out _).mono ?_; rintro e w1 ⟨rfl, g⟩; have a7 := g.cell a7; have b7 := g.cell b7; have hc := g.cell hc; have hc' := g.cell hc'; have G2 := Lib.hid (G1.out.trans g)))
              all_goals
                by_cases h0 : c = 0
                · subst h0
                  have HS' : Hid (cmpN a.ns b.ns = cmpN (a.ns.drop (i + 1)) (b.ns.drop (i + 1))) := HS
                  go_wp2_with fail
                  go_roundg (a.ns.length - (i + 1))
                  case measure => omega
                  case rel => exact ⟨i + 1, by go_num, by omega, by omega, by omega, G2, HS'⟩
                · have hq : r = c := by rw [HR.out, HS.out]; simp [orI, h0]
                  have HQ := Lib.hid hq
                  clear hq
                  have GF := Lib.hid (GT.out _ G2.out)
                  go_wp2_with fail
                  go_ret
                  exact ⟨retI HQ.out, GF.out⟩
            · have z2 : ¬ (i : Int) < (b.ns.length : Int) := by omega
              have hcm : cmpN a.ns b.ns = cmpI a.ns.length b.ns.length := by
                rw [Q.out, cmpN_end (.inr (List.drop_eq_nil_of_le (by omega))), drop_end (by omega) (by omega)]
              have hne : ¬ (a.ns.length : Int) = (b.ns.length : Int) := by omega
              have hq : r = cmpI a.ns.length b.ns.length := by
                rw [HR.out, hcm, orI, if_neg (cmpI_ne hne)]
              have HQ := Lib.hid hq
              clear hcm hq
              go_wp2_with fail
              refine (rInts_c _ _ _).mono ?_
              rintro e w' ⟨rfl, rfl⟩
              go_wp2_with fail
              go_ret
              exact ⟨retI HQ.out, G0.out⟩
          · have z1 : ¬ (i : Int) < (a.ns.length : Int) := by omega
            have hcm : cmpN a.ns b.ns = cmpI a.ns.length b.ns.length := by
              rw [Q.out, cmpN_end (.inl (List.drop_eq_nil_of_le (by omega))), drop_end (by omega) (by omega)]
            by_cases he : a.ns.length = b.ns.length
            · have hq : r = rm := by
                rw [HR.out, hcm, he, cmpI_self]; rfl
              have HQ := Lib.hid hq
              have ze : (a.ns.length : Int) = (b.ns.length : Int) := by omega
              have G1 := Lib.hid G0.out.drew
              clear hcm hq he
              go_wp2_with fail
              go_region_held3 (fun w' => w'.cell? ⟨w.heap.size, 0, none⟩ = some (.int .i64 6) ∧ w'.cell? ⟨w.heap.size, 1, none⟩ = some (.bool a.h.b) ∧ w'.cell? ⟨w.heap.size, 2, none⟩ = some (.int .i64 a.h.n) ∧ w'.cell? ⟨w.heap.size, 3, none⟩ = some (.string a.h.s) ∧ w'.cell? ⟨w.heap.size, 4, none⟩ = some (.string a.h.t) ∧ w'.cell? ⟨w.heap.size, 5, none⟩ = some (.string a.h.i) ∧ w'.cell? ⟨w.heap.size, 6, none⟩ = some (.slice ai a.l.length ci) ∧ w'.cell? ⟨w.heap.size, 7, none⟩ = some (.slice an a.ns.length cn) ∧ w'.cell? ⟨w.heap.size + 1, 0, none⟩ = some (.int .i64 6) ∧ w'.cell? ⟨w.heap.size + 1, 1, none⟩ = some (.bool b.h.b) ∧ w'.cell? ⟨w.heap.size + 1, 2, none⟩ = some (.int .i64 b.h.n) ∧ w'.cell? ⟨w.heap.size + 1, 3, none⟩ = some (.string b.h.s) ∧ w'.cell? ⟨w.heap.size + 1, 4, none⟩ = some (.string b.h.t) ∧ w'.cell? ⟨w.heap.size + 1, 5, none⟩ = some (.string b.h.i) ∧ w'.cell? ⟨w.heap.size + 1, 6, none⟩ = some (.slice ai' b.l.length ci') ∧ w'.cell? ⟨w.heap.size + 1, 7, none⟩ = some (.slice an' b.ns.length cn')) (go_keep) (first
                | (go_at_call_of 103 (Value.slice ai a.l.length ci); refine (CV.out _ (HA.out.low G1.out.low)).mono ?_; rintro e w2 ⟨ra, rfl, pa, g⟩; have a0 := g.cell a0; have b0 := g.cell b0; have a1 := g.cell a1; have b1 := g.cell b1; have a2 := g.cell a2; have b2 := g.cell b2; have a3 := g.cell a3; have b3 := g.cell b3; have a4 := g.cell a4; have b4 := g.cell b4; have a5 := g.cell a5; have b5 := g.cell b5; have a6 := g.cell a6; have b6 := g.cell b6; have a7 := g.cell a7; have b7 := g.cell b7; have G := Lib.hid (G1.out.trans g))
                | (go_at_call_of 103 (Value.slice ai' b.l.length ci'); refine (CV'.out _ (HB.out.low G.out.low)).mono ?_; rintro e w3 ⟨rb, rfl, pb, g⟩; have a0 := g.cell a0; have b0 := g.cell b0; have a1 := g.cell a1; have b1 := g.cell b1; have a2 := g.cell a2; have b2 := g.cell b2; have a3 := g.cell a3; have b3 := g.cell b3; have a4 := g.cell a4; have b4 := g.cell b4; have a5 := g.cell a5; have b5 := g.cell b5; have a6 := g.cell a6; have b6 := g.cell b6; have a7 := g.cell a7; have b7 := g.cell b7; have pa := pa.low g.low; have G := Lib.hid (G.out.trans g))
                | (go_at_call 102; refine (CM.out _ _ _ pa pb).mono ?_; rintro e w4 ⟨rfl, g⟩; have a0 := g.cell a0; have b0 := g.cell b0; have a1 := g.cell a1; have b1 := g.cell b1; have a2 := g.cell a2; have b2 := g.cell b2; have a3 := g.cell a3; have b3 := g.cell b3; have a4 := g.cell a4; have b4 := g.cell b4; have a5 := g.cell a5; have b5 := g.cell b5; have a6 := g.cell a6; have b6 := g.cell b6; have a7 := g.cell a7; have b7 := g.cell b7; have G := Lib.hid (G.out.trans g)))
              all_goals
                go_wp2_with fail
                go_ret
                exact ⟨retI HQ.out, G.out⟩
            · have hne : ¬ (a.ns.length : Int) = (b.ns.length : Int) := by omega
              have hq : r = cmpI a.ns.length b.ns.length := by
                rw [HR.out, hcm, orI, if_neg (cmpI_ne hne)]
              have HQ := Lib.hid hq
              clear hcm hq
              go_wp2_with fail
              refine (rInts_c _ _ _).mono ?_
              rintro e w' ⟨rfl, rfl⟩
              go_wp2_with fail
              go_ret
              exact ⟨retI HQ.out, G0.out⟩
      · rw [if_neg k6] at hr2
        subst hr2
        go_enter Tryz.func75, Tryz.ntmps75
        go_wp2_with fail
        go_ret
        exact ⟨rfl, Gr.alloc (Gr.alloc (Gr.refl w) _) _⟩
    · rw [if_neg hk] at hr2
      have HR := Lib.hid hr2
      clear hr2
      go_enter Tryz.func75, Tryz.ntmps75
      go_wp2_with fail
      refine (rInts_c a.h.k b.h.k _).mono ?_
      rintro e w' ⟨rfl, rfl⟩
      go_wp2_with fail
      go_ret
      exact ⟨retI HR.out, Gr.alloc (Gr.alloc (Gr.refl w) _) _⟩
theorem rOrder_c (a b : V) : OrdC 75 a b := rOrder_n (dep a) a b (Nat.le_refl _)
end Go.Proofs.YtmkillbanmbafaaGreat
