/- The reference's Order is the order by definition. No condition. Same, Holds, and what looks for an item. No condition. conform.all at rows of chamberlain/api.Value: is something so of each one? Condition: what the closure answers of each. conform.all at rows of chamberlain/api.Uid: is something so of each one? Condition: what the closure answers of each. -/
import Derived.Test.YtnenjgngahipdaaGreatZg05
import Derived.Test.YtnenjgngahipdaaGreatZg02
import Derived.Deep.DeepCutAuto
import Derived.Test.YtnenjgngahipdaaGreatZg03
set_option linter.unusedVariables false
set_option linter.unusedSimpArgs false
set_option linter.unnecessarySimpa false
namespace Go.Proofs.YtnenjgngahipdaaGreat
open Go.RowKit Go.Sort
theorem cmpN_end {l m : List ByteArray} (h : l = [] ∨ m = []) : cmpN l m = cmpIv l.length m.length := by
  unfold cmpIv Lib.compareInt
  cases l with
  | nil => cases m with
    | nil => simp [cmpN]
    | cons y m => simp [cmpN] <;> omega
  | cons x l => cases m with
    | nil => simp [cmpN] <;> omega
    | cons y m => simp at h
theorem cmpI_self (x : Int) : cmpIv x x = 0 := by simp [cmpIv, Lib.compareInt]
theorem cmpI_ne {x y : Int} (h : x ≠ y) : cmpIv x y ≠ 0 := by
  simp only [cmpIv, Lib.compareInt]
  split
  · omega
  · split <;> omega
theorem bh_of {w : World} {v : V} {it nm : Value} (h : R w v it nm) : Bh v.h := (rep_v.1 h).1
set_option maxHeartbeats 4000000 in
set_option maxRecDepth 100000 in
theorem rOrder_n (n : Nat) : ∀ a b : V, dep a ≤ n → OrdC 58 a b := by
  induction n with
  | zero => intro a b h; rw [dep_v] at h; omega
  | succ n ih =>
    intro a b hd w it nm it' nm' ha hb
    have ih' : ∀ x ∈ a.l, ∀ y ∈ b.l, OrdC 58 x y := fun x hx y _ => ih x y (by have := dep_mem hx; rw [dep_v] at hd; omega)
    obtain ⟨ai, ci, an, cn, rfl, rfl⟩ := r_slices ha
    obtain ⟨ai', ci', an', cn', rfl, rfl⟩ := r_slices hb
    obtain ⟨r, hr⟩ : ∃ r, r = ord a b := ⟨_, rfl⟩
    have hr2 := hr
    rw [ord_eq] at hr2
    rw [← hr]
    clear hr
    have CV := Lib.hid fun (W : World) => rNamed_c a W (.slice ai a.l.length ci) (.slice an a.ns.length cn)
    have CV' := Lib.hid fun (W : World) => rNamed_c b W (.slice ai' b.l.length ci') (.slice an' b.ns.length cn')
    have CL := Lib.hid (rRows_c a.l b.l ih')
    have CM := Lib.hid (rRows_c a.named b.named fun x hx y hy => ih' x (mem_named hx) y (mem_named hy))
    have ra : Ro w a.l (.slice ai a.l.length ci) := (rep_v.1 ha).2.2
    have rb : Ro w b.l (.slice ai' b.l.length ci') := (rep_v.1 hb).2.2
    have NA := Lib.hid (show Na w a.ns (.slice an a.ns.length cn) from (rep_v.1 ha).2.1)
    have NB := Lib.hid (show Na w b.ns (.slice an' b.ns.length cn') from (rep_v.1 hb).2.1)
    have BA := Lib.hid (bh_of ha)
    have BB := Lib.hid (bh_of hb)
    generalize ordL a.l b.l = rl at hr2 CL
    generalize ordL a.named b.named = rm at hr2 CM
    have RA := Lib.hid ra
    have RB := Lib.hid rb
    have HA := Lib.hid ha
    have HB := Lib.hid hb
    have ena : a.ns.length ≤ 9223372036854775807 := by obtain ⟨_, _, _, h, _⟩ := (rep_v.1 ha).2.1; exact h
    have enb : b.ns.length ≤ 9223372036854775807 := by obtain ⟨_, _, _, h, _⟩ := (rep_v.1 hb).2.1; exact h
    clear ra rb ha hb ih ih' hd
    unfold avv
    by_cases hk : a.h.k = b.h.k
    · rw [if_pos hk] at hr2
      by_cases k1 : a.h.k = 1
      · rw [if_pos k1] at hr2
        have kb : b.h.k = 1 := hk ▸ k1
        have HR := Lib.hid hr2
        clear hr2 hk
        rw [k1, kb]
        clear k1 kb
        generalize a.h.b = p at *
        generalize b.h.b = q at *
        cases p <;> cases q
        all_goals
          go_enter Tryz.func58, Tryz.ntmps58
          go_wp2_with fail
          go_ret
          exact ⟨retIv HR.out, Gr.alloc (Gr.alloc (Gr.refl w) _) _⟩
      rw [if_neg k1] at hr2
      by_cases k2 : a.h.k = 2
      · rw [if_pos k2] at hr2
        have kb : b.h.k = 2 := hk ▸ k2
        have HR := Lib.hid hr2
        clear hr2 hk
        rw [k2, kb]
        clear k2 kb
        go_enter Tryz.func58, Tryz.ntmps58
        go_wp2_with fail
        refine (rInts_cv a.h.n b.h.n _).mono ?_
        rintro e w' ⟨rfl, rfl⟩
        go_wp2_with fail
        go_ret
        exact ⟨retIv HR.out, Gr.alloc (Gr.alloc (Gr.refl w) _) _⟩
      rw [if_neg k2] at hr2
      by_cases k3 : a.h.k = 3
      · rw [if_pos k3] at hr2
        have kb : b.h.k = 3 := hk ▸ k3
        have HR := Lib.hid hr2
        clear hr2 hk
        rw [k3, kb]
        clear k3 kb
        go_enter Tryz.func58, Tryz.ntmps58
        go_wp2_with fail
        refine (rTexts_cv a.h.s b.h.s BA.out.1 BB.out.1 _).mono ?_
        rintro e w' ⟨rfl, g⟩
        go_wp2_with fail
        go_ret
        exact ⟨retIv HR.out, (Gr.alloc (Gr.alloc (Gr.refl w) _) _).trans g⟩
      rw [if_neg k3] at hr2
      by_cases k4 : a.h.k = 4
      · rw [if_pos k4] at hr2
        have kb : b.h.k = 4 := hk ▸ k4
        have HR := Lib.hid hr2
        clear hr2 hk
        rw [k4, kb]
        clear k4 kb
        obtain ⟨c, hc⟩ : ∃ c, c = cmpT a.h.t b.h.t := ⟨_, rfl⟩
        obtain ⟨d, hd⟩ : ∃ d, d = cmpT a.h.i b.h.i := ⟨_, rfl⟩
        have C1 := Lib.hid fun W => rTexts_cv a.h.t b.h.t BA.out.2.1 BB.out.2.1 W
        have C2 := Lib.hid fun W => rTexts_cv a.h.i b.h.i BA.out.2.2 BB.out.2.2 W
        rw [← hc] at C1 HR
        rw [← hd] at C2 HR
        clear hc hd
        go_enter Tryz.func58, Tryz.ntmps58
        go_wp2_with fail
        refine (C1.out _).mono ?_
        rintro e w1 ⟨rfl, g⟩
        have a5 := (gr_box ((Gr.alloc (Gr.refl _) (.cells #[.int .i64 4, .bool b.h.b, .int .i64 b.h.n, .string b.h.s, .string b.h.t, .string b.h.i, .slice ai' b.l.length ci', .slice an' b.ns.length cn'] 27)).trans g)).2.2.2.2.2.1
        have b5 := (gr_box g).2.2.2.2.2.1
        rw [show (w.alloc (.cells #[.int .i64 4, .bool a.h.b, .int .i64 a.h.n, .string a.h.s, .string a.h.t, .string a.h.i, .slice ai a.l.length ci, .slice an a.ns.length cn] 27)).heap.size = w.heap.size + 1 by simp] at b5
        have G := Lib.hid ((Gr.alloc (Gr.alloc (Gr.refl w) _) _ : Gr w ((w.alloc (.cells #[.int .i64 4, .bool a.h.b, .int .i64 a.h.n, .string a.h.s, .string a.h.t, .string a.h.i, .slice ai a.l.length ci, .slice an a.ns.length cn] 27)).alloc (.cells #[.int .i64 4, .bool b.h.b, .int .i64 b.h.n, .string b.h.s, .string b.h.t, .string b.h.i, .slice ai' b.l.length ci', .slice an' b.ns.length cn'] 27))).trans g)
        clear g
        by_cases h0 : c = 0
        · subst h0
          have HQ : Hid (r = d) := HR
          go_wp2_with fail
          refine (C2.out _).mono ?_
          rintro e w2 ⟨rfl, g⟩
          go_wp2_with fail
          go_ret
          exact ⟨retIv HQ.out, G.out.trans g⟩
        · have HQ := Lib.hid (show r = c by rw [HR.out, orI, if_neg h0])
          go_wp2_with fail
          go_ret
          exact ⟨retIv HQ.out, G.out⟩
      rw [if_neg k4] at hr2
      by_cases k5 : a.h.k = 5
      · rw [if_pos k5] at hr2
        have kb : b.h.k = 5 := hk ▸ k5
        have HR := Lib.hid hr2
        clear hr2 hk
        rw [k5, kb]
        clear k5 kb
        go_enter Tryz.func58, Tryz.ntmps58
        go_wp2_with fail
        refine (CL.out _ _ _ (RA.out.low (Gr.alloc (Gr.alloc (Gr.refl w) _) _ : Gr w ((w.alloc (.cells #[.int .i64 5, .bool a.h.b, .int .i64 a.h.n, .string a.h.s, .string a.h.t, .string a.h.i, .slice ai a.l.length ci, .slice an a.ns.length cn] 27)).alloc (.cells #[.int .i64 5, .bool b.h.b, .int .i64 b.h.n, .string b.h.s, .string b.h.t, .string b.h.i, .slice ai' b.l.length ci', .slice an' b.ns.length cn'] 27))).low) (RB.out.low (Gr.alloc (Gr.alloc (Gr.refl w) _) _ : Gr w ((w.alloc (.cells #[.int .i64 5, .bool a.h.b, .int .i64 a.h.n, .string a.h.s, .string a.h.t, .string a.h.i, .slice ai a.l.length ci, .slice an a.ns.length cn] 27)).alloc (.cells #[.int .i64 5, .bool b.h.b, .int .i64 b.h.n, .string b.h.s, .string b.h.t, .string b.h.i, .slice ai' b.l.length ci', .slice an' b.ns.length cn'] 27))).low)).mono ?_
        rintro e w' ⟨rfl, g⟩
        go_wp2_with fail
        go_ret
        exact ⟨retIv HR.out, (Gr.alloc (Gr.alloc (Gr.refl w) _) _).trans g⟩
      rw [if_neg k5] at hr2
      by_cases k6 : a.h.k = 6
      · rw [if_pos k6] at hr2
        have kb : b.h.k = 6 := hk ▸ k6
        have HR := Lib.hid hr2
        unfold avv at CV CV'
        rw [k6] at CV
        rw [kb] at CV'
        clear hr2 hk
        rw [k6, kb]
        clear k6 kb
        go_enter Tryz.func58, Tryz.ntmps58
        go_wp2_with fail
        go_loopg [6] a.ns.length (fun gk vi wr => ∃ i : Nat, vi = .int .i64 (i : Int) ∧ i ≤ a.ns.length ∧ i ≤ b.ns.length ∧ a.ns.length - i ≤ gk ∧ Hid (Gr ((w.alloc (.cells #[.int .i64 6, .bool a.h.b, .int .i64 a.h.n, .string a.h.s, .string a.h.t, .string a.h.i, .slice ai a.l.length ci, .slice an a.ns.length cn] 27)).alloc (.cells #[.int .i64 6, .bool b.h.b, .int .i64 b.h.n, .string b.h.s, .string b.h.t, .string b.h.i, .slice ai' b.l.length ci', .slice an' b.ns.length cn'] 27)) wr) ∧ Hid (cmpN a.ns b.ns = cmpN (a.ns.drop i) (b.ns.drop i)))
        case atStart => exact ⟨0, rfl, Nat.zero_le _, Nat.zero_le _, Nat.le_refl _, Lib.hid (Gr.refl _), rfl⟩
        case round =>
          obtain ⟨i, rfl, hi, hi', hg, G, Q⟩ := hrel
          obtain ⟨a0, a1, a2, a3, a4, a5, a6, a7⟩ := gr_box ((Gr.alloc (Gr.refl _) (.cells #[.int .i64 6, .bool b.h.b, .int .i64 b.h.n, .string b.h.s, .string b.h.t, .string b.h.i, .slice ai' b.l.length ci', .slice an' b.ns.length cn'] 27)).trans G.out)
          have hb := gr_box G.out
          rw [show (w.alloc (.cells #[.int .i64 6, .bool a.h.b, .int .i64 a.h.n, .string a.h.s, .string a.h.t, .string a.h.i, .slice ai a.l.length ci, .slice an a.ns.length cn] 27)).heap.size = w.heap.size + 1 by simp] at hb
          obtain ⟨b0, b1, b2, b3, b4, b5, b6, b7⟩ := hb
          have GT := Lib.hid fun (W' : World) (h : Gr ((w.alloc (.cells #[.int .i64 6, .bool a.h.b, .int .i64 a.h.n, .string a.h.s, .string a.h.t, .string a.h.i, .slice ai a.l.length ci, .slice an a.ns.length cn] 27)).alloc (.cells #[.int .i64 6, .bool b.h.b, .int .i64 b.h.n, .string b.h.s, .string b.h.t, .string b.h.i, .slice ai' b.l.length ci', .slice an' b.ns.length cn'] 27)) W') => (Gr.alloc (Gr.alloc (Gr.refl w) _) _ : Gr w ((w.alloc (.cells #[.int .i64 6, .bool a.h.b, .int .i64 a.h.n, .string a.h.s, .string a.h.t, .string a.h.i, .slice ai a.l.length ci, .slice an a.ns.length cn] 27)).alloc (.cells #[.int .i64 6, .bool b.h.b, .int .i64 b.h.n, .string b.h.s, .string b.h.t, .string b.h.i, .slice ai' b.l.length ci', .slice an' b.ns.length cn'] 27))).trans h
          have G0 := Lib.hid (GT.out _ G.out)
          by_cases hlt : i < a.ns.length
          · have z1 : (i : Int) < (a.ns.length : Int) := by omega
            by_cases hlm : i < b.ns.length
            · have z2 : (i : Int) < (b.ns.length : Int) := by omega
              have q1 : i < a.ns.length := by omega
              have q2 : i < b.ns.length := by omega
              obtain ⟨x, o, rfl, hc, hs⟩ := na_at (NA.out.low G0.out.low) q1
              obtain ⟨x', o', rfl, hc', hs'⟩ := na_at (NB.out.low G0.out.low) q2
              obtain ⟨c, hcc⟩ : ∃ c, c = cmpT a.ns[i] b.ns[i] := ⟨_, rfl⟩
              have hst : cmpN a.ns b.ns = orI c (cmpN (a.ns.drop (i + 1)) (b.ns.drop (i + 1))) := by rw [hcc, ← cmpN_cons, ← drop_consv q1, ← drop_consv q2]; exact Q.out
              have HS := Lib.hid hst
              have C1 := Lib.hid fun W => rTexts_cv a.ns[i] b.ns[i] hs hs' W
              rw [← hcc] at C1
              have G1 := Lib.hid G.out.drew
              clear hst hcc hs hs'
              go_wp2_with fail
              go_region_held3 (fun w' => w'.cell? ⟨w.heap.size, 7, none⟩ = some (.slice (some ⟨x, o, none⟩) a.ns.length cn) ∧ w'.cell? ⟨w.heap.size + 1, 7, none⟩ = some (.slice (some ⟨x', o', none⟩) b.ns.length cn') ∧ w'.cell? ⟨x, o + i, none⟩ = some (.string a.ns[i]) ∧ w'.cell? ⟨x', o' + i, none⟩ = some (.string b.ns[i])) (go_keep) (first
                | (go_at_call 57; refine (C1.out _).mono ?_; rintro e w1 ⟨rfl, g⟩; have a7 := g.cell a7; have b7 := g.cell b7; have hc := g.cell hc; have hc' := g.cell hc'; have G2 := Lib.hid (G1.out.trans g)))
              all_goals
                by_cases h0 : c = 0
                · subst h0
                  have HS' : Hid (cmpN a.ns b.ns = cmpN (a.ns.drop (i + 1)) (b.ns.drop (i + 1))) := HS
                  go_wp2_with fail
                  go_roundg (a.ns.length - (i + 1))
                  case measure => omega
                  case rel => exact ⟨i + 1, by go_num, by omega, by omega, by omega, G2, HS'⟩
                · have hq : r = c := by rw [HR.out, HS.out]; simp [orI, h0]
                  have HQ := Lib.hid hq
                  clear hq
                  have GF := Lib.hid (GT.out _ G2.out)
                  go_wp2_with fail
                  go_ret
                  exact ⟨retIv HQ.out, GF.out⟩
            · have z2 : ¬ (i : Int) < (b.ns.length : Int) := by omega
              have hcm : cmpN a.ns b.ns = cmpIv a.ns.length b.ns.length := by
                rw [Q.out, cmpN_end (.inr (List.drop_eq_nil_of_le (by omega))), drop_end (by omega) (by omega)]
              have hne : ¬ (a.ns.length : Int) = (b.ns.length : Int) := by omega
              have hq : r = cmpIv a.ns.length b.ns.length := by
                rw [HR.out, hcm, orI, if_neg (cmpI_ne hne)]
              have HQ := Lib.hid hq
              clear hcm hq
              go_wp2_with fail
              refine (rInts_cv _ _ _).mono ?_
              rintro e w' ⟨rfl, rfl⟩
              go_wp2_with fail
              go_ret
              exact ⟨retIv HQ.out, G0.out⟩
          · have z1 : ¬ (i : Int) < (a.ns.length : Int) := by omega
            have hcm : cmpN a.ns b.ns = cmpIv a.ns.length b.ns.length := by
              rw [Q.out, cmpN_end (.inl (List.drop_eq_nil_of_le (by omega))), drop_end (by omega) (by omega)]
            by_cases he : a.ns.length = b.ns.length
            · have hq : r = rm := by
                rw [HR.out, hcm, he, cmpI_self]; rfl
              have HQ := Lib.hid hq
              have ze : (a.ns.length : Int) = (b.ns.length : Int) := by omega
              have G1 := Lib.hid G0.out.drew
              clear hcm hq he
              go_wp2_with fail
              go_region_held3 (fun w' => w'.cell? ⟨w.heap.size, 0, none⟩ = some (.int .i64 6) ∧ w'.cell? ⟨w.heap.size, 1, none⟩ = some (.bool a.h.b) ∧ w'.cell? ⟨w.heap.size, 2, none⟩ = some (.int .i64 a.h.n) ∧ w'.cell? ⟨w.heap.size, 3, none⟩ = some (.string a.h.s) ∧ w'.cell? ⟨w.heap.size, 4, none⟩ = some (.string a.h.t) ∧ w'.cell? ⟨w.heap.size, 5, none⟩ = some (.string a.h.i) ∧ w'.cell? ⟨w.heap.size, 6, none⟩ = some (.slice ai a.l.length ci) ∧ w'.cell? ⟨w.heap.size, 7, none⟩ = some (.slice an a.ns.length cn) ∧ w'.cell? ⟨w.heap.size + 1, 0, none⟩ = some (.int .i64 6) ∧ w'.cell? ⟨w.heap.size + 1, 1, none⟩ = some (.bool b.h.b) ∧ w'.cell? ⟨w.heap.size + 1, 2, none⟩ = some (.int .i64 b.h.n) ∧ w'.cell? ⟨w.heap.size + 1, 3, none⟩ = some (.string b.h.s) ∧ w'.cell? ⟨w.heap.size + 1, 4, none⟩ = some (.string b.h.t) ∧ w'.cell? ⟨w.heap.size + 1, 5, none⟩ = some (.string b.h.i) ∧ w'.cell? ⟨w.heap.size + 1, 6, none⟩ = some (.slice ai' b.l.length ci') ∧ w'.cell? ⟨w.heap.size + 1, 7, none⟩ = some (.slice an' b.ns.length cn')) (go_keep) (first
                | (go_at_call_of 90 (Value.slice ai a.l.length ci); refine (CV.out _ (HA.out.low G1.out.low)).mono ?_; rintro e w2 ⟨ra, rfl, pa, g⟩; have a0 := g.cell a0; have b0 := g.cell b0; have a1 := g.cell a1; have b1 := g.cell b1; have a2 := g.cell a2; have b2 := g.cell b2; have a3 := g.cell a3; have b3 := g.cell b3; have a4 := g.cell a4; have b4 := g.cell b4; have a5 := g.cell a5; have b5 := g.cell b5; have a6 := g.cell a6; have b6 := g.cell b6; have a7 := g.cell a7; have b7 := g.cell b7; have G := Lib.hid (G1.out.trans g))
                | (go_at_call_of 90 (Value.slice ai' b.l.length ci'); refine (CV'.out _ (HB.out.low G.out.low)).mono ?_; rintro e w3 ⟨rb, rfl, pb, g⟩; have a0 := g.cell a0; have b0 := g.cell b0; have a1 := g.cell a1; have b1 := g.cell b1; have a2 := g.cell a2; have b2 := g.cell b2; have a3 := g.cell a3; have b3 := g.cell b3; have a4 := g.cell a4; have b4 := g.cell b4; have a5 := g.cell a5; have b5 := g.cell b5; have a6 := g.cell a6; have b6 := g.cell b6; have a7 := g.cell a7; have b7 := g.cell b7; have pa := pa.low g.low; have G := Lib.hid (G.out.trans g))
                | (go_at_call 89; refine (CM.out _ _ _ pa pb).mono ?_; rintro e w4 ⟨rfl, g⟩; have a0 := g.cell a0; have b0 := g.cell b0; have a1 := g.cell a1; have b1 := g.cell b1; have a2 := g.cell a2; have b2 := g.cell b2; have a3 := g.cell a3; have b3 := g.cell b3; have a4 := g.cell a4; have b4 := g.cell b4; have a5 := g.cell a5; have b5 := g.cell b5; have a6 := g.cell a6; have b6 := g.cell b6; have a7 := g.cell a7; have b7 := g.cell b7; have G := Lib.hid (G.out.trans g)))
              all_goals
                go_wp2_with fail
                go_ret
                exact ⟨retIv HQ.out, G.out⟩
            · have hne : ¬ (a.ns.length : Int) = (b.ns.length : Int) := by omega
              have hq : r = cmpIv a.ns.length b.ns.length := by
                rw [HR.out, hcm, orI, if_neg (cmpI_ne hne)]
              have HQ := Lib.hid hq
              clear hcm hq
              go_wp2_with fail
              refine (rInts_cv _ _ _).mono ?_
              rintro e w' ⟨rfl, rfl⟩
              go_wp2_with fail
              go_ret
              exact ⟨retIv HQ.out, G0.out⟩
      · rw [if_neg k6] at hr2
        subst hr2
        go_enter Tryz.func58, Tryz.ntmps58
        go_wp2_with fail
        go_ret
        exact ⟨rfl, Gr.alloc (Gr.alloc (Gr.refl w) _) _⟩
    · rw [if_neg hk] at hr2
      have HR := Lib.hid hr2
      clear hr2
      go_enter Tryz.func58, Tryz.ntmps58
      go_wp2_with fail
      refine (rInts_cv a.h.k b.h.k _).mono ?_
      rintro e w' ⟨rfl, rfl⟩
      go_wp2_with fail
      go_ret
      exact ⟨retIv HR.out, Gr.alloc (Gr.alloc (Gr.refl w) _) _⟩
theorem rOrder_c (a b : V) : OrdC 58 a b := rOrder_n (dep a) a b (Nat.le_refl _)
end Go.Proofs.YtnenjgngahipdaaGreat
namespace Go.Proofs.YtnenjgngahipdaaGreat
open Go.RowKit Go.Sort
theorem retBv {a b : Bool} (h : a = b) : Ending.returned (.bool a) = .returned (.bool b) := by rw [h]
/-- What IndexFunc answers: where, or below 0. -/
def IdxPv (p : V → Bool) (l : List V) (w : World) (e : Ending) (w' : World) : Prop := ∃ k : Int, e = .returned (.int .i64 k) ∧ decide (0 ≤ k) = l.any p ∧ Gr w w'
set_option maxHeartbeats 1600000 in
theorem idxD_cv (p : V → Bool) (bx : Nat) (l : List V) (w : World) (hc : ∀ x ∈ l, ∀ w', Gr w w' → ∀ it nm, R w' x it nm → Calls Tryz.prog 93 #[avv x.h it nm, .pointer (some ⟨bx, 0, none⟩)] w' fun e w'' => e = .returned (.bool (p x)) ∧ Gr w' w'')
    (it : Value) (hl : Ro w l it) : Calls Tryz.prog 120 #[it, .func (.func 93) #[] #[.pointer (some ⟨bx, 0, none⟩)]] w (IdxPv p l w) := by
  obtain ⟨al, cl, rfl, ⟨zl, zl'⟩, -⟩ := id hl
  have HL := Lib.hid hl
  have HI := Lib.hid hc
  clear hl hc
  go_enter Tryz.func120, Tryz.ntmps120
  go_wp2_with fail
  go_loopg [8] l.length (fun gk vi wr => ∃ i : Nat, vi = .int .i64 (i : Int) ∧ i ≤ l.length ∧ l.length - i ≤ gk ∧ Hid (Gr w wr) ∧ Hid (l.any p = (l.drop i).any p))
  case atStart => exact ⟨0, rfl, Nat.zero_le _, Nat.le_refl _, Lib.hid (Gr.refl _), rfl⟩
  case round =>
    obtain ⟨i, rfl, hi, hg, G, K⟩ := hrel
    by_cases hlt : i < l.length
    · have z1 : (i : Int) < (l.length : Int) := by omega
      obtain ⟨b, o, ai, ci, an, cn, rfl, hcs, hrx⟩ := ro_at (HL.out.low G.out.low) hlt
      obtain ⟨e0, e1, e2, e3, e4, e5, e6, e7⟩ := cells8 hcs
      have hcon := HI.out l[i] (List.getElem_mem hlt) wr G.out _ _ hrx
      have hst : l.any p = (p l[i] || (l.drop (i + 1)).any p) := by rw [K.out, drop_consv hlt, List.any_cons]
      generalize p l[i] = c at hcon hst
      have HC := Lib.hid hcon
      have HS := Lib.hid hst
      clear hcon hst hcs hrx
      go_wp2_with fail
      refine HC.out.mono ?_
      rintro e w1 ⟨rfl, g⟩
      cases c with
      | true =>
        have HQ := Lib.hid (show decide ((0 : Int) ≤ (i : Int)) = l.any p by rw [HS.out]; simp)
        go_wp2_with fail
        go_ret
        exact ⟨_, rfl, HQ.out, G.out.trans g⟩
      | false =>
        have HS' : Hid (l.any p = (l.drop (i + 1)).any p) := by show _ = _; rw [HS.out]; rfl
        go_wp2_with fail
        go_roundg (l.length - (i + 1))
        case measure => omega
        case rel => exact ⟨i + 1, by go_num, by omega, by omega, Lib.hid (G.out.trans g), HS'⟩
    · have z1 : ¬ (i : Int) < (l.length : Int) := by omega
      have HQ := Lib.hid (show decide ((0 : Int) ≤ -1) = l.any p by rw [K.out, List.drop_eq_nil_of_le (show l.length ≤ i by omega)]; rfl)
      go_wp2_with fail
      go_ret
      exact ⟨_, rfl, HQ.out, G.out⟩
theorem conD_c (p : V → Bool) (bx : Nat) (l : List V) (w : World) (hc : ∀ x ∈ l, ∀ w', Gr w w' → ∀ it nm, R w' x it nm → Calls Tryz.prog 93 #[avv x.h it nm, .pointer (some ⟨bx, 0, none⟩)] w' fun e w'' => e = .returned (.bool (p x)) ∧ Gr w' w'')
    (it : Value) (hl : Ro w l it) : Calls Tryz.prog 91 #[it, .func (.func 93) #[] #[.pointer (some ⟨bx, 0, none⟩)]] w fun e w' => e = .returned (.bool (l.any p)) ∧ Gr w w' := by
  have HC := Lib.hid (idxD_cv p bx l w hc it hl)
  obtain ⟨al, cl, rfl, -, -⟩ := id hl
  clear hc hl
  go_enter Tryz.func91, Tryz.ntmps91
  go_wp2_with fail
  refine HC.out.mono ?_
  rintro e w1 ⟨k, rfl, hk, g⟩
  have HK := Lib.hid hk
  clear hk
  go_wp2_with fail
  go_ret
  exact ⟨retBv HK.out, g⟩
theorem same_c (a b : V) (w : World) (it nm it' nm' : Value) (ha : R w a it nm) (hb : R w b it' nm') : Calls Tryz.prog 76 #[avv a.h it nm, avv b.h it' nm'] w fun e w' => e = .returned (.bool (ord a b == 0)) ∧ Gr w w' := by
  obtain ⟨ai, ci, an, cn, rfl, rfl⟩ := r_slices ha
  obtain ⟨ai', ci', an', cn', rfl, rfl⟩ := r_slices hb
  have HC := Lib.hid fun W (h : Low w W) => order_c a b W _ _ _ _ (ha.low h) (hb.low h)
  generalize ord a b = r at HC ⊢
  have HE := Lib.hid (Gr.alloc (Gr.alloc (Gr.refl w) _) _ : Gr w ((w.alloc (.cells #[.int .i64 a.h.k, .bool a.h.b, .int .i64 a.h.n, .string a.h.s, .string a.h.t, .string a.h.i, .slice ai a.l.length ci, .slice an a.ns.length cn] 27)).alloc (.cells #[.int .i64 b.h.k, .bool b.h.b, .int .i64 b.h.n, .string b.h.s, .string b.h.t, .string b.h.i, .slice ai' b.l.length ci', .slice an' b.ns.length cn'] 27)))
  clear ha hb
  unfold avv at *
  go_enter Tryz.func76, Tryz.ntmps76
  go_wp2_with fail
  refine (HC.out _ HE.out.low).mono ?_
  rintro e w1 ⟨rfl, g⟩
  go_wp2_with fail
  go_ret
  exact ⟨rfl, HE.out.trans g⟩
end Go.Proofs.YtnenjgngahipdaaGreat
namespace Go.Proofs.YtnenjgngahipdaaGreat
open Go.RowKit
set_option linter.unusedVariables false
theorem not_any9 {α : Type} (l : List α) (f : α → Bool) : (!(l.any fun x => !f x)) = l.all f := by
  induction l with
  | nil => rfl
  | cons x l ih => rw [List.any_cons, List.all_cons, ← ih]; cases f x <;> simp
set_option maxHeartbeats 1600000 in
theorem negV_c (x : V) (q : Bool) (x0 : Nat) (y : Nat) (ai : Option Addr) (ci : Nat) (an : Option Addr) (cn : Nat) (w : World) (hb : w.cell? ⟨y, 0, none⟩ = some (.func (.func 62) #[] #[.pointer (some ⟨x0, 0, none⟩)]))
    (hc : ∀ W, Low w W → Calls Tryz.prog 62 #[.agg #[.int .i64 x.h.k, .bool x.h.b, .int .i64 x.h.n, .string x.h.s, .string x.h.t, .string x.h.i, .slice ai x.l.length ci, .slice an x.ns.length cn], .pointer (some ⟨x0, 0, none⟩)] W fun r W' => r = .returned (.bool q) ∧ Low W W') :
    Calls Tryz.prog 96 #[.agg #[.int .i64 x.h.k, .bool x.h.b, .int .i64 x.h.n, .string x.h.s, .string x.h.t, .string x.h.i, .slice ai x.l.length ci, .slice an x.ns.length cn], .pointer (some ⟨y, 0, none⟩)] w fun r w' => r = .returned (.bool (!q)) ∧ Low w w' := by
  have hb2 := fun X => (low_new (Low.refl w) X).keep hb
  have HC := Lib.hid hc
  clear hc
  go_enter Tryz.func96, Tryz.ntmps96
  go_wp2_with fail
  refine (HC.out _ (low_new (Low.refl w) _)).mono ?_
  rintro e w' ⟨rfl, l1⟩
  have G2 := Lib.hid ((low_new (Low.refl w) _).trans l1)
  clear l1 HC
  go_wp2_with fail
  go_ret
  exact ⟨rfl, G2.out⟩
set_option maxHeartbeats 1600000 in
theorem idxV9_c (l : List V) (f : V → Bool) (y : Nat) (w : World) (v : Value) (h : Ro w l v)
    (hc : ∀ j (hj : j < l.length) (W : World) (ai : Option Addr) (ci : Nat) (an : Option Addr) (cn : Nat), Low w W → R W l[j] (.slice ai l[j].l.length ci) (.slice an l[j].ns.length cn) → Calls Tryz.prog 96 #[.agg #[.int .i64 l[j].h.k, .bool l[j].h.b, .int .i64 l[j].h.n, .string l[j].h.s, .string l[j].h.t, .string l[j].h.i, .slice ai l[j].l.length ci, .slice an l[j].ns.length cn], .pointer (some ⟨y, 0, none⟩)] W fun r W' => r = .returned (.bool (f l[j])) ∧ Low W W') :
    Calls Tryz.prog 120 #[v, .func (.func 96) #[] #[.pointer (some ⟨y, 0, none⟩)]] w fun e w' => e = .returned (.int .i64 (firstI l f)) ∧ Low w w' := by
  obtain ⟨p, c, rfl, ⟨z1, z2⟩, -⟩ := id h
  have HA := Lib.hid h
  have HC := Lib.hid hc
  obtain ⟨r, hr⟩ : ∃ r, r = firstI l f := ⟨_, rfl⟩
  have CS := Lib.hid (show ∀ i (hi : i < l.length), f l[i] = true → (∀ j (hj : j < l.length), j < i → f l[j] = false) → (i : Int) = r from fun i hi h1 h2 => by rw [hr, firstI_some hi h1 h2])
  have CN := Lib.hid (show (∀ j (hj : j < l.length), f l[j] = false) → -1 = r from fun h2 => by rw [hr, firstI_none h2])
  rw [← hr]
  clear h hr hc
  go_enter Tryz.func120, Tryz.ntmps120
  go_wp2_with fail
  go_loopg [5, 8] l.length (fun gk vx vi wr => ∃ i : Nat, vi = .int .i64 (i : Int) ∧ i ≤ l.length ∧ l.length - i ≤ gk ∧ Hid (Low w wr) ∧ Hid (∀ j (hj : j < l.length), j < i → f l[j] = false))
  case atStart => exact ⟨0, rfl, Nat.zero_le _, Nat.le_refl _, Lib.hid (Low.refl _), Lib.hid fun j hj h => absurd h (Nat.not_lt_zero _)⟩
  case round =>
    obtain ⟨i, rfl, hi, hg, G, K⟩ := hrel
    by_cases hlt : i < l.length
    · have zl : (i : Int) < (l.length : Int) := by omega
      obtain ⟨b, o, ai, ci, an, cn, rfl, hcs, hrx⟩ := ro_at (RowAt.low HA.out G.out) hlt
      obtain ⟨e0, e1, e2, e3, e4, e5, e6, e7⟩ := cells8 hcs
      have HF := Lib.hid (HC.out i hlt wr ai ci an cn G.out hrx)
      obtain ⟨q, hq⟩ : ∃ q, q = f l[i] := ⟨_, rfl⟩
      rw [← hq] at HF
      have HQ := Lib.hid hq
      clear hq hcs hrx
      go_wp2_with fail
      refine HF.out.mono ?_
      rintro e w' ⟨rfl, l1⟩
      have G2 := Lib.hid (G.out.trans l1)
      clear l1 HF
      cases q with
      | true =>
        have HQ2 := Lib.hid (CS.out i hlt HQ.out.symm K.out)
        go_wp2_with fail
        go_ret
        exact ⟨retI HQ2.out, G2.out⟩
      | false =>
        go_wp2_with fail
        go_roundg (l.length - (i + 1))
        case measure => omega
        case rel =>
          refine ⟨i + 1, by go_num, by omega, by omega, G2, Lib.hid fun j hj hji => ?_⟩
          rcases Nat.lt_succ_iff_lt_or_eq.1 hji with h | rfl
          · exact K.out j hj h
          · exact HQ.out.symm
    · have zl : ¬ (i : Int) < (l.length : Int) := by omega
      have HQ2 := Lib.hid (CN.out fun j hj => K.out j hj (by omega))
      go_wp2_with fail
      go_ret
      exact ⟨retI HQ2.out, G.out⟩
set_option maxHeartbeats 1600000 in
theorem conV9_c (l : List V) (f : V → Bool) (y : Nat) (w : World) (v : Value) (h : Ro w l v)
    (hc : ∀ j (hj : j < l.length) (W : World) (ai : Option Addr) (ci : Nat) (an : Option Addr) (cn : Nat), Low w W → R W l[j] (.slice ai l[j].l.length ci) (.slice an l[j].ns.length cn) → Calls Tryz.prog 96 #[.agg #[.int .i64 l[j].h.k, .bool l[j].h.b, .int .i64 l[j].h.n, .string l[j].h.s, .string l[j].h.t, .string l[j].h.i, .slice ai l[j].l.length ci, .slice an l[j].ns.length cn], .pointer (some ⟨y, 0, none⟩)] W fun r W' => r = .returned (.bool (f l[j])) ∧ Low W W') :
    Calls Tryz.prog 91 #[v, .func (.func 96) #[] #[.pointer (some ⟨y, 0, none⟩)]] w fun e w' => e = .returned (.bool (l.any f)) ∧ Low w w' := by
  have HI := Lib.hid (idxV9_c l f y w v h hc)
  obtain ⟨p, c, rfl, ⟨z1, z2⟩, -⟩ := id h
  obtain ⟨r, hr⟩ : ∃ r, r = firstI l f := ⟨_, rfl⟩
  rw [← hr] at HI
  have HR := Lib.hid (show decide (0 ≤ r) = l.any f by rw [hr]; exact firstI_any l f)
  clear h hc hr
  go_enter Tryz.func91, Tryz.ntmps91
  go_wp2_with fail
  refine HI.out.mono ?_
  rintro e w' ⟨rfl, l1⟩
  go_wp2_with fail
  go_ret
  exact ⟨retB HR.out, l1⟩
set_option maxHeartbeats 1600000 in
theorem allV_c (l : List V) (f : V → Bool) (x0 : Nat) (w : World) (v : Value) (h : Ro w l v)
    (hc : ∀ j (hj : j < l.length) (W : World) (ai : Option Addr) (ci : Nat) (an : Option Addr) (cn : Nat), Low w W → R W l[j] (.slice ai l[j].l.length ci) (.slice an l[j].ns.length cn) → Calls Tryz.prog 62 #[.agg #[.int .i64 l[j].h.k, .bool l[j].h.b, .int .i64 l[j].h.n, .string l[j].h.s, .string l[j].h.t, .string l[j].h.i, .slice ai l[j].l.length ci, .slice an l[j].ns.length cn], .pointer (some ⟨x0, 0, none⟩)] W fun r W' => r = .returned (.bool (f l[j])) ∧ Low W W') :
    Calls Tryz.prog 61 #[v, .func (.func 62) #[] #[.pointer (some ⟨x0, 0, none⟩)]] w fun e w' => e = .returned (.bool (l.all f)) ∧ Low w w' := by
  obtain ⟨U, hU⟩ : ∃ U, U = w.alloc (.cells #[.func (.func 62) #[] #[.pointer (some ⟨x0, 0, none⟩)]] 101) := ⟨_, rfl⟩
  have LU := Lib.hid (show Low w U by rw [hU]; exact low_new (Low.refl w) _)
  have hb : U.cell? ⟨w.heap.size, 0, none⟩ = some (.func (.func 62) #[] #[.pointer (some ⟨x0, 0, none⟩)]) := by rw [hU, World.cell?_alloc_mark]; rfl
  have HI := Lib.hid (conV9_c l (fun x => !f x) w.heap.size U v (RowAt.low h LU.out) fun j hj W ai ci an cn hl hx => negV_c l[j] (f l[j]) x0 w.heap.size ai ci an cn W (hl.keep hb) fun W2 hl2 => hc j hj W2 ai ci an cn ((LU.out.trans hl).trans hl2) (Rep.low hx hl2))
  have HN := Lib.hid (show (!(l.any fun x => !f x)) = l.all f from not_any9 l f)
  obtain ⟨p, c, rfl, ⟨z1, z2⟩, -⟩ := id h
  have HU := Lib.hid hU
  clear h hc hU hb
  obtain ⟨q, hq⟩ : ∃ q, q = l.any fun x => !f x := ⟨_, rfl⟩
  rw [← hq] at HI HN
  clear hq
  go_enter Tryz.func61, Tryz.ntmps61
  go_upto_region 1 with fail
  rw [← HU.out]
  go_wp2_with fail
  refine HI.out.mono ?_
  rintro e w' ⟨rfl, l1⟩
  have G2 := Lib.hid (LU.out.trans l1)
  clear l1
  go_wp2_with fail
  go_ret
  exact ⟨retB HN.out, G2.out⟩
end Go.Proofs.YtnenjgngahipdaaGreat
namespace Go.Proofs.YtnenjgngahipdaaGreat
open Go.RowKit
set_option linter.unusedVariables false
theorem us_at {w : World} {l : List Us} {p : Option Addr} {m c : Nat} (h : UsAt w (.slice p m c) l) {j : Nat} (hj : j < l.length) : ∃ b o, p = some ⟨b, o, none⟩ ∧ CellsAtv w b (o + j * 2) l[j].cs := by
  obtain ⟨q, cap, hq, -, hr⟩ := h
  simp only [Value.slice.injEq] at hq
  obtain ⟨rfl, -, -⟩ := hq
  exact hr j hj
set_option maxHeartbeats 1600000 in
theorem negU_c (x : Us) (q : Bool) (x0 : Nat) (y : Nat)  (w : World) (hb : w.cell? ⟨y, 0, none⟩ = some (.func (.func 81) #[] #[.pointer (some ⟨x0, 0, none⟩)]))
    (hc : ∀ W, Low w W → Calls Tryz.prog 81 #[.agg #[.string x.t, .string x.i], .pointer (some ⟨x0, 0, none⟩)] W fun r W' => r = .returned (.bool q) ∧ Low W W') :
    Calls Tryz.prog 117 #[.agg #[.string x.t, .string x.i], .pointer (some ⟨y, 0, none⟩)] w fun r w' => r = .returned (.bool (!q)) ∧ Low w w' := by
  have hb2 := fun X => (low_new (Low.refl w) X).keep hb
  have HC := Lib.hid hc
  clear hc
  go_enter Tryz.func117, Tryz.ntmps117
  go_wp2_with fail
  refine (HC.out _ (low_new (Low.refl w) _)).mono ?_
  rintro e w' ⟨rfl, l1⟩
  have G2 := Lib.hid ((low_new (Low.refl w) _).trans l1)
  clear l1 HC
  go_wp2_with fail
  go_ret
  exact ⟨rfl, G2.out⟩
set_option maxHeartbeats 1600000 in
theorem idxU9_c (l : List Us) (f : Us → Bool) (y : Nat) (w : World) (v : Value) (h : UsAt w v l)
    (hc : ∀ j (hj : j < l.length) (W : World) , Low w W → True → Calls Tryz.prog 117 #[.agg #[.string l[j].t, .string l[j].i], .pointer (some ⟨y, 0, none⟩)] W fun r W' => r = .returned (.bool (f l[j])) ∧ Low W W') :
    Calls Tryz.prog 149 #[v, .func (.func 117) #[] #[.pointer (some ⟨y, 0, none⟩)]] w fun e w' => e = .returned (.int .i64 (firstI l f)) ∧ Low w w' := by
  obtain ⟨p, c, rfl, ⟨z1, z2⟩, -⟩ := id h
  have HA := Lib.hid h
  have HC := Lib.hid hc
  obtain ⟨r, hr⟩ : ∃ r, r = firstI l f := ⟨_, rfl⟩
  have CS := Lib.hid (show ∀ i (hi : i < l.length), f l[i] = true → (∀ j (hj : j < l.length), j < i → f l[j] = false) → (i : Int) = r from fun i hi h1 h2 => by rw [hr, firstI_some hi h1 h2])
  have CN := Lib.hid (show (∀ j (hj : j < l.length), f l[j] = false) → -1 = r from fun h2 => by rw [hr, firstI_none h2])
  rw [← hr]
  clear h hr hc
  go_enter Tryz.func149, Tryz.ntmps149
  go_wp2_with fail
  go_loopg [5, 8] l.length (fun gk vx vi wr => ∃ i : Nat, vi = .int .i64 (i : Int) ∧ i ≤ l.length ∧ l.length - i ≤ gk ∧ Hid (Low w wr) ∧ Hid (∀ j (hj : j < l.length), j < i → f l[j] = false))
  case atStart => exact ⟨0, rfl, Nat.zero_le _, Nat.le_refl _, Lib.hid (Low.refl _), Lib.hid fun j hj h => absurd h (Nat.not_lt_zero _)⟩
  case round =>
    obtain ⟨i, rfl, hi, hg, G, K⟩ := hrel
    by_cases hlt : i < l.length
    · have zl : (i : Int) < (l.length : Int) := by omega
      obtain ⟨b, o, rfl, hcs⟩ := us_at (UsAt.low HA.out G.out) hlt
      obtain ⟨e0, e1⟩ := cells2 hcs
      have HF := Lib.hid (HC.out i hlt wr  G.out trivial)
      obtain ⟨q, hq⟩ : ∃ q, q = f l[i] := ⟨_, rfl⟩
      rw [← hq] at HF
      have HQ := Lib.hid hq
      clear hq hcs
      go_wp2_with fail
      refine HF.out.mono ?_
      rintro e w' ⟨rfl, l1⟩
      have G2 := Lib.hid (G.out.trans l1)
      clear l1 HF
      cases q with
      | true =>
        have HQ2 := Lib.hid (CS.out i hlt HQ.out.symm K.out)
        go_wp2_with fail
        go_ret
        exact ⟨retI HQ2.out, G2.out⟩
      | false =>
        go_wp2_with fail
        go_roundg (l.length - (i + 1))
        case measure => omega
        case rel =>
          refine ⟨i + 1, by go_num, by omega, by omega, G2, Lib.hid fun j hj hji => ?_⟩
          rcases Nat.lt_succ_iff_lt_or_eq.1 hji with h | rfl
          · exact K.out j hj h
          · exact HQ.out.symm
    · have zl : ¬ (i : Int) < (l.length : Int) := by omega
      have HQ2 := Lib.hid (CN.out fun j hj => K.out j hj (by omega))
      go_wp2_with fail
      go_ret
      exact ⟨retI HQ2.out, G.out⟩
set_option maxHeartbeats 1600000 in
theorem conU9_c (l : List Us) (f : Us → Bool) (y : Nat) (w : World) (v : Value) (h : UsAt w v l)
    (hc : ∀ j (hj : j < l.length) (W : World) , Low w W → True → Calls Tryz.prog 117 #[.agg #[.string l[j].t, .string l[j].i], .pointer (some ⟨y, 0, none⟩)] W fun r W' => r = .returned (.bool (f l[j])) ∧ Low W W') :
    Calls Tryz.prog 116 #[v, .func (.func 117) #[] #[.pointer (some ⟨y, 0, none⟩)]] w fun e w' => e = .returned (.bool (l.any f)) ∧ Low w w' := by
  have HI := Lib.hid (idxU9_c l f y w v h hc)
  obtain ⟨p, c, rfl, ⟨z1, z2⟩, -⟩ := id h
  obtain ⟨r, hr⟩ : ∃ r, r = firstI l f := ⟨_, rfl⟩
  rw [← hr] at HI
  have HR := Lib.hid (show decide (0 ≤ r) = l.any f by rw [hr]; exact firstI_any l f)
  clear h hc hr
  go_enter Tryz.func116, Tryz.ntmps116
  go_wp2_with fail
  refine HI.out.mono ?_
  rintro e w' ⟨rfl, l1⟩
  go_wp2_with fail
  go_ret
  exact ⟨retB HR.out, l1⟩
set_option maxHeartbeats 1600000 in
theorem allU_c (l : List Us) (f : Us → Bool) (x0 : Nat) (w : World) (v : Value) (h : UsAt w v l)
    (hc : ∀ j (hj : j < l.length) (W : World) , Low w W → True → Calls Tryz.prog 81 #[.agg #[.string l[j].t, .string l[j].i], .pointer (some ⟨x0, 0, none⟩)] W fun r W' => r = .returned (.bool (f l[j])) ∧ Low W W') :
    Calls Tryz.prog 80 #[v, .func (.func 81) #[] #[.pointer (some ⟨x0, 0, none⟩)]] w fun e w' => e = .returned (.bool (l.all f)) ∧ Low w w' := by
  obtain ⟨U, hU⟩ : ∃ U, U = w.alloc (.cells #[.func (.func 81) #[] #[.pointer (some ⟨x0, 0, none⟩)]] 116) := ⟨_, rfl⟩
  have LU := Lib.hid (show Low w U by rw [hU]; exact low_new (Low.refl w) _)
  have hb : U.cell? ⟨w.heap.size, 0, none⟩ = some (.func (.func 81) #[] #[.pointer (some ⟨x0, 0, none⟩)]) := by rw [hU, World.cell?_alloc_mark]; rfl
  have HI := Lib.hid (conU9_c l (fun x => !f x) w.heap.size U v (UsAt.low h LU.out) fun j hj W  hl hx => negU_c l[j] (f l[j]) x0 w.heap.size  W (hl.keep hb) fun W2 hl2 => hc j hj W2  ((LU.out.trans hl).trans hl2) (trivial))
  have HN := Lib.hid (show (!(l.any fun x => !f x)) = l.all f from not_any9 l f)
  obtain ⟨p, c, rfl, ⟨z1, z2⟩, -⟩ := id h
  have HU := Lib.hid hU
  clear h hc hU hb
  obtain ⟨q, hq⟩ : ∃ q, q = l.any fun x => !f x := ⟨_, rfl⟩
  rw [← hq] at HI HN
  clear hq
  go_enter Tryz.func80, Tryz.ntmps80
  go_upto_region 1 with fail
  rw [← HU.out]
  go_wp2_with fail
  refine HI.out.mono ?_
  rintro e w' ⟨rfl, l1⟩
  have G2 := Lib.hid (LU.out.trans l1)
  clear l1
  go_wp2_with fail
  go_ret
  exact ⟨retB HN.out, G2.out⟩
end Go.Proofs.YtnenjgngahipdaaGreat
