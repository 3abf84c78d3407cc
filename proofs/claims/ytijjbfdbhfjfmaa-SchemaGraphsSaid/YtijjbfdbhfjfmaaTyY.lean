/- The reference's May. Condition: as said. -/
import Derived.Test.YtijjbfdbhfjfmaaTyX
namespace Go.Proofs.Ytijjbfdbhfjfmaa
open Go.RowKit
set_option maxHeartbeats 3200000 in
set_option maxRecDepth 100000 in
theorem may_n (n : Nat) : MayC 60 n := by
  induction n with
  | zero => intro A t w e v h; exact h.elim
  | succ n ih =>
    intro A t w e v hr
    obtain ⟨pe, ce, pv, cv, rfl, rfl, z1, z2, z3, z4⟩ := hr.sl
    obtain ⟨-, hl, ha⟩ := rt_succ.1 hr
    have HL := Lib.hid hl
    have HA := Lib.hid ha
    have IH := Lib.hid ih
    obtain ⟨q, hq⟩ : ∃ q, q = mayB (n + 1) t := ⟨_, rfl⟩
    have CH := Lib.hid (show mayH t = false → false = q from fun h => by rw [hq, may_head h])
    have CL := Lib.hid (show ∀ j (hj : j < t.l.length), mayB n t.l[j] = false → false = q from fun j hj h => by rw [hq, may_in (ins_l (List.getElem_mem hj)) h])
    have CA := Lib.hid (show ∀ j (hj : j < t.ats.length), mayB n (aty t.ats[j]) = false → false = q from fun j hj h => by rw [hq, may_in (ins_as (List.getElem_mem hj)) h])
    have CR := Lib.hid (show ∀ j (hj : j + 1 < t.ats.length), ¬ cmpB (an (t.ats[j]'(by omega))) (an t.ats[j + 1]) < 0 → false = q from fun j hj h => by rw [hq, may_rise hj h])
    have CO := Lib.hid (show mayH t = true → (∀ j (hj : j < t.l.length), mayB n t.l[j] = true) → (∀ j (hj : j < t.ats.length), mayB n (aty t.ats[j]) = true) → (∀ j (hj : j + 1 < t.ats.length), cmpB (an (t.ats[j]'(by omega))) (an t.ats[j + 1]) < 0) → true = q from fun h1 h2 h3 h4 => by rw [hq, may_ok h1 h2 h3 h4])
    rw [← hq]
    clear hr ih hl ha hq
    unfold tv
    by_cases k0 : t.k < 0
    · have HQ := Lib.hid (CH.out (decide_eq_false (by omega)))
      go_enter Try.func60, Try.ntmps60
      go_wp2_with fail
      go_ret
      exact ⟨retB HQ.out, low_new (Low.refl w) _⟩
    by_cases k8 : 8 < t.k
    · have HQ := Lib.hid (CH.out (decide_eq_false (by omega)))
      go_enter Try.func60, Try.ntmps60
      go_wp2_with fail
      go_ret
      exact ⟨retB HQ.out, low_new (Low.refl w) _⟩
    have g0 : 0 ≤ t.k := by omega
    have g8 : t.k ≤ 8 := by omega
    by_cases k7 : t.k = 7 ∧ t.l.length ≠ 1
    · have HQ := Lib.hid (CH.out (decide_eq_false (by omega)))
      have b7 : (t.k == 7) = true := by simpa using k7.1
      have b1 : ((t.l.length : Int) == 1) = false := by have := k7.2; simp; omega
      clear k7
      go_enter Try.func60, Try.ntmps60
      go_wp2_with fail
      go_ret
      exact ⟨retB HQ.out, low_new (Low.refl w) _⟩
    have HOK := Lib.hid (show mayH t = true from decide_eq_true ⟨g0, g8, fun h => Classical.byContradiction fun h2 => k7 ⟨h, h2⟩⟩)
    have hx7 : (t.k == 7) = false ∨ ((t.k == 7) = true ∧ ((t.l.length : Int) == 1) = true) := by
      by_cases h : t.k = 7
      · refine .inr ⟨by simpa using h, ?_⟩
        have : t.l.length = 1 := Classical.byContradiction fun h2 => k7 ⟨h, h2⟩
        rw [this]; rfl
      · exact .inl (by simpa using h)
    clear k7 CH
    rcases hx7 with b7 | ⟨b7, b1⟩
    all_goals
      go_enter Try.func60, Try.ntmps60
      go_wp2_with fail
      go_loopg [3, 4] t.l.length (fun gk vi vb wr => ∃ i : Nat, vi = .int .i64 (i : Int) ∧ i ≤ t.l.length ∧ t.l.length - i ≤ gk ∧ Hid (Low (w.alloc (box4 t pe ce pv cv)) wr) ∧ Hid (∀ j (hj : j < t.l.length), j < i → mayB n t.l[j] = true))
      case atStart => exact ⟨0, rfl, Nat.zero_le _, Nat.le_refl _, Lib.hid (Low.refl _), Lib.hid fun j hj h => absurd h (Nat.not_lt_zero _)⟩
      case round =>
        obtain ⟨i, rfl, hi, hg, G, K⟩ := hrel
        have G0 := Lib.hid ((low_new (Low.refl w) _).trans G.out)
        obtain ⟨f0, f1, f2, f3⟩ := low_box G.out
        by_cases hlt : i < t.l.length
        · have zl : (i : Int) < (t.l.length : Int) := by omega
          obtain ⟨b, o, qe, de, qv, dv, rfl, -, e0, e1, e2, e3, hx⟩ := RL.at (RL.low HL.out G0.out) hlt
          have HC := Lib.hid (show Calls Try.prog 60 #[.agg #[.int .i64 t.l[i].k, .string t.l[i].n, .slice qe t.l[i].l.length de, .slice qv t.l[i].ats.length dv]] wr _ from IH.out A t.l[i] wr _ _ hx)
          obtain ⟨c, hc⟩ : ∃ c, c = mayB n t.l[i] := ⟨_, rfl⟩
          rw [← hc] at HC
          have HCC := Lib.hid hc
          clear hx hc
          go_wp2_with fail
          refine HC.out.mono ?_
          rintro e w' ⟨rfl, l⟩
          have G2 := Lib.hid (G.out.trans l)
          have G3 := Lib.hid (G0.out.trans l)
          clear l HC
          cases c with
          | false =>
            go_wp2_with fail
            go_ret
            exact ⟨retB (CL.out i hlt HCC.out.symm), G3.out⟩
          | true =>
            go_wp2_with fail
            go_roundg (t.l.length - (i + 1))
            case measure => omega
            case rel =>
              refine ⟨i + 1, by go_num, by omega, by omega, G2, Lib.hid fun j hj hji => ?_⟩
              rcases Nat.lt_succ_iff_lt_or_eq.1 hji with h | rfl
              · exact K.out j hj h
              · exact HCC.out.symm
        · have zl : ¬ (i : Int) < (t.l.length : Int) := by omega
          have KL := Lib.hid (show ∀ j (hj : j < t.l.length), mayB n t.l[j] = true from fun j hj => K.out j hj (by omega))
          clear K
          go_wp2_with fail
          go_loopg [5, 6] t.ats.length (fun gk vi vb wr => ∃ i : Nat, vi = .int .i64 (i : Int) ∧ i ≤ t.ats.length ∧ t.ats.length - i ≤ gk ∧ Hid (Low (w.alloc (box4 t pe ce pv cv)) wr) ∧ Hid (∀ j (hj : j < t.ats.length), j < i → mayB n (aty t.ats[j]) = true) ∧ Hid (∀ j (hj : j + 1 < t.ats.length), j + 1 < i → cmpB (an (t.ats[j]'(by omega))) (an t.ats[j + 1]) < 0))
          case atStart => exact ⟨0, rfl, Nat.zero_le _, Nat.le_refl _, G, Lib.hid fun j hj h => absurd h (Nat.not_lt_zero _), Lib.hid fun j hj h => absurd h (Nat.not_lt_zero _)⟩
          case round =>
            clear f0 f1 f2 f3 G0 G
            obtain ⟨i, rfl, hi, hg, G, K, K2⟩ := hrel
            have G0 := Lib.hid ((low_new (Low.refl w) _).trans G.out)
            obtain ⟨f0, f1, f2, f3⟩ := low_box G.out
            by_cases hlt : i < t.ats.length
            · have zl : (i : Int) < (t.ats.length : Int) := by omega
              have HA2 := Lib.hid (RAs.low HA.out G0.out)
              obtain ⟨b, o, qe, de, qv, dv, rfl, -, e0, e1, e2, e3, e4, e5, es, hx⟩ := RAs.at HA2.out hlt
              have HC := Lib.hid (show Calls Try.prog 60 #[.agg #[.int .i64 (aty t.ats[i]).k, .string (aty t.ats[i]).n, .slice qe (aty t.ats[i]).l.length de, .slice qv (aty t.ats[i]).ats.length dv]] wr _ from IH.out A (aty t.ats[i]) wr _ _ hx)
              obtain ⟨c, hc⟩ : ∃ c, c = mayB n (aty t.ats[i]) := ⟨_, rfl⟩
              rw [← hc] at HC
              have HCC := Lib.hid hc
              clear hx hc
              go_wp2_with fail
              refine HC.out.mono ?_
              rintro e w' ⟨rfl, l⟩
              have G2 := Lib.hid (G.out.trans l)
              have G3 := Lib.hid (G0.out.trans l)
              have e0' := l.keep e0
              have f3' := l.keep f3
              have LW := Lib.hid l
              clear l HC e0 e1 e2 e3 e4 e5 f0 f1 f2 f3
              haveI := InL.some w'
              cases c with
              | false =>
                go_wp2_with fail
                refine wp_region_low mixedT (by kernel_rfl) ?_
                repeat (go_big_quiet_step (fail))
                refine wpQuiet_nil ?_
                rintro W8 ⟨p8, hW8⟩
                have L8 := Lib.hid (show Low w' W8 by rw [hW8]; exact p8.ok)
                clear hW8 p8
                go_wp2_with fail
                go_ret
                exact ⟨retB (CA.out i hlt HCC.out.symm), G3.out.trans L8.out⟩
              | true =>
                rcases Nat.eq_zero_or_pos i with h0 | h0
                · subst h0
                  go_wp2_with fail
                  refine wp_region_low mixedT (by kernel_rfl) ?_
                  repeat (go_big_quiet_step (fail))
                  refine wpQuiet_nil ?_
                  rintro W8 ⟨p8, hW8⟩
                  have L8 := Lib.hid (show Low w' W8 by rw [hW8]; exact p8.ok)
                  clear hW8 p8
                  go_wp2_with fail
                  go_roundg (t.ats.length - 1)
                  case measure => omega
                  case rel =>
                    refine ⟨1, rfl, by omega, by omega, Lib.hid (G2.out.trans L8.out), Lib.hid fun j hj hji => ?_, Lib.hid fun j hj h => absurd h (by omega)⟩
                    obtain rfl : j = 0 := by omega
                    exact HCC.out.symm
                · obtain ⟨i', rfl⟩ : ∃ i', i = i' + 1 := ⟨i - 1, by omega⟩
                  have hlt' : i' < t.ats.length := by omega
                  obtain ⟨b', o', -, -, -, -, hbo, -, d0, -, -, -, -, -, ds, -⟩ := RAs.at HA2.out hlt'
                  simp only [Option.some.injEq, Addr.mk.injEq, and_true] at hbo
                  obtain ⟨rfl, rfl⟩ := hbo
                  have d0' := LW.out.keep d0
                  have HT := Lib.hid fun p : InL w' => Calls.low p (rTexts_c (an t.ats[i']) (an t.ats[i' + 1]) ds es p.w)
                  obtain ⟨r, hr⟩ : ∃ r, r = cmpB (an t.ats[i']) (an t.ats[i' + 1]) := ⟨_, rfl⟩
                  rw [← hr] at HT
                  have HR := Lib.hid hr
                  have zi : (0 : Int) < ((i' + 1 : Nat) : Int) := by omega
                  have zi2 : ((i' + 1 : Nat) : Int) - 1 = (i' : Int) := by omega
                  have zi3 : (i' : Int) < (t.ats.length : Int) := by omega
                  clear hr d0
                  have e0p := fun p : InL w' => p.cell e0'
                  have f3p := fun p : InL w' => p.cell f3'
                  have d0p := fun p : InL w' => p.cell d0'
                  by_cases h9 : r < 0
                  · have h9' : ¬ 0 ≤ r := by omega
                    go_wp2_with fail
                    refine wp_region_low mixedT (by kernel_rfl) ?_
                    repeat (go_big_quiet_step (with_reducible exact HT.out _))
                    refine wpQuiet_nil ?_
                    rintro W8 ⟨p8, hW8⟩
                    have L8 := Lib.hid (show Low w' W8 by rw [hW8]; exact p8.ok)
                    clear hW8 p8 e0p f3p d0p e0' f3' d0' HT
                    go_wp2_with fail
                    go_roundg (t.ats.length - (i' + 1 + 1))
                    case measure => omega
                    case rel =>
                      refine ⟨i' + 1 + 1, by go_num, by omega, by omega, Lib.hid (G2.out.trans L8.out), Lib.hid fun j hj hji => ?_, Lib.hid fun j hj hji => ?_⟩
                      · rcases Nat.lt_succ_iff_lt_or_eq.1 hji with h | rfl
                        · exact K.out j hj h
                        · exact HCC.out.symm
                      · rcases Nat.lt_succ_iff_lt_or_eq.1 hji with h | h
                        · exact K2.out j hj h
                        · obtain rfl : j = i' := by omega
                          rw [← HR.out]; exact h9
                  · have h9' : 0 ≤ r := by omega
                    go_wp2_with fail
                    refine wp_region_low mixedT (by kernel_rfl) ?_
                    repeat (go_big_quiet_step (with_reducible exact HT.out _))
                    refine wpQuiet_nil ?_
                    rintro W8 ⟨p8, hW8⟩
                    have L8 := Lib.hid (show Low w' W8 by rw [hW8]; exact p8.ok)
                    clear hW8 p8 e0p f3p d0p e0' f3' d0' HT
                    have HQ := Lib.hid (CR.out i' (by omega) (by rw [← HR.out]; exact h9))
                    go_wp2_with fail
                    go_ret
                    exact ⟨retB HQ.out, G3.out.trans L8.out⟩
            · have zl : ¬ (i : Int) < (t.ats.length : Int) := by omega
              go_wp2_with fail
              go_ret
              exact ⟨retB (CO.out HOK.out KL.out (fun j hj => K.out j hj (by omega)) fun j hj => K2.out j hj (by omega)), G0.out⟩
theorem may_c (n : Nat) : MayC 60 n := may_n n
end Go.Proofs.Ytijjbfdbhfjfmaa
