/- size answers some number; the reference's Depth is how deep a type is nested. Condition: as said. -/
import Derived.Test.YtijjbfdbhfjfmaaTyF
namespace Go.Proofs.Ytijjbfdbhfjfmaa
open Go.RowKit
def SizeP (w : World) (e : Ending) (w' : World) : Prop := ∃ n : Int, e = .returned (.int .i64 n) ∧ Low w w'
set_option maxHeartbeats 1600000 in
theorem size_n (n : Nat) : ∀ (A : Nat → Prop) (t : T) (w : World) (e v : Value), RT A w n t e v → Calls Try.prog 22 #[tv t e v] w (SizeP w) := by
  induction n with
  | zero => intro A t w e v h; exact h.elim
  | succ n ih =>
    intro A t w e v hr
    obtain ⟨pe, ce, pv, cv, rfl, rfl, z1, z2, z3, z4⟩ := hr.sl
    obtain ⟨-, hl, ha⟩ := rt_succ.1 hr
    have HL := Lib.hid hl
    have HA := Lib.hid ha
    have IH := Lib.hid ih
    clear hr ih hl ha
    unfold tv
    go_enter Try.func22, Try.ntmps22
    go_wp2_with fail
    go_loopg [3, 4] t.l.length (fun gk vn vi wr => ∃ (i : Nat) (m : Int), vn = .int .i64 m ∧ vi = .int .i64 (i : Int) ∧ i ≤ t.l.length ∧ t.l.length - i ≤ gk ∧ Hid (Low (w.alloc (box4 t pe ce pv cv)) wr))
    case atStart => exact ⟨0, 1, rfl, rfl, Nat.zero_le _, Nat.le_refl _, Lib.hid (Low.refl _)⟩
    case round =>
      obtain ⟨i, m, rfl, rfl, hi, hg, G⟩ := hrel
      have G0 := Lib.hid ((low_new (Low.refl w) _).trans G.out)
      obtain ⟨f0, f1, f2, f3⟩ := low_box G.out
      by_cases hq : i < t.l.length ∧ m < 1000
      · obtain ⟨hlt, hm⟩ := hq
        have zl : (i : Int) < (t.l.length : Int) := by omega
        obtain ⟨b, o, qe, de, qv, dv, rfl, -, e0, e1, e2, e3, hx⟩ := RL.at (RL.low HL.out G0.out) hlt
        have HC := Lib.hid (show Calls Try.prog 22 #[.agg #[.int .i64 t.l[i].k, .string t.l[i].n, .slice qe t.l[i].l.length de, .slice qv t.l[i].ats.length dv]] wr _ from IH.out A t.l[i] wr _ _ hx)
        clear hx
        go_wp2_with fail
        refine HC.out.mono ?_
        rintro e w' ⟨b, rfl, l⟩
        have G2 := Lib.hid (G.out.trans l)
        clear l HC
        go_wp2_with fail
        go_roundg (t.l.length - (i + 1))
        case measure => omega
        case rel => exact ⟨i + 1, _, rfl, by go_num, by omega, by omega, G2⟩
      · have HF := Lib.hid hq
        clear hq
        have goal2 : ∀ (A : Prop), A → A := fun _ h => h
        by_cases hlt : i < t.l.length
        · have zl : (i : Int) < (t.l.length : Int) := by omega
          have hm : ¬ m < 1000 := fun h => HF.out ⟨hlt, h⟩
          go_wp2_with fail
          go_loopg [3, 5] t.ats.length (fun gk vn vi wr => ∃ (i : Nat) (m : Int), vn = .int .i64 m ∧ vi = .int .i64 (i : Int) ∧ i ≤ t.ats.length ∧ t.ats.length - i ≤ gk ∧ Hid (Low (w.alloc (box4 t pe ce pv cv)) wr))
          case atStart => exact ⟨0, m, rfl, rfl, Nat.zero_le _, Nat.le_refl _, G⟩
          case round =>
            clear f0 f1 f2 f3 G0 G HF
            obtain ⟨i, m, rfl, rfl, hi, hg, G⟩ := hrel
            have G0 := Lib.hid ((low_new (Low.refl w) _).trans G.out)
            obtain ⟨f0, f1, f2, f3⟩ := low_box G.out
            by_cases hlt : i < t.ats.length
            · have zl : (i : Int) < (t.ats.length : Int) := by omega
              by_cases hm : m < 1000
              · obtain ⟨b, o, qe, de, qv, dv, rfl, -, e0, e1, e2, e3, e4, e5, -, hx⟩ := RAs.at (RAs.low HA.out G0.out) hlt
                have HC := Lib.hid (show Calls Try.prog 22 #[.agg #[.int .i64 (aty t.ats[i]).k, .string (aty t.ats[i]).n, .slice qe (aty t.ats[i]).l.length de, .slice qv (aty t.ats[i]).ats.length dv]] wr _ from IH.out A (aty t.ats[i]) wr _ _ hx)
                clear hx
                go_wp2_with fail
                refine HC.out.mono ?_
                rintro e w' ⟨b, rfl, l⟩
                have G2 := Lib.hid (G.out.trans l)
                clear l HC
                go_wp2_with fail
                go_roundg (t.ats.length - (i + 1))
                case measure => omega
                case rel => exact ⟨i + 1, _, rfl, by go_num, by omega, by omega, G2⟩
              · go_wp2_with fail
                go_ret
                exact ⟨m, rfl, G0.out⟩
            · have zl : ¬ (i : Int) < (t.ats.length : Int) := by omega
              go_wp2_with fail
              go_ret
              exact ⟨m, rfl, G0.out⟩
        · have zl : ¬ (i : Int) < (t.l.length : Int) := by omega
          go_wp2_with fail
          go_loopg [3, 5] t.ats.length (fun gk vn vi wr => ∃ (i : Nat) (m : Int), vn = .int .i64 m ∧ vi = .int .i64 (i : Int) ∧ i ≤ t.ats.length ∧ t.ats.length - i ≤ gk ∧ Hid (Low (w.alloc (box4 t pe ce pv cv)) wr))
          case atStart => exact ⟨0, m, rfl, rfl, Nat.zero_le _, Nat.le_refl _, G⟩
          case round =>
            clear f0 f1 f2 f3 G0 G HF
            obtain ⟨i, m, rfl, rfl, hi, hg, G⟩ := hrel
            have G0 := Lib.hid ((low_new (Low.refl w) _).trans G.out)
            obtain ⟨f0, f1, f2, f3⟩ := low_box G.out
            by_cases hlt : i < t.ats.length
            · have zl : (i : Int) < (t.ats.length : Int) := by omega
              by_cases hm : m < 1000
              · obtain ⟨b, o, qe, de, qv, dv, rfl, -, e0, e1, e2, e3, e4, e5, -, hx⟩ := RAs.at (RAs.low HA.out G0.out) hlt
                have HC := Lib.hid (show Calls Try.prog 22 #[.agg #[.int .i64 (aty t.ats[i]).k, .string (aty t.ats[i]).n, .slice qe (aty t.ats[i]).l.length de, .slice qv (aty t.ats[i]).ats.length dv]] wr _ from IH.out A (aty t.ats[i]) wr _ _ hx)
                clear hx
                go_wp2_with fail
                refine HC.out.mono ?_
                rintro e w' ⟨b, rfl, l⟩
                have G2 := Lib.hid (G.out.trans l)
                clear l HC
                go_wp2_with fail
                go_roundg (t.ats.length - (i + 1))
                case measure => omega
                case rel => exact ⟨i + 1, _, rfl, by go_num, by omega, by omega, G2⟩
              · go_wp2_with fail
                go_ret
                exact ⟨m, rfl, G0.out⟩
            · have zl : ¬ (i : Int) < (t.ats.length : Int) := by omega
              go_wp2_with fail
              go_ret
              exact ⟨m, rfl, G0.out⟩
theorem mxL_take {α : Type} (f : α → Nat) {l : List α} {i : Nat} (h : i < l.length) : mxL ((l.take (i + 1)).map f) = max (mxL ((l.take i).map f)) (f l[i]) := by
  rw [List.take_succ_eq_append_getElem h, List.map_append, mxL_append]; simp [mxL]
theorem mxL_bound {α : Type} (f : α → Nat) {l : List α} {N : Nat} (h : ∀ x, f x ≤ N) : mxL (l.map f) ≤ N := mxL_le.2 fun x hx => by
  obtain ⟨y, -, rfl⟩ := List.mem_map.1 hx; exact h y
set_option maxHeartbeats 1600000 in
theorem depth_n (n : Nat) (hn : n ≤ 1000000) : ∀ (A : Nat → Prop) (t : T) (w : World) (e v : Value), RT A w n t e v → Calls Try.prog 59 #[tv t e v] w (fun e w' => e = .returned (.int .i64 (dpt n t : Int)) ∧ Low w w') := by
  induction n with
  | zero => intro A t w e v h; exact h.elim
  | succ n ih =>
    intro A t w e v hr
    obtain ⟨pe, ce, pv, cv, rfl, rfl, z1, z2, z3, z4⟩ := hr.sl
    obtain ⟨-, hl, ha⟩ := rt_succ.1 hr
    have HL := Lib.hid hl
    have HA := Lib.hid ha
    have IH := Lib.hid (ih (by omega))
    have HB := Lib.hid fun x => dpt_le n x
    obtain ⟨R, hR⟩ : ∃ R, R = dpt (n + 1) t := ⟨_, rfl⟩
    have HR := Lib.hid (show R = max (mxL (t.l.map (dpt n))) (mxL (t.ats.map fun x => dpt n (aty x))) + 1 by rw [hR, dpt, T.ins, List.map_append, mxL_append, List.map_map]; rfl)
    have hRb : R ≤ 1000001 := by have := dpt_le (n + 1) t; omega
    rw [← hR]
    clear hr ih hl ha hR
    unfold tv
    go_enter Try.func59, Try.ntmps59
    go_wp2_with fail
    go_loopg [3, 4, 5] t.l.length (fun gk vd vi vx wr => ∃ i : Nat, vd = .int .i64 (mxL ((t.l.take i).map (dpt n)) : Int) ∧ vi = .int .i64 (i : Int) ∧ i ≤ t.l.length ∧ t.l.length - i ≤ gk ∧ Hid (Low (w.alloc (box4 t pe ce pv cv)) wr))
    case atStart => exact ⟨0, rfl, rfl, Nat.zero_le _, Nat.le_refl _, Lib.hid (Low.refl _)⟩
    case round =>
      obtain ⟨i, rfl, rfl, hi, hg, G⟩ := hrel
      have G0 := Lib.hid ((low_new (Low.refl w) _).trans G.out)
      obtain ⟨f0, f1, f2, f3⟩ := low_box G.out
      by_cases hlt : i < t.l.length
      · have zl : (i : Int) < (t.l.length : Int) := by omega
        obtain ⟨b, o, qe, de, qv, dv, rfl, -, e0, e1, e2, e3, hx⟩ := RL.at (RL.low HL.out G0.out) hlt
        have HC := Lib.hid (show Calls Try.prog 59 #[.agg #[.int .i64 t.l[i].k, .string t.l[i].n, .slice qe t.l[i].l.length de, .slice qv t.l[i].ats.length dv]] wr _ from IH.out A t.l[i] wr _ _ hx)
        have HT := Lib.hid (mxL_take (dpt n) hlt)
        generalize mxL ((t.l.take i).map (dpt n)) = q at *
        generalize dpt n t.l[i] = c at *
        clear hx
        go_wp2_with fail
        refine HC.out.mono ?_
        rintro e w' ⟨rfl, l⟩
        have G2 := Lib.hid (G.out.trans l)
        clear l HC
        by_cases hqc : q < c
        · have z2 : (q : Int) < (c : Int) := by omega
          go_wp2_with fail
          go_roundg (t.l.length - (i + 1))
          case measure => omega
          case rel => exact ⟨i + 1, by rw [HT.out]; congr 1; omega, by go_num, by omega, by omega, G2⟩
        · have z2 : ¬ (q : Int) < (c : Int) := by omega
          go_wp2_with fail
          go_roundg (t.l.length - (i + 1))
          case measure => omega
          case rel => exact ⟨i + 1, by rw [HT.out]; congr 1; omega, by go_num, by omega, by omega, G2⟩
      · have zl : ¬ (i : Int) < (t.l.length : Int) := by omega
        have hq : t.l.take i = t.l := List.take_of_length_le (by omega)
        rw [hq]
        obtain ⟨p, hp⟩ : ∃ p, p = mxL (t.l.map (dpt n)) := ⟨_, rfl⟩
        rw [← hp]
        have HP := Lib.hid hp
        clear hq hp
        go_wp2_with fail
        go_loopg [3, 6, 7] t.ats.length (fun gk vd vi vx wr => ∃ i : Nat, vd = .int .i64 ((max p (mxL ((t.ats.take i).map fun x => dpt n (aty x))) : Nat) : Int) ∧ vi = .int .i64 (i : Int) ∧ i ≤ t.ats.length ∧ t.ats.length - i ≤ gk ∧ Hid (Low (w.alloc (box4 t pe ce pv cv)) wr))
        case atStart => exact ⟨0, by simp [mxL], rfl, Nat.zero_le _, Nat.le_refl _, G⟩
        case round =>
          clear f0 f1 f2 f3 G0 G
          obtain ⟨i, rfl, rfl, hi, hg, G⟩ := hrel
          have G0 := Lib.hid ((low_new (Low.refl w) _).trans G.out)
          obtain ⟨f0, f1, f2, f3⟩ := low_box G.out
          by_cases hlt : i < t.ats.length
          · have zl : (i : Int) < (t.ats.length : Int) := by omega
            obtain ⟨b, o, qe, de, qv, dv, rfl, -, e0, e1, e2, e3, e4, e5, -, hx⟩ := RAs.at (RAs.low HA.out G0.out) hlt
            have HC := Lib.hid (show Calls Try.prog 59 #[.agg #[.int .i64 (aty t.ats[i]).k, .string (aty t.ats[i]).n, .slice qe (aty t.ats[i]).l.length de, .slice qv (aty t.ats[i]).ats.length dv]] wr _ from IH.out A (aty t.ats[i]) wr _ _ hx)
            have HT := Lib.hid (mxL_take (fun x => dpt n (aty x)) hlt)
            generalize mxL ((t.ats.take i).map fun x => dpt n (aty x)) = q0 at *
            generalize hc : dpt n (aty t.ats[i]) = c at *
            obtain ⟨q, hq⟩ : ∃ q, q = max p q0 := ⟨_, rfl⟩
            rw [← hq]
            have HQ := Lib.hid hq
            have HCC := Lib.hid hc
            clear hx hq hc
            go_wp2_with fail
            refine HC.out.mono ?_
            rintro e w' ⟨rfl, l⟩
            have G2 := Lib.hid (G.out.trans l)
            clear l HC
            by_cases hqc : q < c
            · have z2 : (q : Int) < (c : Int) := by omega
              go_wp2_with fail
              go_roundg (t.ats.length - (i + 1))
              case measure => omega
              case rel => exact ⟨i + 1, by rw [HT.out]; congr 1; have := HQ.out; omega, by go_num, by omega, by omega, G2⟩
            · have z2 : ¬ (q : Int) < (c : Int) := by omega
              go_wp2_with fail
              go_roundg (t.ats.length - (i + 1))
              case measure => omega
              case rel => exact ⟨i + 1, by rw [HT.out]; congr 1; have := HQ.out; omega, by go_num, by omega, by omega, G2⟩
          · have zl : ¬ (i : Int) < (t.ats.length : Int) := by omega
            have hq : t.ats.take i = t.ats := List.take_of_length_le (by omega)
            rw [hq]
            have hR := HR.out
            rw [← HP.out] at hR
            obtain ⟨q, hq2⟩ : ∃ q, q = max p (mxL (t.ats.map fun x => dpt n (aty x))) := ⟨_, rfl⟩
            rw [← hq2] at hR ⊢
            have HQ := Lib.hid (show (q : Int) + 1 = (R : Int) by omega)
            have hq6 : (q : Int) ≤ 1000001 := by omega
            have hq0 : (0 : Int) ≤ (q : Int) := by omega
            clear hq hq2 hR
            go_wp2_with fail
            go_ret
            exact ⟨retI HQ.out, G0.out⟩
end Go.Proofs.Ytijjbfdbhfjfmaa
