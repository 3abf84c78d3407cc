/- few and size answer; few's yes says that a type is small. No condition. -/
import Derived.Test.YtijjbfdbhfjfmaaTyM
import Derived.Test.YtijjbfdbhfjfmaaTyQ
namespace Go.Proofs.Ytijjbfdbhfjfmaa
open Go.RowKit
def box4 (t : T) (pe : Option Addr) (ce : Nat) (pv : Option Addr) (cv : Nat) : Obj := .cells #[.int .i64 t.k, .string t.n, .slice pe t.l.length ce, .slice pv t.ats.length cv] 55
/-- What few answers. -/
def FewP (t : T) (D : Nat) (w : World) (e : Ending) (w' : World) : Prop := ∃ b : Bool, e = .returned (.bool b) ∧ (b = true → D ≤ 60 ∧ Sm (61 - D) t) ∧ Low w w'
set_option maxHeartbeats 1600000 in
theorem few_n (n : Nat) : ∀ (A : Nat → Prop) (t : T) (D : Nat) (w : World) (e v : Value), D ≤ 61 → RT A w n t e v → Calls Try.prog 21 #[tv t e v, .int .i64 (D : Int)] w (FewP t D w) := by
  induction n with
  | zero => intro A t D w e v _ h; exact h.elim
  | succ n ih =>
    intro A t D w e v hD hr
    obtain ⟨pe, ce, pv, cv, rfl, rfl, z1, z2, z3, z4⟩ := hr.sl
    obtain ⟨-, hl, ha⟩ := rt_succ.1 hr
    have HL := Lib.hid hl
    have HA := Lib.hid ha
    have IH := Lib.hid ih
    clear hr ih hl ha
    unfold tv
    by_cases c1 : (10 : Int) < (t.l.length : Int)
    · go_enter Try.func21, Try.ntmps21
      go_wp2_with fail
      go_ret
      exact ⟨false, rfl, by simp, low_new (Low.refl w) _⟩
    by_cases c2 : (10 : Int) < (t.ats.length : Int)
    · go_enter Try.func21, Try.ntmps21
      go_wp2_with fail
      go_ret
      exact ⟨false, rfl, by simp, low_new (Low.refl w) _⟩
    by_cases c3 : (60 : Int) < (D : Int)
    · go_enter Try.func21, Try.ntmps21
      go_wp2_with fail
      go_ret
      exact ⟨false, rfl, by simp, low_new (Low.refl w) _⟩
    have D60 : (D : Int) ≤ 60 := by omega
    go_enter Try.func21, Try.ntmps21
    go_wp2_with fail
    go_loopg [5, 6] t.l.length (fun gk vi vb wr => ∃ i : Nat, vi = .int .i64 (i : Int) ∧ i ≤ t.l.length ∧ t.l.length - i ≤ gk ∧ Hid (Low (w.alloc (box4 t pe ce pv cv)) wr) ∧ Hid (∀ j (hj : j < t.l.length), j < i → Sm (60 - D) t.l[j]))
    case atStart => exact ⟨0, rfl, Nat.zero_le _, Nat.le_refl _, Lib.hid (Low.refl _), Lib.hid fun j hj h => absurd h (Nat.not_lt_zero _)⟩
    case round =>
      obtain ⟨i, rfl, hi, hg, G, K⟩ := hrel
      have G0 := Lib.hid ((low_new (Low.refl w) _).trans G.out)
      obtain ⟨f0, f1, f2, f3⟩ := low_box G.out
      by_cases hlt : i < t.l.length
      · have zl : (i : Int) < (t.l.length : Int) := by omega
        obtain ⟨b, o, qe, de, qv, dv, rfl, -, e0, e1, e2, e3, hx⟩ := RL.at (RL.low HL.out G0.out) hlt
        have HC := Lib.hid (show Calls Try.prog 21 #[.agg #[.int .i64 t.l[i].k, .string t.l[i].n, .slice qe t.l[i].l.length de, .slice qv t.l[i].ats.length dv], .int .i64 ((D : Int) + 1)] wr _ from IH.out A t.l[i] (D + 1) wr _ _ (by omega) hx)
        clear hx
        go_wp2_with fail
        refine HC.out.mono ?_
        rintro e w' ⟨b, rfl, hb, l⟩
        have HB := Lib.hid hb
        have G2 := Lib.hid (G.out.trans l)
        have G3 := Lib.hid (G0.out.trans l)
        clear hb l HC
        cases b with
        | false =>
          go_wp2_with fail
          go_ret
          exact ⟨false, rfl, by simp, G3.out⟩
        | true =>
          go_wp2_with fail
          go_roundg (t.l.length - (i + 1))
          case measure => omega
          case rel =>
            refine ⟨i + 1, by go_num, by omega, by omega, G2, Lib.hid fun j hj hji => ?_⟩
            rcases Nat.lt_succ_iff_lt_or_eq.1 hji with h | rfl
            · exact K.out j hj h
            · have := (HB.out (by first | rfl | trivial)).2; rwa [show 61 - (D + 1) = 60 - D by omega] at this
      · have zl : ¬ (i : Int) < (t.l.length : Int) := by omega
        have KL := Lib.hid (show ∀ j (hj : j < t.l.length), Sm (60 - D) t.l[j] from fun j hj => K.out j hj (by omega))
        clear K
        go_wp2_with fail
        go_loopg [7, 8] t.ats.length (fun gk vi vb wr => ∃ i : Nat, vi = .int .i64 (i : Int) ∧ i ≤ t.ats.length ∧ t.ats.length - i ≤ gk ∧ Hid (Low (w.alloc (box4 t pe ce pv cv)) wr) ∧ Hid (∀ j (hj : j < t.ats.length), j < i → Sm (60 - D) (aty t.ats[j])))
        case atStart => exact ⟨0, rfl, Nat.zero_le _, Nat.le_refl _, G, Lib.hid fun j hj h => absurd h (Nat.not_lt_zero _)⟩
        case round =>
          clear f0 f1 f2 f3 G0 G
          obtain ⟨i, rfl, hi, hg, G, K⟩ := hrel
          have G0 := Lib.hid ((low_new (Low.refl w) _).trans G.out)
          obtain ⟨f0, f1, f2, f3⟩ := low_box G.out
          by_cases hlt : i < t.ats.length
          · have zl : (i : Int) < (t.ats.length : Int) := by omega
            obtain ⟨b, o, qe, de, qv, dv, rfl, -, e0, e1, e2, e3, e4, e5, -, hx⟩ := RAs.at (RAs.low HA.out G0.out) hlt
            have HC := Lib.hid (show Calls Try.prog 21 #[.agg #[.int .i64 (aty t.ats[i]).k, .string (aty t.ats[i]).n, .slice qe (aty t.ats[i]).l.length de, .slice qv (aty t.ats[i]).ats.length dv], .int .i64 ((D : Int) + 1)] wr _ from IH.out A (aty t.ats[i]) (D + 1) wr _ _ (by omega) hx)
            clear hx
            go_wp2_with fail
            refine HC.out.mono ?_
            rintro e w' ⟨b, rfl, hb, l⟩
            have HB := Lib.hid hb
            have G2 := Lib.hid (G.out.trans l)
            have G3 := Lib.hid (G0.out.trans l)
            clear hb l HC
            cases b with
            | false =>
              go_wp2_with fail
              go_ret
              exact ⟨false, rfl, by simp, G3.out⟩
            | true =>
              go_wp2_with fail
              go_roundg (t.ats.length - (i + 1))
              case measure => omega
              case rel =>
                refine ⟨i + 1, by go_num, by omega, by omega, G2, Lib.hid fun j hj hji => ?_⟩
                rcases Nat.lt_succ_iff_lt_or_eq.1 hji with h | rfl
                · exact K.out j hj h
                · have := (HB.out (by first | rfl | trivial)).2; rwa [show 61 - (D + 1) = 60 - D by omega] at this
          · have zl : ¬ (i : Int) < (t.ats.length : Int) := by omega
            go_wp2_with fail
            go_ret
            refine ⟨true, rfl, fun _ => ⟨by omega, ?_⟩, G0.out⟩
            rw [show 61 - D = 60 - D + 1 by omega]
            exact sm_of (by omega) (by omega) KL.out fun j hj => K.out j hj (by omega)
theorem few_c {A : Nat → Prop} {n : Nat} (t : T) (D : Nat) (w : World) (e v : Value) (hD : D ≤ 61) (h : RT A w n t e v) : Calls Try.prog 21 #[tv t e v, .int .i64 (D : Int)] w (FewP t D w) := few_n n A t D w e v hD h
end Go.Proofs.Ytijjbfdbhfjfmaa
