/- slices.ContainsFunc at types, of two closures. Condition: what a closure answers of each. -/
import Derived.Test.YtijjbfdbhfjfmaaTyM
namespace Go.Proofs.Ytijjbfdbhfjfmaa
open Go.RowKit
def IdxP (r : Int) (b : Bool) : Prop := decide (0 ≤ r) = b
set_option maxHeartbeats 1600000 in
theorem idxD_c (l : List T) (n : Nat) (f : T → Bool) (bx : Nat) (w : World) (v : Value) (h : RL (fun _ => True) w n l v)
    (hc : ∀ j (hj : j < l.length) (W : World) (e u : Value), Low w W → RT (fun _ => True) W n l[j] e u → Calls Try.prog 74 #[tv l[j] e u, .pointer (some ⟨bx, 0, none⟩)] W fun r W' => r = .returned (.bool (f l[j])) ∧ Low W W') :
    Calls Try.prog 84 #[v, .func (.func 74) #[] #[.pointer (some ⟨bx, 0, none⟩)]] w fun e w' => ∃ r : Int, e = .returned (.int .i64 r) ∧ IdxP r (l.any f) ∧ Low w w' := by
  obtain ⟨p, c, rfl, z1, z2⟩ := RowR.sl h
  have HL := Lib.hid h
  have HC := Lib.hid hc
  clear h hc
  go_enter Try.func84, Try.ntmps84
  go_wp2_with fail
  go_loopg [5, 8] l.length (fun gk vx vi wr => ∃ i : Nat, vi = .int .i64 (i : Int) ∧ i ≤ l.length ∧ l.length - i ≤ gk ∧ Hid (Low w wr) ∧ Hid (∀ j (hj : j < l.length), j < i → f l[j] = false))
  case atStart => exact ⟨0, rfl, Nat.zero_le _, Nat.le_refl _, Lib.hid (Low.refl _), Lib.hid fun j hj h => absurd h (Nat.not_lt_zero _)⟩
  case round =>
    obtain ⟨i, rfl, hi, hg, G, K⟩ := hrel
    by_cases hlt : i < l.length
    · have zl : (i : Int) < (l.length : Int) := by omega
      obtain ⟨b, o, qe, de, qv, dv, rfl, -, e0, e1, e2, e3, hx⟩ := RL.at (RL.low HL.out G.out) hlt
      have HF := Lib.hid (show Calls Try.prog 74 #[.agg #[.int .i64 l[i].k, .string l[i].n, .slice qe l[i].l.length de, .slice qv l[i].ats.length dv], .pointer (some ⟨bx, 0, none⟩)] wr _ from HC.out i hlt wr _ _ G.out hx)
      obtain ⟨q, hq⟩ : ∃ q, q = f l[i] := ⟨_, rfl⟩
      rw [← hq] at HF
      have HQ := Lib.hid hq
      clear hx hq
      go_wp2_with fail
      refine HF.out.mono ?_
      rintro e w' ⟨rfl, l1⟩
      have G2 := Lib.hid (G.out.trans l1)
      clear l1 HF
      cases q with
      | true =>
        have hany : l.any f = true := List.any_eq_true.2 ⟨l[i], List.getElem_mem hlt, HQ.out.symm⟩
        have HA := Lib.hid hany
        clear hany
        go_wp2_with fail
        go_ret
        exact ⟨(i : Int), rfl, (show decide ((0 : Int) ≤ (i : Int)) = l.any f from (decide_eq_true (by omega)).trans HA.out.symm), G2.out⟩
      | false =>
        go_wp2_with fail
        go_roundg (l.length - (i + 1))
        case measure => omega
        case rel =>
          refine ⟨i + 1, by go_num, by omega, by omega, G2, Lib.hid fun j hj hji => ?_⟩
          rcases Nat.lt_succ_iff_lt_or_eq.1 hji with h | rfl
          · exact K.out j hj h
          · exact HQ.out.symm
    · have zl : ¬ (i : Int) < (l.length : Int) := by omega
      have hany : l.any f = false := by
        rw [List.any_eq_false]; intro x hx
        obtain ⟨j, hj, rfl⟩ := List.getElem_of_mem hx
        rw [K.out j hj (by omega)]; simp
      have HA := Lib.hid hany
      clear hany
      go_wp2_with fail
      go_ret
      exact ⟨-1, rfl, (show decide ((0 : Int) ≤ -1) = l.any f from HA.out.symm), G.out⟩
set_option maxHeartbeats 1600000 in
theorem hasD_c (l : List T) (n : Nat) (f : T → Bool) (bx : Nat) (w : World) (v : Value) (h : RL (fun _ => True) w n l v)
    (hc : ∀ j (hj : j < l.length) (W : World) (e u : Value), Low w W → RT (fun _ => True) W n l[j] e u → Calls Try.prog 74 #[tv l[j] e u, .pointer (some ⟨bx, 0, none⟩)] W fun r W' => r = .returned (.bool (f l[j])) ∧ Low W W') :
    Calls Try.prog 72 #[v, .func (.func 74) #[] #[.pointer (some ⟨bx, 0, none⟩)]] w fun e w' => e = .returned (.bool (l.any f)) ∧ Low w w' := by
  have HI := Lib.hid (idxD_c l n f bx w v h hc)
  obtain ⟨p, c, rfl, z1, z2⟩ := RowR.sl h
  obtain ⟨q, hq⟩ : ∃ q, q = l.any f := ⟨_, rfl⟩
  rw [← hq] at HI ⊢
  clear h hc hq
  go_enter Try.func72, Try.ntmps72
  go_wp2_with fail
  refine HI.out.mono ?_
  rintro e w1 ⟨r, rfl, h1, l1⟩
  have L1 := Lib.hid l1
  have H1 := Lib.hid h1
  clear l1 h1
  go_wp2_with fail
  go_ret
  exact ⟨retB H1.out, L1.out⟩
set_option maxHeartbeats 1600000 in
theorem idxM_c (l : List T) (n : Nat) (f : T → Bool) (w : World) (v : Value) (h : RL (fun _ => True) w n l v)
    (hc : ∀ j (hj : j < l.length) (W : World) (e u : Value), Low w W → RT (fun _ => True) W n l[j] e u → Calls Try.prog 76 #[tv l[j] e u] W fun r W' => r = .returned (.bool (f l[j])) ∧ Low W W') :
    Calls Try.prog 84 #[v, .func (.func 76) #[] #[]] w fun e w' => ∃ r : Int, e = .returned (.int .i64 r) ∧ IdxP r (l.any f) ∧ Low w w' := by
  obtain ⟨p, c, rfl, z1, z2⟩ := RowR.sl h
  have HL := Lib.hid h
  have HC := Lib.hid hc
  clear h hc
  go_enter Try.func84, Try.ntmps84
  go_wp2_with fail
  go_loopg [5, 8] l.length (fun gk vx vi wr => ∃ i : Nat, vi = .int .i64 (i : Int) ∧ i ≤ l.length ∧ l.length - i ≤ gk ∧ Hid (Low w wr) ∧ Hid (∀ j (hj : j < l.length), j < i → f l[j] = false))
  case atStart => exact ⟨0, rfl, Nat.zero_le _, Nat.le_refl _, Lib.hid (Low.refl _), Lib.hid fun j hj h => absurd h (Nat.not_lt_zero _)⟩
  case round =>
    obtain ⟨i, rfl, hi, hg, G, K⟩ := hrel
    by_cases hlt : i < l.length
    · have zl : (i : Int) < (l.length : Int) := by omega
      obtain ⟨b, o, qe, de, qv, dv, rfl, -, e0, e1, e2, e3, hx⟩ := RL.at (RL.low HL.out G.out) hlt
      have HF := Lib.hid (show Calls Try.prog 76 #[.agg #[.int .i64 l[i].k, .string l[i].n, .slice qe l[i].l.length de, .slice qv l[i].ats.length dv]] wr _ from HC.out i hlt wr _ _ G.out hx)
      obtain ⟨q, hq⟩ : ∃ q, q = f l[i] := ⟨_, rfl⟩
      rw [← hq] at HF
      have HQ := Lib.hid hq
      clear hx hq
      go_wp2_with fail
      refine HF.out.mono ?_
      rintro e w' ⟨rfl, l1⟩
      have G2 := Lib.hid (G.out.trans l1)
      clear l1 HF
      cases q with
      | true =>
        have hany : l.any f = true := List.any_eq_true.2 ⟨l[i], List.getElem_mem hlt, HQ.out.symm⟩
        have HA := Lib.hid hany
        clear hany
        go_wp2_with fail
        go_ret
        exact ⟨(i : Int), rfl, (show decide ((0 : Int) ≤ (i : Int)) = l.any f from (decide_eq_true (by omega)).trans HA.out.symm), G2.out⟩
      | false =>
        go_wp2_with fail
        go_roundg (l.length - (i + 1))
        case measure => omega
        case rel =>
          refine ⟨i + 1, by go_num, by omega, by omega, G2, Lib.hid fun j hj hji => ?_⟩
          rcases Nat.lt_succ_iff_lt_or_eq.1 hji with h | rfl
          · exact K.out j hj h
          · exact HQ.out.symm
    · have zl : ¬ (i : Int) < (l.length : Int) := by omega
      have hany : l.any f = false := by
        rw [List.any_eq_false]; intro x hx
        obtain ⟨j, hj, rfl⟩ := List.getElem_of_mem hx
        rw [K.out j hj (by omega)]; simp
      have HA := Lib.hid hany
      clear hany
      go_wp2_with fail
      go_ret
      exact ⟨-1, rfl, (show decide ((0 : Int) ≤ -1) = l.any f from HA.out.symm), G.out⟩
set_option maxHeartbeats 1600000 in
theorem hasM_c (l : List T) (n : Nat) (f : T → Bool) (w : World) (v : Value) (h : RL (fun _ => True) w n l v)
    (hc : ∀ j (hj : j < l.length) (W : World) (e u : Value), Low w W → RT (fun _ => True) W n l[j] e u → Calls Try.prog 76 #[tv l[j] e u] W fun r W' => r = .returned (.bool (f l[j])) ∧ Low W W') :
    Calls Try.prog 72 #[v, .func (.func 76) #[] #[]] w fun e w' => e = .returned (.bool (l.any f)) ∧ Low w w' := by
  have HI := Lib.hid (idxM_c l n f w v h hc)
  obtain ⟨p, c, rfl, z1, z2⟩ := RowR.sl h
  obtain ⟨q, hq⟩ : ∃ q, q = l.any f := ⟨_, rfl⟩
  rw [← hq] at HI ⊢
  clear h hc hq
  go_enter Try.func72, Try.ntmps72
  go_wp2_with fail
  refine HI.out.mono ?_
  rintro e w1 ⟨r, rfl, h1, l1⟩
  have L1 := Lib.hid l1
  have H1 := Lib.hid h1
  clear l1 h1
  go_wp2_with fail
  go_ret
  exact ⟨retB H1.out, L1.out⟩
end Go.Proofs.Ytijjbfdbhfjfmaa
