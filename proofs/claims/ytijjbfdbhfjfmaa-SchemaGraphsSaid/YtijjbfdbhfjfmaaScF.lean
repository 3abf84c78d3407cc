/- slices.IndexFunc and slices.ContainsFunc at rows of a schema, of its closures. Condition: what a closure answers of each. -/
import Derived.Test.YtijjbfdbhfjfmaaScI
namespace Go.Proofs.Ytijjbfdbhfjfmaa
open Go.RowKit
set_option linter.unusedVariables false
/-- The first one. -/
def firstI {α : Type} (l : List α) (f : α → Bool) : Int := match l.findIdx? f with
  | some i => (i : Int)
  | none => -1
theorem firstI_some {α : Type} {l : List α} {f : α → Bool} {i : Nat} (hi : i < l.length) (h1 : f l[i] = true) (h2 : ∀ j (hj : j < l.length), j < i → f l[j] = false) : firstI l f = (i : Int) := by
  unfold firstI
  have : l.findIdx? f = some i := by
    rw [List.findIdx?_eq_some_iff_getElem]
    exact ⟨hi, h1, fun j hj => by have := h2 j (by omega) hj; simp [this]⟩
  rw [this]
theorem firstI_none {α : Type} {l : List α} {f : α → Bool} (h : ∀ j (hj : j < l.length), f l[j] = false) : firstI l f = -1 := by
  unfold firstI
  have : l.findIdx? f = none := by
    rw [List.findIdx?_eq_none_iff]
    intro x hx
    obtain ⟨j, hj, rfl⟩ := List.getElem_of_mem hx
    exact h j hj
  rw [this]
theorem firstI_cases {α : Type} (l : List α) (f : α → Bool) : (∃ i, ∃ hi : i < l.length, firstI l f = (i : Int) ∧ f l[i] = true ∧ ∀ j (hj : j < l.length), j < i → f l[j] = false) ∨ (firstI l f = -1 ∧ ∀ j (hj : j < l.length), f l[j] = false) := by
  unfold firstI
  cases h : l.findIdx? f with
  | some i =>
    obtain ⟨hi, h1, h2⟩ := List.findIdx?_eq_some_iff_getElem.1 h
    exact .inl ⟨i, hi, rfl, h1, fun j hj hji => by have := h2 j hji; simpa using this⟩
  | none =>
    rw [List.findIdx?_eq_none_iff] at h
    exact .inr ⟨rfl, fun j hj => h _ (List.getElem_mem hj)⟩
theorem firstI_any {α : Type} (l : List α) (f : α → Bool) : decide (0 ≤ firstI l f) = l.any f := by
  rcases firstI_cases l f with ⟨i, hi, e, h1, -⟩ | ⟨e, h⟩
  · rw [e]
    have : l.any f = true := List.any_eq_true.2 ⟨_, List.getElem_mem hi, h1⟩
    rw [this]; simp
  · rw [e]
    have : l.any f = false := by
      rw [List.any_eq_false]
      intro x hx
      obtain ⟨j, hj, rfl⟩ := List.getElem_of_mem hx
      simp [h j hj]
    rw [this]; rfl
set_option maxHeartbeats 1600000 in
theorem idxN_c (l : List Nm) (f : Nm → Bool) (x0 : Nat) (w : World) (v : Value) (h : NsAt w l v) (hc : ∀ j (hj : j < l.length) (W : World), Low w W → Calls Try.prog 54 #[.string l[j].s, .pointer (some ⟨x0, 0, none⟩)] W fun r W' => r = .returned (.bool (f l[j])) ∧ Low W W') :
    Calls Try.prog 64 #[v, .func (.func 54) #[] #[.pointer (some ⟨x0, 0, none⟩)]] w fun e w' => e = .returned (.int .i64 (firstI l f)) ∧ Low w w' := by
  obtain ⟨p, c, rfl, z1, z2⟩ := RowB.sl h
  have HA := Lib.hid h
  have HC := Lib.hid hc
  obtain ⟨r, hr⟩ : ∃ r, r = firstI l f := ⟨_, rfl⟩
  have CS := Lib.hid (show ∀ i (hi : i < l.length), f l[i] = true → (∀ j (hj : j < l.length), j < i → f l[j] = false) → (i : Int) = r from fun i hi h1 h2 => by rw [hr, firstI_some hi h1 h2])
  have CN := Lib.hid (show (∀ j (hj : j < l.length), f l[j] = false) → -1 = r from fun h2 => by rw [hr, firstI_none h2])
  rw [← hr]
  clear h hr hc
  go_enter Try.func64, Try.ntmps64
  go_wp2_with fail
  go_loopg [5, 8] l.length (fun gk vx vi wr => ∃ i : Nat, vi = .int .i64 (i : Int) ∧ i ≤ l.length ∧ l.length - i ≤ gk ∧ Hid (Low w wr) ∧ Hid (∀ j (hj : j < l.length), j < i → f l[j] = false))
  case atStart => exact ⟨0, rfl, Nat.zero_le _, Nat.le_refl _, Lib.hid (Low.refl _), Lib.hid fun j hj h => absurd h (Nat.not_lt_zero _)⟩
  case round =>
    obtain ⟨i, rfl, hi, hg, G, K⟩ := hrel
    by_cases hlt : i < l.length
    · have zl : (i : Int) < (l.length : Int) := by omega
      obtain ⟨b, o, rfl, e0⟩ := NsAt.at (NsAt.low HA.out G.out) hlt
      have HF := Lib.hid (HC.out i hlt wr G.out)
      obtain ⟨q, hq⟩ : ∃ q, q = f l[i] := ⟨_, rfl⟩
      rw [← hq] at HF
      have HQ := Lib.hid hq
      clear hq
      go_wp2_with fail
      refine HF.out.mono ?_
      rintro e w' ⟨rfl, l1⟩
      have G2 := Lib.hid (G.out.trans l1)
      clear l1 HF
      cases q with
      | true =>
        have HQ2 := Lib.hid (CS.out i hlt HQ.out.symm K.out)
        go_wp2_with fail
        go_ret
        exact ⟨retI HQ2.out, G2.out⟩
      | false =>
        go_wp2_with fail
        go_roundg (l.length - (i + 1))
        case measure => omega
        case rel =>
          refine ⟨i + 1, by go_num, by omega, by omega, G2, Lib.hid fun j hj hji => ?_⟩
          rcases Nat.lt_succ_iff_lt_or_eq.1 hji with h | rfl
          · exact K.out j hj h
          · exact HQ.out.symm
    · have zl : ¬ (i : Int) < (l.length : Int) := by omega
      have HQ2 := Lib.hid (CN.out fun j hj => K.out j hj (by omega))
      go_wp2_with fail
      go_ret
      exact ⟨retI HQ2.out, G.out⟩
theorem conN_c (l : List Nm) (f : Nm → Bool) (x0 : Nat) (w : World) (v : Value) (h : NsAt w l v) (hc : ∀ j (hj : j < l.length) (W : World), Low w W → Calls Try.prog 54 #[.string l[j].s, .pointer (some ⟨x0, 0, none⟩)] W fun r W' => r = .returned (.bool (f l[j])) ∧ Low W W') :
    Calls Try.prog 53 #[v, .func (.func 54) #[] #[.pointer (some ⟨x0, 0, none⟩)]] w fun e w' => e = .returned (.bool (l.any f)) ∧ Low w w' := by
  have HI := Lib.hid (idxN_c l f x0 w v h hc)
  obtain ⟨p, c, rfl, z1, z2⟩ := RowB.sl h
  obtain ⟨r, hr⟩ : ∃ r, r = firstI l f := ⟨_, rfl⟩
  rw [← hr] at HI
  have HR := Lib.hid (show decide (0 ≤ r) = l.any f by rw [hr]; exact firstI_any l f)
  clear h hc hr
  go_enter Try.func53, Try.ntmps53
  go_wp2_with fail
  refine HI.out.mono ?_
  rintro e w' ⟨rfl, l1⟩
  go_wp2_with fail
  go_ret
  exact ⟨retB HR.out, l1⟩
set_option maxHeartbeats 1600000 in
theorem idxE_c (n : Nat) (l : List Et) (f : Et → Bool) (x0 : Nat) (w : World) (v : Value) (h : EtsAt n w l v) (hc : ∀ j (hj : j < l.length) (W : World) (pi : Option Addr) (ci : Nat) (pa : Option Addr) (ca : Nat), Low w W → NsAt W l[j].ins (.slice pi l[j].ins.length ci) → RAs (fun _ => True) W n l[j].ats (.slice pa l[j].ats.length ca) → Calls Try.prog 26 #[.agg #[.string l[j].nm.s, .slice pi l[j].ins.length ci, .slice pa l[j].ats.length ca], .pointer (some ⟨x0, 0, none⟩)] W fun r W' => r = .returned (.bool (f l[j])) ∧ Low W W') :
    Calls Try.prog 35 #[v, .func (.func 26) #[] #[.pointer (some ⟨x0, 0, none⟩)]] w fun e w' => e = .returned (.int .i64 (firstI l f)) ∧ Low w w' := by
  obtain ⟨p, c, rfl, z1, z2⟩ := RowB.sl h
  have HA := Lib.hid h
  have HC := Lib.hid hc
  obtain ⟨r, hr⟩ : ∃ r, r = firstI l f := ⟨_, rfl⟩
  have CS := Lib.hid (show ∀ i (hi : i < l.length), f l[i] = true → (∀ j (hj : j < l.length), j < i → f l[j] = false) → (i : Int) = r from fun i hi h1 h2 => by rw [hr, firstI_some hi h1 h2])
  have CN := Lib.hid (show (∀ j (hj : j < l.length), f l[j] = false) → -1 = r from fun h2 => by rw [hr, firstI_none h2])
  rw [← hr]
  clear h hr hc
  go_enter Try.func35, Try.ntmps35
  go_wp2_with fail
  go_loopg [5, 8] l.length (fun gk vx vi wr => ∃ i : Nat, vi = .int .i64 (i : Int) ∧ i ≤ l.length ∧ l.length - i ≤ gk ∧ Hid (Low w wr) ∧ Hid (∀ j (hj : j < l.length), j < i → f l[j] = false))
  case atStart => exact ⟨0, rfl, Nat.zero_le _, Nat.le_refl _, Lib.hid (Low.refl _), Lib.hid fun j hj h => absurd h (Nat.not_lt_zero _)⟩
  case round =>
    obtain ⟨i, rfl, hi, hg, G, K⟩ := hrel
    by_cases hlt : i < l.length
    · have zl : (i : Int) < (l.length : Int) := by omega
      obtain ⟨b, o, pi, ci, pa, ca, rfl, e0, e1, e2, h1, h2, -, -, -, -⟩ := EtsAt.at (EtsAt.low HA.out G.out) hlt
      have HF := Lib.hid (HC.out i hlt wr pi ci pa ca G.out h1 h2)
      obtain ⟨q, hq⟩ : ∃ q, q = f l[i] := ⟨_, rfl⟩
      rw [← hq] at HF
      have HQ := Lib.hid hq
      clear h1 h2 hq
      go_wp2_with fail
      refine HF.out.mono ?_
      rintro e w' ⟨rfl, l1⟩
      have G2 := Lib.hid (G.out.trans l1)
      clear l1 HF
      cases q with
      | true =>
        have HQ2 := Lib.hid (CS.out i hlt HQ.out.symm K.out)
        go_wp2_with fail
        go_ret
        exact ⟨retI HQ2.out, G2.out⟩
      | false =>
        go_wp2_with fail
        go_roundg (l.length - (i + 1))
        case measure => omega
        case rel =>
          refine ⟨i + 1, by go_num, by omega, by omega, G2, Lib.hid fun j hj hji => ?_⟩
          rcases Nat.lt_succ_iff_lt_or_eq.1 hji with h | rfl
          · exact K.out j hj h
          · exact HQ.out.symm
    · have zl : ¬ (i : Int) < (l.length : Int) := by omega
      have HQ2 := Lib.hid (CN.out fun j hj => K.out j hj (by omega))
      go_wp2_with fail
      go_ret
      exact ⟨retI HQ2.out, G.out⟩
theorem conE_c (n : Nat) (l : List Et) (f : Et → Bool) (x0 : Nat) (w : World) (v : Value) (h : EtsAt n w l v) (hc : ∀ j (hj : j < l.length) (W : World) (pi : Option Addr) (ci : Nat) (pa : Option Addr) (ca : Nat), Low w W → NsAt W l[j].ins (.slice pi l[j].ins.length ci) → RAs (fun _ => True) W n l[j].ats (.slice pa l[j].ats.length ca) → Calls Try.prog 26 #[.agg #[.string l[j].nm.s, .slice pi l[j].ins.length ci, .slice pa l[j].ats.length ca], .pointer (some ⟨x0, 0, none⟩)] W fun r W' => r = .returned (.bool (f l[j])) ∧ Low W W') :
    Calls Try.prog 25 #[v, .func (.func 26) #[] #[.pointer (some ⟨x0, 0, none⟩)]] w fun e w' => e = .returned (.bool (l.any f)) ∧ Low w w' := by
  have HI := Lib.hid (idxE_c n l f x0 w v h hc)
  obtain ⟨p, c, rfl, z1, z2⟩ := RowB.sl h
  obtain ⟨r, hr⟩ : ∃ r, r = firstI l f := ⟨_, rfl⟩
  rw [← hr] at HI
  have HR := Lib.hid (show decide (0 ≤ r) = l.any f by rw [hr]; exact firstI_any l f)
  clear h hc hr
  go_enter Try.func25, Try.ntmps25
  go_wp2_with fail
  refine HI.out.mono ?_
  rintro e w' ⟨rfl, l1⟩
  go_wp2_with fail
  go_ret
  exact ⟨retB HR.out, l1⟩
set_option maxHeartbeats 1600000 in
theorem idxA_c (n : Nat) (l : List Ac) (f : Ac → Bool) (x0 x1 : Nat) (w : World) (v : Value) (h : AcsAt n w l v) (hc : ∀ j (hj : j < l.length) (W : World) (pi : Option Addr) (ci : Nat) (pp : Option Addr) (cp : Nat) (pr : Option Addr) (cr : Nat) (pa : Option Addr) (ca : Nat), Low w W → NsAt W l[j].ins (.slice pi l[j].ins.length ci) → NsAt W l[j].ps (.slice pp l[j].ps.length cp) → NsAt W l[j].rs (.slice pr l[j].rs.length cr) → RAs (fun _ => True) W n l[j].ats (.slice pa l[j].ats.length ca) → Calls Try.prog 29 #[.agg #[.string l[j].nm.s, .slice pi l[j].ins.length ci, .slice pp l[j].ps.length cp, .slice pr l[j].rs.length cr, .slice pa l[j].ats.length ca], .pointer (some ⟨x0, 0, none⟩), .pointer (some ⟨x1, 0, none⟩)] W fun r W' => r = .returned (.bool (f l[j])) ∧ Low W W') :
    Calls Try.prog 37 #[v, .func (.func 29) #[] #[.pointer (some ⟨x0, 0, none⟩), .pointer (some ⟨x1, 0, none⟩)]] w fun e w' => e = .returned (.int .i64 (firstI l f)) ∧ Low w w' := by
  obtain ⟨p, c, rfl, z1, z2⟩ := RowB.sl h
  have HA := Lib.hid h
  have HC := Lib.hid hc
  obtain ⟨r, hr⟩ : ∃ r, r = firstI l f := ⟨_, rfl⟩
  have CS := Lib.hid (show ∀ i (hi : i < l.length), f l[i] = true → (∀ j (hj : j < l.length), j < i → f l[j] = false) → (i : Int) = r from fun i hi h1 h2 => by rw [hr, firstI_some hi h1 h2])
  have CN := Lib.hid (show (∀ j (hj : j < l.length), f l[j] = false) → -1 = r from fun h2 => by rw [hr, firstI_none h2])
  rw [← hr]
  clear h hr hc
  go_enter Try.func37, Try.ntmps37
  go_wp2_with fail
  go_loopg [5, 8] l.length (fun gk vx vi wr => ∃ i : Nat, vi = .int .i64 (i : Int) ∧ i ≤ l.length ∧ l.length - i ≤ gk ∧ Hid (Low w wr) ∧ Hid (∀ j (hj : j < l.length), j < i → f l[j] = false))
  case atStart => exact ⟨0, rfl, Nat.zero_le _, Nat.le_refl _, Lib.hid (Low.refl _), Lib.hid fun j hj h => absurd h (Nat.not_lt_zero _)⟩
  case round =>
    obtain ⟨i, rfl, hi, hg, G, K⟩ := hrel
    by_cases hlt : i < l.length
    · have zl : (i : Int) < (l.length : Int) := by omega
      obtain ⟨b, o, pi, ci, pp, cp, pr, cr, pa, ca, rfl, e0, e1, e2, e3, e4, h1, h2, h3, h4, -, -, -, -⟩ := AcsAt.at (AcsAt.low HA.out G.out) hlt
      have HF := Lib.hid (HC.out i hlt wr pi ci pp cp pr cr pa ca G.out h1 h2 h3 h4)
      obtain ⟨q, hq⟩ : ∃ q, q = f l[i] := ⟨_, rfl⟩
      rw [← hq] at HF
      have HQ := Lib.hid hq
      clear h1 h2 h3 h4 hq
      go_wp2_with fail
      refine HF.out.mono ?_
      rintro e w' ⟨rfl, l1⟩
      have G2 := Lib.hid (G.out.trans l1)
      clear l1 HF
      cases q with
      | true =>
        have HQ2 := Lib.hid (CS.out i hlt HQ.out.symm K.out)
        go_wp2_with fail
        go_ret
        exact ⟨retI HQ2.out, G2.out⟩
      | false =>
        go_wp2_with fail
        go_roundg (l.length - (i + 1))
        case measure => omega
        case rel =>
          refine ⟨i + 1, by go_num, by omega, by omega, G2, Lib.hid fun j hj hji => ?_⟩
          rcases Nat.lt_succ_iff_lt_or_eq.1 hji with h | rfl
          · exact K.out j hj h
          · exact HQ.out.symm
    · have zl : ¬ (i : Int) < (l.length : Int) := by omega
      have HQ2 := Lib.hid (CN.out fun j hj => K.out j hj (by omega))
      go_wp2_with fail
      go_ret
      exact ⟨retI HQ2.out, G.out⟩
theorem conA_c (n : Nat) (l : List Ac) (f : Ac → Bool) (x0 x1 : Nat) (w : World) (v : Value) (h : AcsAt n w l v) (hc : ∀ j (hj : j < l.length) (W : World) (pi : Option Addr) (ci : Nat) (pp : Option Addr) (cp : Nat) (pr : Option Addr) (cr : Nat) (pa : Option Addr) (ca : Nat), Low w W → NsAt W l[j].ins (.slice pi l[j].ins.length ci) → NsAt W l[j].ps (.slice pp l[j].ps.length cp) → NsAt W l[j].rs (.slice pr l[j].rs.length cr) → RAs (fun _ => True) W n l[j].ats (.slice pa l[j].ats.length ca) → Calls Try.prog 29 #[.agg #[.string l[j].nm.s, .slice pi l[j].ins.length ci, .slice pp l[j].ps.length cp, .slice pr l[j].rs.length cr, .slice pa l[j].ats.length ca], .pointer (some ⟨x0, 0, none⟩), .pointer (some ⟨x1, 0, none⟩)] W fun r W' => r = .returned (.bool (f l[j])) ∧ Low W W') :
    Calls Try.prog 28 #[v, .func (.func 29) #[] #[.pointer (some ⟨x0, 0, none⟩), .pointer (some ⟨x1, 0, none⟩)]] w fun e w' => e = .returned (.bool (l.any f)) ∧ Low w w' := by
  have HI := Lib.hid (idxA_c n l f x0 x1 w v h hc)
  obtain ⟨p, c, rfl, z1, z2⟩ := RowB.sl h
  obtain ⟨r, hr⟩ : ∃ r, r = firstI l f := ⟨_, rfl⟩
  rw [← hr] at HI
  have HR := Lib.hid (show decide (0 ≤ r) = l.any f by rw [hr]; exact firstI_any l f)
  clear h hc hr
  go_enter Try.func28, Try.ntmps28
  go_wp2_with fail
  refine HI.out.mono ?_
  rintro e w' ⟨rfl, l1⟩
  go_wp2_with fail
  go_ret
  exact ⟨retB HR.out, l1⟩
set_option maxHeartbeats 1600000 in
theorem idxR_c (n : Nat) (l : List At) (f : At → Bool) (x0 : Nat) (w : World) (v : Value) (h : RAs (fun _ => True) w n l v) (hc : ∀ j (hj : j < l.length) (W : World) (qe : Option Addr) (de : Nat) (qv : Option Addr) (dv : Nat), Low w W → RT (fun _ => True) W n (aty l[j]) (.slice qe (aty l[j]).l.length de) (.slice qv (aty l[j]).ats.length dv) → Calls Try.prog 68 #[.agg #[.string (an l[j]), .int .i64 (aty l[j]).k, .string (aty l[j]).n, .slice qe (aty l[j]).l.length de, .slice qv (aty l[j]).ats.length dv, .bool (ao l[j])], .pointer (some ⟨x0, 0, none⟩)] W fun r W' => r = .returned (.bool (f l[j])) ∧ Low W W') :
    Calls Try.prog 77 #[v, .func (.func 68) #[] #[.pointer (some ⟨x0, 0, none⟩)]] w fun e w' => e = .returned (.int .i64 (firstI l f)) ∧ Low w w' := by
  obtain ⟨p, c, rfl, z1, z2⟩ := RowR.sl h
  have HA := Lib.hid h
  have HC := Lib.hid hc
  obtain ⟨r, hr⟩ : ∃ r, r = firstI l f := ⟨_, rfl⟩
  have CS := Lib.hid (show ∀ i (hi : i < l.length), f l[i] = true → (∀ j (hj : j < l.length), j < i → f l[j] = false) → (i : Int) = r from fun i hi h1 h2 => by rw [hr, firstI_some hi h1 h2])
  have CN := Lib.hid (show (∀ j (hj : j < l.length), f l[j] = false) → -1 = r from fun h2 => by rw [hr, firstI_none h2])
  rw [← hr]
  clear h hr hc
  go_enter Try.func77, Try.ntmps77
  go_wp2_with fail
  go_loopg [5, 8] l.length (fun gk vx vi wr => ∃ i : Nat, vi = .int .i64 (i : Int) ∧ i ≤ l.length ∧ l.length - i ≤ gk ∧ Hid (Low w wr) ∧ Hid (∀ j (hj : j < l.length), j < i → f l[j] = false))
  case atStart => exact ⟨0, rfl, Nat.zero_le _, Nat.le_refl _, Lib.hid (Low.refl _), Lib.hid fun j hj h => absurd h (Nat.not_lt_zero _)⟩
  case round =>
    obtain ⟨i, rfl, hi, hg, G, K⟩ := hrel
    by_cases hlt : i < l.length
    · have zl : (i : Int) < (l.length : Int) := by omega
      obtain ⟨b, o, qe, de, qv, dv, rfl, -, e0, e1, e2, e3, e4, e5, es, h1⟩ := RAs.at (RAs.low HA.out G.out) hlt
      have HF := Lib.hid (HC.out i hlt wr qe de qv dv G.out h1)
      obtain ⟨q, hq⟩ : ∃ q, q = f l[i] := ⟨_, rfl⟩
      rw [← hq] at HF
      have HQ := Lib.hid hq
      clear h1 hq
      go_wp2_with fail
      refine HF.out.mono ?_
      rintro e w' ⟨rfl, l1⟩
      have G2 := Lib.hid (G.out.trans l1)
      clear l1 HF
      cases q with
      | true =>
        have HQ2 := Lib.hid (CS.out i hlt HQ.out.symm K.out)
        go_wp2_with fail
        go_ret
        exact ⟨retI HQ2.out, G2.out⟩
      | false =>
        go_wp2_with fail
        go_roundg (l.length - (i + 1))
        case measure => omega
        case rel =>
          refine ⟨i + 1, by go_num, by omega, by omega, G2, Lib.hid fun j hj hji => ?_⟩
          rcases Nat.lt_succ_iff_lt_or_eq.1 hji with h | rfl
          · exact K.out j hj h
          · exact HQ.out.symm
    · have zl : ¬ (i : Int) < (l.length : Int) := by omega
      have HQ2 := Lib.hid (CN.out fun j hj => K.out j hj (by omega))
      go_wp2_with fail
      go_ret
      exact ⟨retI HQ2.out, G.out⟩
theorem conR_c (n : Nat) (l : List At) (f : At → Bool) (x0 : Nat) (w : World) (v : Value) (h : RAs (fun _ => True) w n l v) (hc : ∀ j (hj : j < l.length) (W : World) (qe : Option Addr) (de : Nat) (qv : Option Addr) (dv : Nat), Low w W → RT (fun _ => True) W n (aty l[j]) (.slice qe (aty l[j]).l.length de) (.slice qv (aty l[j]).ats.length dv) → Calls Try.prog 68 #[.agg #[.string (an l[j]), .int .i64 (aty l[j]).k, .string (aty l[j]).n, .slice qe (aty l[j]).l.length de, .slice qv (aty l[j]).ats.length dv, .bool (ao l[j])], .pointer (some ⟨x0, 0, none⟩)] W fun r W' => r = .returned (.bool (f l[j])) ∧ Low W W') :
    Calls Try.prog 67 #[v, .func (.func 68) #[] #[.pointer (some ⟨x0, 0, none⟩)]] w fun e w' => e = .returned (.bool (l.any f)) ∧ Low w w' := by
  have HI := Lib.hid (idxR_c n l f x0 w v h hc)
  obtain ⟨p, c, rfl, z1, z2⟩ := RowR.sl h
  obtain ⟨r, hr⟩ : ∃ r, r = firstI l f := ⟨_, rfl⟩
  rw [← hr] at HI
  have HR := Lib.hid (show decide (0 ≤ r) = l.any f by rw [hr]; exact firstI_any l f)
  clear h hc hr
  go_enter Try.func67, Try.ntmps67
  go_wp2_with fail
  refine HI.out.mono ?_
  rintro e w' ⟨rfl, l1⟩
  go_wp2_with fail
  go_ret
  exact ⟨retB HR.out, l1⟩
set_option maxHeartbeats 1600000 in
theorem idxT_c (n : Nat) (l : List T) (f : T → Bool) (x0 : Nat) (w : World) (v : Value) (h : RL (fun _ => True) w n l v) (hc : ∀ j (hj : j < l.length) (W : World) (qe : Option Addr) (de : Nat) (qv : Option Addr) (dv : Nat), Low w W → RT (fun _ => True) W n l[j] (.slice qe l[j].l.length de) (.slice qv l[j].ats.length dv) → Calls Try.prog 78 #[.agg #[.int .i64 l[j].k, .string l[j].n, .slice qe l[j].l.length de, .slice qv l[j].ats.length dv], .pointer (some ⟨x0, 0, none⟩)] W fun r W' => r = .returned (.bool (f l[j])) ∧ Low W W') :
    Calls Try.prog 84 #[v, .func (.func 78) #[] #[.pointer (some ⟨x0, 0, none⟩)]] w fun e w' => e = .returned (.int .i64 (firstI l f)) ∧ Low w w' := by
  obtain ⟨p, c, rfl, z1, z2⟩ := RowR.sl h
  have HA := Lib.hid h
  have HC := Lib.hid hc
  obtain ⟨r, hr⟩ : ∃ r, r = firstI l f := ⟨_, rfl⟩
  have CS := Lib.hid (show ∀ i (hi : i < l.length), f l[i] = true → (∀ j (hj : j < l.length), j < i → f l[j] = false) → (i : Int) = r from fun i hi h1 h2 => by rw [hr, firstI_some hi h1 h2])
  have CN := Lib.hid (show (∀ j (hj : j < l.length), f l[j] = false) → -1 = r from fun h2 => by rw [hr, firstI_none h2])
  rw [← hr]
  clear h hr hc
  go_enter Try.func84, Try.ntmps84
  go_wp2_with fail
  go_loopg [5, 8] l.length (fun gk vx vi wr => ∃ i : Nat, vi = .int .i64 (i : Int) ∧ i ≤ l.length ∧ l.length - i ≤ gk ∧ Hid (Low w wr) ∧ Hid (∀ j (hj : j < l.length), j < i → f l[j] = false))
  case atStart => exact ⟨0, rfl, Nat.zero_le _, Nat.le_refl _, Lib.hid (Low.refl _), Lib.hid fun j hj h => absurd h (Nat.not_lt_zero _)⟩
  case round =>
    obtain ⟨i, rfl, hi, hg, G, K⟩ := hrel
    by_cases hlt : i < l.length
    · have zl : (i : Int) < (l.length : Int) := by omega
      obtain ⟨b, o, qe, de, qv, dv, rfl, -, e0, e1, e2, e3, h1⟩ := RL.at (RL.low HA.out G.out) hlt
      have HF := Lib.hid (HC.out i hlt wr qe de qv dv G.out h1)
      obtain ⟨q, hq⟩ : ∃ q, q = f l[i] := ⟨_, rfl⟩
      rw [← hq] at HF
      have HQ := Lib.hid hq
      clear h1 hq
      go_wp2_with fail
      refine HF.out.mono ?_
      rintro e w' ⟨rfl, l1⟩
      have G2 := Lib.hid (G.out.trans l1)
      clear l1 HF
      cases q with
      | true =>
        have HQ2 := Lib.hid (CS.out i hlt HQ.out.symm K.out)
        go_wp2_with fail
        go_ret
        exact ⟨retI HQ2.out, G2.out⟩
      | false =>
        go_wp2_with fail
        go_roundg (l.length - (i + 1))
        case measure => omega
        case rel =>
          refine ⟨i + 1, by go_num, by omega, by omega, G2, Lib.hid fun j hj hji => ?_⟩
          rcases Nat.lt_succ_iff_lt_or_eq.1 hji with h | rfl
          · exact K.out j hj h
          · exact HQ.out.symm
    · have zl : ¬ (i : Int) < (l.length : Int) := by omega
      have HQ2 := Lib.hid (CN.out fun j hj => K.out j hj (by omega))
      go_wp2_with fail
      go_ret
      exact ⟨retI HQ2.out, G.out⟩
theorem conT_c (n : Nat) (l : List T) (f : T → Bool) (x0 : Nat) (w : World) (v : Value) (h : RL (fun _ => True) w n l v) (hc : ∀ j (hj : j < l.length) (W : World) (qe : Option Addr) (de : Nat) (qv : Option Addr) (dv : Nat), Low w W → RT (fun _ => True) W n l[j] (.slice qe l[j].l.length de) (.slice qv l[j].ats.length dv) → Calls Try.prog 78 #[.agg #[.int .i64 l[j].k, .string l[j].n, .slice qe l[j].l.length de, .slice qv l[j].ats.length dv], .pointer (some ⟨x0, 0, none⟩)] W fun r W' => r = .returned (.bool (f l[j])) ∧ Low W W') :
    Calls Try.prog 72 #[v, .func (.func 78) #[] #[.pointer (some ⟨x0, 0, none⟩)]] w fun e w' => e = .returned (.bool (l.any f)) ∧ Low w w' := by
  have HI := Lib.hid (idxT_c n l f x0 w v h hc)
  obtain ⟨p, c, rfl, z1, z2⟩ := RowR.sl h
  obtain ⟨r, hr⟩ : ∃ r, r = firstI l f := ⟨_, rfl⟩
  rw [← hr] at HI
  have HR := Lib.hid (show decide (0 ≤ r) = l.any f by rw [hr]; exact firstI_any l f)
  clear h hc hr
  go_enter Try.func72, Try.ntmps72
  go_wp2_with fail
  refine HI.out.mono ?_
  rintro e w' ⟨rfl, l1⟩
  go_wp2_with fail
  go_ret
  exact ⟨retB HR.out, l1⟩
set_option maxHeartbeats 1600000 in
theorem idxEt_c (n : Nat) (l : List Et) (f : Et → Bool) (x0 : Nat) (w : World) (v : Value) (h : EtsAt n w l v) (hc : ∀ j (hj : j < l.length) (W : World) (pi : Option Addr) (ci : Nat) (pa : Option Addr) (ca : Nat), Low w W → NsAt W l[j].ins (.slice pi l[j].ins.length ci) → RAs (fun _ => True) W n l[j].ats (.slice pa l[j].ats.length ca) → Calls Try.prog 36 #[.agg #[.string l[j].nm.s, .slice pi l[j].ins.length ci, .slice pa l[j].ats.length ca], .pointer (some ⟨x0, 0, none⟩)] W fun r W' => r = .returned (.bool (f l[j])) ∧ Low W W') :
    Calls Try.prog 35 #[v, .func (.func 36) #[] #[.pointer (some ⟨x0, 0, none⟩)]] w fun e w' => e = .returned (.int .i64 (firstI l f)) ∧ Low w w' := by
  obtain ⟨p, c, rfl, z1, z2⟩ := RowB.sl h
  have HA := Lib.hid h
  have HC := Lib.hid hc
  obtain ⟨r, hr⟩ : ∃ r, r = firstI l f := ⟨_, rfl⟩
  have CS := Lib.hid (show ∀ i (hi : i < l.length), f l[i] = true → (∀ j (hj : j < l.length), j < i → f l[j] = false) → (i : Int) = r from fun i hi h1 h2 => by rw [hr, firstI_some hi h1 h2])
  have CN := Lib.hid (show (∀ j (hj : j < l.length), f l[j] = false) → -1 = r from fun h2 => by rw [hr, firstI_none h2])
  rw [← hr]
  clear h hr hc
  go_enter Try.func35, Try.ntmps35
  go_wp2_with fail
  go_loopg [5, 8] l.length (fun gk vx vi wr => ∃ i : Nat, vi = .int .i64 (i : Int) ∧ i ≤ l.length ∧ l.length - i ≤ gk ∧ Hid (Low w wr) ∧ Hid (∀ j (hj : j < l.length), j < i → f l[j] = false))
  case atStart => exact ⟨0, rfl, Nat.zero_le _, Nat.le_refl _, Lib.hid (Low.refl _), Lib.hid fun j hj h => absurd h (Nat.not_lt_zero _)⟩
  case round =>
    obtain ⟨i, rfl, hi, hg, G, K⟩ := hrel
    by_cases hlt : i < l.length
    · have zl : (i : Int) < (l.length : Int) := by omega
      obtain ⟨b, o, pi, ci, pa, ca, rfl, e0, e1, e2, h1, h2, -, -, -, -⟩ := EtsAt.at (EtsAt.low HA.out G.out) hlt
      have HF := Lib.hid (HC.out i hlt wr pi ci pa ca G.out h1 h2)
      obtain ⟨q, hq⟩ : ∃ q, q = f l[i] := ⟨_, rfl⟩
      rw [← hq] at HF
      have HQ := Lib.hid hq
      clear h1 h2 hq
      go_wp2_with fail
      refine HF.out.mono ?_
      rintro e w' ⟨rfl, l1⟩
      have G2 := Lib.hid (G.out.trans l1)
      clear l1 HF
      cases q with
      | true =>
        have HQ2 := Lib.hid (CS.out i hlt HQ.out.symm K.out)
        go_wp2_with fail
        go_ret
        exact ⟨retI HQ2.out, G2.out⟩
      | false =>
        go_wp2_with fail
        go_roundg (l.length - (i + 1))
        case measure => omega
        case rel =>
          refine ⟨i + 1, by go_num, by omega, by omega, G2, Lib.hid fun j hj hji => ?_⟩
          rcases Nat.lt_succ_iff_lt_or_eq.1 hji with h | rfl
          · exact K.out j hj h
          · exact HQ.out.symm
    · have zl : ¬ (i : Int) < (l.length : Int) := by omega
      have HQ2 := Lib.hid (CN.out fun j hj => K.out j hj (by omega))
      go_wp2_with fail
      go_ret
      exact ⟨retI HQ2.out, G.out⟩
set_option maxHeartbeats 1600000 in
theorem idxAc_c (n : Nat) (l : List Ac) (f : Ac → Bool) (x0 : Nat) (w : World) (v : Value) (h : AcsAt n w l v) (hc : ∀ j (hj : j < l.length) (W : World) (pi : Option Addr) (ci : Nat) (pp : Option Addr) (cp : Nat) (pr : Option Addr) (cr : Nat) (pa : Option Addr) (ca : Nat), Low w W → NsAt W l[j].ins (.slice pi l[j].ins.length ci) → NsAt W l[j].ps (.slice pp l[j].ps.length cp) → NsAt W l[j].rs (.slice pr l[j].rs.length cr) → RAs (fun _ => True) W n l[j].ats (.slice pa l[j].ats.length ca) → Calls Try.prog 38 #[.agg #[.string l[j].nm.s, .slice pi l[j].ins.length ci, .slice pp l[j].ps.length cp, .slice pr l[j].rs.length cr, .slice pa l[j].ats.length ca], .pointer (some ⟨x0, 0, none⟩)] W fun r W' => r = .returned (.bool (f l[j])) ∧ Low W W') :
    Calls Try.prog 37 #[v, .func (.func 38) #[] #[.pointer (some ⟨x0, 0, none⟩)]] w fun e w' => e = .returned (.int .i64 (firstI l f)) ∧ Low w w' := by
  obtain ⟨p, c, rfl, z1, z2⟩ := RowB.sl h
  have HA := Lib.hid h
  have HC := Lib.hid hc
  obtain ⟨r, hr⟩ : ∃ r, r = firstI l f := ⟨_, rfl⟩
  have CS := Lib.hid (show ∀ i (hi : i < l.length), f l[i] = true → (∀ j (hj : j < l.length), j < i → f l[j] = false) → (i : Int) = r from fun i hi h1 h2 => by rw [hr, firstI_some hi h1 h2])
  have CN := Lib.hid (show (∀ j (hj : j < l.length), f l[j] = false) → -1 = r from fun h2 => by rw [hr, firstI_none h2])
  rw [← hr]
  clear h hr hc
  go_enter Try.func37, Try.ntmps37
  go_wp2_with fail
  go_loopg [5, 8] l.length (fun gk vx vi wr => ∃ i : Nat, vi = .int .i64 (i : Int) ∧ i ≤ l.length ∧ l.length - i ≤ gk ∧ Hid (Low w wr) ∧ Hid (∀ j (hj : j < l.length), j < i → f l[j] = false))
  case atStart => exact ⟨0, rfl, Nat.zero_le _, Nat.le_refl _, Lib.hid (Low.refl _), Lib.hid fun j hj h => absurd h (Nat.not_lt_zero _)⟩
  case round =>
    obtain ⟨i, rfl, hi, hg, G, K⟩ := hrel
    by_cases hlt : i < l.length
    · have zl : (i : Int) < (l.length : Int) := by omega
      obtain ⟨b, o, pi, ci, pp, cp, pr, cr, pa, ca, rfl, e0, e1, e2, e3, e4, h1, h2, h3, h4, -, -, -, -⟩ := AcsAt.at (AcsAt.low HA.out G.out) hlt
      have HF := Lib.hid (HC.out i hlt wr pi ci pp cp pr cr pa ca G.out h1 h2 h3 h4)
      obtain ⟨q, hq⟩ : ∃ q, q = f l[i] := ⟨_, rfl⟩
      rw [← hq] at HF
      have HQ := Lib.hid hq
      clear h1 h2 h3 h4 hq
      go_wp2_with fail
      refine HF.out.mono ?_
      rintro e w' ⟨rfl, l1⟩
      have G2 := Lib.hid (G.out.trans l1)
      clear l1 HF
      cases q with
      | true =>
        have HQ2 := Lib.hid (CS.out i hlt HQ.out.symm K.out)
        go_wp2_with fail
        go_ret
        exact ⟨retI HQ2.out, G2.out⟩
      | false =>
        go_wp2_with fail
        go_roundg (l.length - (i + 1))
        case measure => omega
        case rel =>
          refine ⟨i + 1, by go_num, by omega, by omega, G2, Lib.hid fun j hj hji => ?_⟩
          rcases Nat.lt_succ_iff_lt_or_eq.1 hji with h | rfl
          · exact K.out j hj h
          · exact HQ.out.symm
    · have zl : ¬ (i : Int) < (l.length : Int) := by omega
      have HQ2 := Lib.hid (CN.out fun j hj => K.out j hj (by omega))
      go_wp2_with fail
      go_ret
      exact ⟨retI HQ2.out, G.out⟩
end Go.Proofs.Ytijjbfdbhfjfmaa
