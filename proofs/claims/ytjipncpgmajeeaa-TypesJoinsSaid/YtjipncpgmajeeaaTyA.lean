/- The reference's Attr and Names, and its Check. Condition: as said. -/
import Derived.Test.YtjipncpgmajeeaaTyX
namespace Go.Proofs.Ytjipncpgmajeeaa
open Go.RowKit
/-- Where a name is first; -1: nowhere. -/
def atI (l : List At) (s : ByteArray) : Int := match l.findIdx? (fun x => decide (an x = s)) with | some i => (i : Int) | none => -1
theorem atI_some {l : List At} {s : ByteArray} {i : Nat} (hi : i < l.length) (h : an l[i] = s) (h2 : ∀ j (hj : j < l.length), j < i → an l[j] ≠ s) : atI l s = (i : Int) := by
  unfold atI
  have : l.findIdx? (fun x => decide (an x = s)) = some i := by
    rw [List.findIdx?_eq_some_iff_getElem]
    exact ⟨hi, by simpa using h, fun j hj => by simpa using h2 j (by omega) hj⟩
  rw [this]
theorem atI_none {l : List At} {s : ByteArray} (h2 : ∀ j (hj : j < l.length), an l[j] ≠ s) : atI l s = -1 := by
  unfold atI
  have : l.findIdx? (fun x => decide (an x = s)) = none := by
    rw [List.findIdx?_eq_none_iff]
    intro x hx
    obtain ⟨j, hj, rfl⟩ := List.getElem_of_mem hx
    simpa using h2 j hj
  rw [this]
theorem atI_cases (l : List At) (s : ByteArray) : (∃ i, ∃ hi : i < l.length, atI l s = (i : Int) ∧ an l[i] = s) ∨ atI l s = -1 := by
  unfold atI
  cases h : l.findIdx? (fun x => decide (an x = s)) with
  | none => exact .inr rfl
  | some i =>
    rw [List.findIdx?_eq_some_iff_getElem] at h
    obtain ⟨hi, h, -⟩ := h
    exact .inl ⟨i, hi, rfl, by simpa using h⟩
set_option maxHeartbeats 1600000 in
theorem rAttr_c {A : Nat → Prop} {n : Nat} (l : List At) (s : ByteArray) (w : World) (v : Value) (h : RAs A w n l v) : Calls Try.prog 12 #[v, .string s] w fun e w' => e = .returned (.int .i64 (atI l s)) ∧ Low w w' := by
  obtain ⟨p, c, rfl, z1, z2⟩ := RowR.sl h
  have HA := Lib.hid h
  obtain ⟨r, hr⟩ : ∃ r, r = atI l s := ⟨_, rfl⟩
  have CS := Lib.hid (show ∀ i (hi : i < l.length), an l[i] = s → (∀ j (hj : j < l.length), j < i → an l[j] ≠ s) → (i : Int) = r from fun i hi h1 h2 => by rw [hr, atI_some hi h1 h2])
  have CN := Lib.hid (show (∀ j (hj : j < l.length), an l[j] ≠ s) → -1 = r from fun h2 => by rw [hr, atI_none h2])
  rw [← hr]
  clear h hr
  go_enter Try.func12, Try.ntmps12
  go_wp2_with fail
  go_loopg [5] l.length (fun gk vi wr => ∃ i : Nat, vi = .int .i64 (i : Int) ∧ i ≤ l.length ∧ l.length - i ≤ gk ∧ Hid (Low w wr) ∧ Hid (∀ j (hj : j < l.length), j < i → an l[j] ≠ s))
  case atStart => exact ⟨0, rfl, Nat.zero_le _, Nat.le_refl _, Lib.hid (Low.refl _), Lib.hid fun j hj h => absurd h (Nat.not_lt_zero _)⟩
  case round =>
    obtain ⟨i, rfl, hi, hg, G, K⟩ := hrel
    by_cases hlt : i < l.length
    · have zl : (i : Int) < (l.length : Int) := by omega
      obtain ⟨b, o, qe, de, qv, dv, rfl, -, e0, e1, e2, e3, e4, e5, es, hx⟩ := RAs.at (RAs.low HA.out G.out) hlt
      clear hx
      by_cases he : an l[i] = s
      · have HE := Lib.hid he
        have b1 : ((an l[i]).toList == s.toList) = true := by rw [he]; simp
        clear he
        go_wp2_with fail
        all_goals first
          | (go_ret
             exact ⟨retI (CS.out i hlt HE.out K.out), G.out⟩)
          | (exfalso; simp_all; done)
      · have HE := Lib.hid he
        have b2 : ¬ (an l[i]).toList = s.toList := fun h => he (tl_inj.1 h)
        have b1 : ((an l[i]).toList == s.toList) = false := by simpa using b2
        clear he
        go_wp2_with fail
        go_roundg (l.length - (i + 1))
        case measure => omega
        case rel =>
          refine ⟨i + 1, by go_num, by omega, by omega, G, Lib.hid fun j hj hji => ?_⟩
          rcases Nat.lt_succ_iff_lt_or_eq.1 hji with h | rfl
          · exact K.out j hj h
          · exact HE.out
    · have zl : ¬ (i : Int) < (l.length : Int) := by omega
      go_wp2_with fail
      go_ret
      exact ⟨retI (CN.out fun j hj => K.out j hj (by omega)), G.out⟩
def namesB (l m : List At) : Bool := decide (l.map an = m.map an)
theorem namesB_no {l m : List At} {j : Nat} (h1 : j < l.length) (h2 : j < m.length) (h : an l[j] ≠ an m[j]) : namesB l m = false := decide_eq_false fun e => h (by
  have := congrArg (fun x => x[j]?) e
  simpa [h1, h2] using this)
theorem namesB_len {l m : List At} (h : l.length ≠ m.length) : namesB l m = false := decide_eq_false fun e => h (by simpa using congrArg List.length e)
theorem namesB_yes {l m : List At} (h : l.length = m.length) (h2 : ∀ j (h1 : j < l.length) (h2 : j < m.length), an l[j] = an m[j]) : namesB l m = true := decide_eq_true (List.ext_getElem (by simpa using h) fun j h3 h4 => by
  simp only [List.getElem_map]; exact h2 j (by simpa using h3) (by simpa using h4))
set_option maxHeartbeats 1600000 in
theorem rNames_c {A A' : Nat → Prop} {n n' : Nat} (l m : List At) (w : World) (v u : Value) (h : RAs A w n l v) (h' : RAs A' w n' m u) : Calls Try.prog 30 #[v, u] w fun e w' => e = .returned (.bool (namesB l m)) ∧ Low w w' := by
  obtain ⟨p, c, rfl, z1, z2⟩ := RowR.sl h
  obtain ⟨p', c', rfl, z3, z4⟩ := RowR.sl h'
  have HA := Lib.hid h
  have HB := Lib.hid h'
  obtain ⟨r, hr⟩ : ∃ r, r = namesB l m := ⟨_, rfl⟩
  have CL := Lib.hid (show l.length ≠ m.length → false = r from fun h => by rw [hr, namesB_len h])
  have CN := Lib.hid (show ∀ j (h1 : j < l.length) (h2 : j < m.length), an l[j] ≠ an m[j] → false = r from fun j h1 h2 h => by rw [hr, namesB_no h1 h2 h])
  have CY := Lib.hid (show l.length = m.length → (∀ j (h1 : j < l.length) (h2 : j < m.length), an l[j] = an m[j]) → true = r from fun h1 h2 => by rw [hr, namesB_yes h1 h2])
  rw [← hr]
  clear h h' hr
  by_cases hlen : l.length = m.length
  case neg =>
    have HQ := Lib.hid (CL.out hlen)
    have bl : ((l.length : Int) == (m.length : Int)) = false := by simp; omega
    clear hlen
    go_enter Try.func30, Try.ntmps30
    go_wp2_with fail
    go_ret
    exact ⟨retB HQ.out, Low.refl _⟩
  have HLEN := Lib.hid hlen
  rw [← hlen]
  clear hlen
  go_enter Try.func30, Try.ntmps30
  go_wp2_with fail
  go_loopg [5] l.length (fun gk vi wr => ∃ i : Nat, vi = .int .i64 (i : Int) ∧ i ≤ l.length ∧ l.length - i ≤ gk ∧ Hid (Low w wr) ∧ Hid (∀ j (h1 : j < l.length) (h2 : j < m.length), j < i → an l[j] = an m[j]))
  case atStart => exact ⟨0, rfl, Nat.zero_le _, Nat.le_refl _, Lib.hid (Low.refl _), Lib.hid fun j h1 h2 h => absurd h (Nat.not_lt_zero _)⟩
  case round =>
    obtain ⟨i, rfl, hi, hg, G, K⟩ := hrel
    by_cases hlt : i < l.length
    · have zl : (i : Int) < (l.length : Int) := by omega
      have hlt' : i < m.length := by have := HLEN.out; omega
      obtain ⟨b, o, qe, de, qv, dv, rfl, -, e0, -, -, -, -, -, -, -⟩ := RAs.at (RAs.low HA.out G.out) hlt
      obtain ⟨b', o', qe', de', qv', dv', rfl, -, d0, -, -, -, -, -, -, -⟩ := RAs.at (RAs.low HB.out G.out) hlt'
      by_cases he : an l[i] = an m[i]
      · rw [← he] at d0
        have HE := Lib.hid he
        clear he
        go_wp2_with fail
        go_quiet (fail)
        go_wp2_with fail
        go_roundg (l.length - (i + 1))
        case measure => omega
        case rel =>
          refine ⟨i + 1, by go_num, by omega, by omega, Lib.hid (low_drewN G.out _), Lib.hid fun j h1 h2 hji => ?_⟩
          rcases Nat.lt_succ_iff_lt_or_eq.1 hji with h | rfl
          · exact K.out j h1 h2 h
          · exact HE.out
      · have HQ := Lib.hid (CN.out i hlt hlt' he)
        have he2 : ¬ (an l[i]).toList = (an m[i]).toList := fun h => he (tl_inj.1 h)
        clear he
        go_wp2_with fail
        go_quiet (fail)
        go_wp2_with fail
        all_goals first
          | (go_ret
             exact ⟨retB HQ.out, low_drewN G.out _⟩)
          | (exfalso; simp_all; done)
    · have zl : ¬ (i : Int) < (l.length : Int) := by omega
      have HQ := Lib.hid (CY.out HLEN.out fun j h1 h2 => K.out j h1 h2 (by omega))
      go_wp2_with fail
      go_ret
      exact ⟨retB HQ.out, G.out⟩
end Go.Proofs.Ytjipncpgmajeeaa
