/- The reference's Texts; what may be. Condition: as said. The reference's Attr and Names, and its Check. Condition: as said. A value's being of a type, said by numbers of rows as the loops of the reference go: of sets, of records. No condition. The reference's Whole tells whether two values are the same. No condition. The reference's Whole tells whether two values are the same. No condition. A record's attribute of a name, as the program finds it and as the reference does. No condition. -/
import Derived.Test.YtnenjgngahipdaaGreatZg09
import Derived.BigQuiet
import Derived.Test.YtnenjgngahipdaaGreatZg06
import Derived.Lib.SlicesS
set_option linter.unusedVariables false
set_option linter.unusedSimpArgs false
set_option linter.unnecessarySimpa false
namespace Go.Proofs.YtnenjgngahipdaaGreat
open Go.RowKit
def cmpI (a b : Int) : Int := Lib.compareInt a b
theorem rInts_c (a b : Int) (w : World) : Calls Tryz.prog 88 #[.int .i64 a, .int .i64 b] w fun e w' => e = .returned (.int .i64 (cmpI a b)) ∧ w = w' := by
  by_cases h1 : a < b
  · have HR := Lib.hid (show cmpI a b = -1 by unfold cmpI Lib.compareInt; rw [if_pos h1])
    go_enter Tryz.func88, Tryz.ntmps88
    go_wp2_with fail
    go_ret
    exact ⟨retI HR.out.symm, rfl⟩
  · by_cases h2 : b < a
    · have HR := Lib.hid (show cmpI a b = 1 by unfold cmpI Lib.compareInt; rw [if_neg h1, if_pos h2])
      go_enter Tryz.func88, Tryz.ntmps88
      go_wp2_with fail
      go_ret
      exact ⟨retI HR.out.symm, rfl⟩
    · have HR := Lib.hid (show cmpI a b = 0 by unfold cmpI Lib.compareInt; rw [if_neg h1, if_neg h2])
      go_enter Tryz.func88, Tryz.ntmps88
      go_wp2_with fail
      go_ret
      exact ⟨retI HR.out.symm, rfl⟩
theorem cb_cons (x y : UInt8) (l m : List UInt8) : Lib.compareBytes (x :: l) (y :: m) = if x < y then -1 else if y < x then 1 else Lib.compareBytes l m := rfl
theorem cb_end {l m : List UInt8} (h : l = [] ∨ m = []) : Lib.compareBytes l m = cmpI l.length m.length := by
  unfold cmpI Lib.compareInt
  cases l <;> cases m <;> simp [Lib.compareBytes] at * <;> omega
theorem u8_lt {x y : UInt8} : x < y ↔ (x.toNat : Int) < (y.toNat : Int) := by rw [UInt8.lt_iff_toNat_lt]; omega
theorem drop_cons {α : Type} {l : List α} {i : Nat} (h : i < l.length) : l.drop i = l[i] :: l.drop (i + 1) := List.drop_eq_getElem_cons h
set_option maxHeartbeats 1600000 in
theorem rTexts_c (s t : ByteArray) (hs : s.size ≤ 9223372036854775807) (_ht : t.size ≤ 9223372036854775807) (w : World) : Calls Tryz.prog 57 #[.string s, .string t] w fun e w' => e = .returned (.int .i64 (cmpB s t)) ∧ Low w w' := by
  obtain ⟨r, hr⟩ : ∃ r, r = cmpB s t := ⟨_, rfl⟩
  have HR := Lib.hid hr
  rw [← hr]
  clear hr
  go_enter Tryz.func57, Tryz.ntmps57
  go_wp2_with fail
  go_loopg [5] s.size (fun gk vi wr => ∃ i : Nat, vi = .int .i64 (i : Int) ∧ i ≤ s.size ∧ i ≤ t.size ∧ s.size - i ≤ gk ∧ Hid (Low w wr) ∧ Hid (r = Lib.compareBytes (s.data.toList.drop i) (t.data.toList.drop i)))
  case atStart => exact ⟨0, rfl, Nat.zero_le _, Nat.zero_le _, Nat.le_refl _, Lib.hid (Low.refl _), HR⟩
  case round =>
    obtain ⟨i, rfl, hi, hi', hg, G, K⟩ := hrel
    by_cases h1 : i < s.size
    · have z1 : (i : Int) < (s.size : Int) := by omega
      by_cases h2 : i < t.size
      · have z2 : (i : Int) < (t.size : Int) := by omega
        have hst : r = if s[i] < t[i] then -1 else if t[i] < s[i] then 1 else Lib.compareBytes (s.data.toList.drop (i + 1)) (t.data.toList.drop (i + 1)) := by
          have h := K.out
          rw [drop_cons (show i < s.data.toList.length by simpa using h1), drop_cons (show i < t.data.toList.length by simpa using h2), cb_cons] at h
          exact h
        rcases Int.lt_trichotomy (s[i].toNat : Int) (t[i].toNat : Int) with hl | hl | hl
        · have hr : r = -1 := by rw [hst, if_pos (u8_lt.2 hl)]
          have HQ := Lib.hid hr
          clear hst hr
          have n1 : ¬ (s[i].toNat : Int) = (t[i].toNat : Int) := by omega
          go_wp2_with fail
          go_quiet (fail)
          go_wp2_with fail
          go_quiet (fail)
          go_wp2_with fail
          go_ret
          exact ⟨retI HQ.out.symm, low_drewN (low_drewN G.out _) _⟩
        · have he : s[i] = t[i] := UInt8.toNat_inj.1 (by omega)
          have hr : r = Lib.compareBytes (s.data.toList.drop (i + 1)) (t.data.toList.drop (i + 1)) := by
            rw [hst, he, if_neg (UInt8.lt_irrefl _), if_neg (UInt8.lt_irrefl _)]
          have HQ : Hid (r = Lib.compareBytes (s.data.toList.drop (i + 1)) (t.data.toList.drop (i + 1))) := hr
          clear hst hr he
          go_wp2_with fail
          go_quiet (fail)
          go_wp2_with fail
          go_roundg (s.size - (i + 1))
          case measure => omega
          case rel => exact ⟨i + 1, by go_num, by omega, by omega, by omega, Lib.hid (low_drewN G.out _), HQ⟩
        · have hr : r = 1 := by rw [hst, if_neg (by rw [u8_lt]; omega), if_pos (u8_lt.2 hl)]
          have HQ := Lib.hid hr
          clear hst hr
          have n1 : ¬ (s[i].toNat : Int) = (t[i].toNat : Int) := by omega
          have n2 : ¬ (s[i].toNat : Int) < (t[i].toNat : Int) := by omega
          go_wp2_with fail
          go_quiet (fail)
          go_wp2_with fail
          go_quiet (fail)
          go_wp2_with fail
          go_ret
          exact ⟨retI HQ.out.symm, low_drewN (low_drewN G.out _) _⟩
      · have z2 : ¬ (i : Int) < (t.size : Int) := by omega
        have hr : r = cmpI s.size t.size := by
          rw [K.out, cb_end (.inr (List.drop_eq_nil_of_le (by simp; omega)))]
          simp [cmpI, Lib.compareInt]
          split <;> split <;> omega
        have HQ := Lib.hid hr
        clear hr
        go_wp2_with fail
        refine (rInts_c _ _ _).mono ?_
        rintro e w' ⟨rfl, rfl⟩
        go_wp2_with fail
        go_ret
        exact ⟨retI HQ.out.symm, G.out⟩
    · have z1 : ¬ (i : Int) < (s.size : Int) := by omega
      have hr : r = cmpI s.size t.size := by
        rw [K.out, cb_end (.inl (List.drop_eq_nil_of_le (by simp; omega)))]
        simp [cmpI, Lib.compareInt]
        split <;> split <;> omega
      have HQ := Lib.hid hr
      clear hr
      go_wp2_with fail
      refine (rInts_c _ _ _).mono ?_
      rintro e w' ⟨rfl, rfl⟩
      go_wp2_with fail
      go_ret
      exact ⟨retI HQ.out.symm, G.out⟩
def MayC (F : Nat) (n : Nat) : Prop := ∀ (A : Nat → Prop) (t : T) (w : World) (e v : Value), RT A w n t e v → Calls Tryz.prog F #[tv t e v] w (fun e w' => e = .returned (.bool (mayB n t)) ∧ Low w w')
theorem may_head {n : Nat} {t : T} (h : mayH t = false) : mayB (n + 1) t = false := by rw [mayB, h]; rfl
theorem may_in {n : Nat} {t x : T} (hx : x ∈ t.ins) (h : mayB n x = false) : mayB (n + 1) t = false := by
  rw [Bool.eq_false_iff]; intro k; rw [(mayB_succ.1 k).2.2 x hx] at h; simp at h
theorem may_rise {n : Nat} {t : T} {j : Nat} (hj : j + 1 < t.ats.length) (h : ¬ cmpB (an (t.ats[j]'(by omega))) (an t.ats[j + 1]) < 0) : mayB (n + 1) t = false := by
  rw [Bool.eq_false_iff]; intro k
  have := (rises_iff _).1 (mayB_succ.1 k).2.1 j (by simpa using hj)
  simp only [List.getElem_map] at this
  exact h this
theorem may_ok {n : Nat} {t : T} (h : mayH t = true) (h1 : ∀ j (hj : j < t.l.length), mayB n t.l[j] = true) (h2 : ∀ j (hj : j < t.ats.length), mayB n (aty t.ats[j]) = true)
    (h3 : ∀ j (hj : j + 1 < t.ats.length), cmpB (an (t.ats[j]'(by omega))) (an t.ats[j + 1]) < 0) : mayB (n + 1) t = true := by
  refine mayB_succ.2 ⟨h, (rises_iff _).2 fun i hi => ?_, fun x hx => ?_⟩
  · simp only [List.getElem_map]; exact h3 i (by simpa using hi)
  · rcases List.mem_append.1 hx with hx | hx
    · obtain ⟨j, hj, rfl⟩ := List.getElem_of_mem hx; exact h1 j hj
    · obtain ⟨y, hy, rfl⟩ := List.mem_map.1 hx
      obtain ⟨j, hj, rfl⟩ := List.getElem_of_mem hy; exact h2 j hj
end Go.Proofs.YtnenjgngahipdaaGreat
namespace Go.Proofs.YtnenjgngahipdaaGreat
open Go.RowKit
/-- Where a name is first; -1: nowhere. -/
def atI (l : List At) (s : ByteArray) : Int := match l.findIdx? (fun x => decide (an x = s)) with | some i => (i : Int) | none => -1
theorem atI_some {l : List At} {s : ByteArray} {i : Nat} (hi : i < l.length) (h : an l[i] = s) (h2 : ∀ j (hj : j < l.length), j < i → an l[j] ≠ s) : atI l s = (i : Int) := by
  unfold atI
  have : l.findIdx? (fun x => decide (an x = s)) = some i := by
    rw [List.findIdx?_eq_some_iff_getElem]
    exact ⟨hi, by simpa using h, fun j hj => by simpa using h2 j (by omega) hj⟩
  rw [this]
theorem atI_none {l : List At} {s : ByteArray} (h2 : ∀ j (hj : j < l.length), an l[j] ≠ s) : atI l s = -1 := by
  unfold atI
  have : l.findIdx? (fun x => decide (an x = s)) = none := by
    rw [List.findIdx?_eq_none_iff]
    intro x hx
    obtain ⟨j, hj, rfl⟩ := List.getElem_of_mem hx
    simpa using h2 j hj
  rw [this]
theorem atI_cases (l : List At) (s : ByteArray) : (∃ i, ∃ hi : i < l.length, atI l s = (i : Int) ∧ an l[i] = s) ∨ atI l s = -1 := by
  unfold atI
  cases h : l.findIdx? (fun x => decide (an x = s)) with
  | none => exact .inr rfl
  | some i =>
    rw [List.findIdx?_eq_some_iff_getElem] at h
    obtain ⟨hi, h, -⟩ := h
    exact .inl ⟨i, hi, rfl, by simpa using h⟩
set_option maxHeartbeats 1600000 in
theorem rAttr_c {A : Nat → Prop} {n : Nat} (l : List At) (s : ByteArray) (w : World) (v : Value) (h : RAs A w n l v) : Calls Tryz.prog 34 #[v, .string s] w fun e w' => e = .returned (.int .i64 (atI l s)) ∧ Low w w' := by
  obtain ⟨p, c, rfl, z1, z2⟩ := RowR.sl h
  have HA := Lib.hid h
  obtain ⟨r, hr⟩ : ∃ r, r = atI l s := ⟨_, rfl⟩
  have CS := Lib.hid (show ∀ i (hi : i < l.length), an l[i] = s → (∀ j (hj : j < l.length), j < i → an l[j] ≠ s) → (i : Int) = r from fun i hi h1 h2 => by rw [hr, atI_some hi h1 h2])
  have CN := Lib.hid (show (∀ j (hj : j < l.length), an l[j] ≠ s) → -1 = r from fun h2 => by rw [hr, atI_none h2])
  rw [← hr]
  clear h hr
  go_enter Tryz.func34, Tryz.ntmps34
  go_wp2_with fail
  go_loopg [5] l.length (fun gk vi wr => ∃ i : Nat, vi = .int .i64 (i : Int) ∧ i ≤ l.length ∧ l.length - i ≤ gk ∧ Hid (Low w wr) ∧ Hid (∀ j (hj : j < l.length), j < i → an l[j] ≠ s))
  case atStart => exact ⟨0, rfl, Nat.zero_le _, Nat.le_refl _, Lib.hid (Low.refl _), Lib.hid fun j hj h => absurd h (Nat.not_lt_zero _)⟩
  case round =>
    obtain ⟨i, rfl, hi, hg, G, K⟩ := hrel
    by_cases hlt : i < l.length
    · have zl : (i : Int) < (l.length : Int) := by omega
      obtain ⟨b, o, qe, de, qv, dv, rfl, -, e0, e1, e2, e3, e4, e5, es, hx⟩ := RAs.at (RAs.low HA.out G.out) hlt
      clear hx
      by_cases he : an l[i] = s
      · have HE := Lib.hid he
        have b1 : ((an l[i]).toList == s.toList) = true := by rw [he]; simp
        clear he
        go_wp2_with fail
        all_goals first
          | (go_ret
             exact ⟨retI (CS.out i hlt HE.out K.out), G.out⟩)
          | (exfalso; simp_all; done)
      · have HE := Lib.hid he
        have b2 : ¬ (an l[i]).toList = s.toList := fun h => he (tl_inj.1 h)
        have b1 : ((an l[i]).toList == s.toList) = false := by simpa using b2
        clear he
        go_wp2_with fail
        go_roundg (l.length - (i + 1))
        case measure => omega
        case rel =>
          refine ⟨i + 1, by go_num, by omega, by omega, G, Lib.hid fun j hj hji => ?_⟩
          rcases Nat.lt_succ_iff_lt_or_eq.1 hji with h | rfl
          · exact K.out j hj h
          · exact HE.out
    · have zl : ¬ (i : Int) < (l.length : Int) := by omega
      go_wp2_with fail
      go_ret
      exact ⟨retI (CN.out fun j hj => K.out j hj (by omega)), G.out⟩
def namesB (l m : List At) : Bool := decide (l.map an = m.map an)
theorem namesB_no {l m : List At} {j : Nat} (h1 : j < l.length) (h2 : j < m.length) (h : an l[j] ≠ an m[j]) : namesB l m = false := decide_eq_false fun e => h (by
  have := congrArg (fun x => x[j]?) e
  simpa [h1, h2] using this)
theorem namesB_len {l m : List At} (h : l.length ≠ m.length) : namesB l m = false := decide_eq_false fun e => h (by simpa using congrArg List.length e)
theorem namesB_yes {l m : List At} (h : l.length = m.length) (h2 : ∀ j (h1 : j < l.length) (h2 : j < m.length), an l[j] = an m[j]) : namesB l m = true := decide_eq_true (List.ext_getElem (by simpa using h) fun j h3 h4 => by
  simp only [List.getElem_map]; exact h2 j (by simpa using h3) (by simpa using h4))
set_option maxHeartbeats 1600000 in
theorem rNames_c {A A' : Nat → Prop} {n n' : Nat} (l m : List At) (w : World) (v u : Value) (h : RAs A w n l v) (h' : RAs A' w n' m u) : Calls Tryz.prog 33 #[v, u] w fun e w' => e = .returned (.bool (namesB l m)) ∧ Low w w' := by
  obtain ⟨p, c, rfl, z1, z2⟩ := RowR.sl h
  obtain ⟨p', c', rfl, z3, z4⟩ := RowR.sl h'
  have HA := Lib.hid h
  have HB := Lib.hid h'
  obtain ⟨r, hr⟩ : ∃ r, r = namesB l m := ⟨_, rfl⟩
  have CL := Lib.hid (show l.length ≠ m.length → false = r from fun h => by rw [hr, namesB_len h])
  have CN := Lib.hid (show ∀ j (h1 : j < l.length) (h2 : j < m.length), an l[j] ≠ an m[j] → false = r from fun j h1 h2 h => by rw [hr, namesB_no h1 h2 h])
  have CY := Lib.hid (show l.length = m.length → (∀ j (h1 : j < l.length) (h2 : j < m.length), an l[j] = an m[j]) → true = r from fun h1 h2 => by rw [hr, namesB_yes h1 h2])
  rw [← hr]
  clear h h' hr
  by_cases hlen : l.length = m.length
  case neg =>
    have HQ := Lib.hid (CL.out hlen)
    have bl : ((l.length : Int) == (m.length : Int)) = false := by simp; omega
    clear hlen
    go_enter Tryz.func33, Tryz.ntmps33
    go_wp2_with fail
    go_ret
    exact ⟨retB HQ.out, Low.refl _⟩
  have HLEN := Lib.hid hlen
  rw [← hlen]
  clear hlen
  go_enter Tryz.func33, Tryz.ntmps33
  go_wp2_with fail
  go_loopg [5] l.length (fun gk vi wr => ∃ i : Nat, vi = .int .i64 (i : Int) ∧ i ≤ l.length ∧ l.length - i ≤ gk ∧ Hid (Low w wr) ∧ Hid (∀ j (h1 : j < l.length) (h2 : j < m.length), j < i → an l[j] = an m[j]))
  case atStart => exact ⟨0, rfl, Nat.zero_le _, Nat.le_refl _, Lib.hid (Low.refl _), Lib.hid fun j h1 h2 h => absurd h (Nat.not_lt_zero _)⟩
  case round =>
    obtain ⟨i, rfl, hi, hg, G, K⟩ := hrel
    by_cases hlt : i < l.length
    · have zl : (i : Int) < (l.length : Int) := by omega
      have hlt' : i < m.length := by have := HLEN.out; omega
      obtain ⟨b, o, qe, de, qv, dv, rfl, -, e0, -, -, -, -, -, -, -⟩ := RAs.at (RAs.low HA.out G.out) hlt
      obtain ⟨b', o', qe', de', qv', dv', rfl, -, d0, -, -, -, -, -, -, -⟩ := RAs.at (RAs.low HB.out G.out) hlt'
      by_cases he : an l[i] = an m[i]
      · rw [← he] at d0
        have HE := Lib.hid he
        clear he
        go_wp2_with fail
        go_quiet (fail)
        go_wp2_with fail
        go_roundg (l.length - (i + 1))
        case measure => omega
        case rel =>
          refine ⟨i + 1, by go_num, by omega, by omega, Lib.hid (low_drewN G.out _), Lib.hid fun j h1 h2 hji => ?_⟩
          rcases Nat.lt_succ_iff_lt_or_eq.1 hji with h | rfl
          · exact K.out j h1 h2 h
          · exact HE.out
      · have HQ := Lib.hid (CN.out i hlt hlt' he)
        have he2 : ¬ (an l[i]).toList = (an m[i]).toList := fun h => he (tl_inj.1 h)
        clear he
        go_wp2_with fail
        go_quiet (fail)
        go_wp2_with fail
        all_goals first
          | (go_ret
             exact ⟨retB HQ.out, low_drewN G.out _⟩)
          | (exfalso; simp_all; done)
    · have zl : ¬ (i : Int) < (l.length : Int) := by omega
      have HQ := Lib.hid (CY.out HLEN.out fun j h1 h2 => K.out j h1 h2 (by omega))
      go_wp2_with fail
      go_ret
      exact ⟨retB HQ.out, G.out⟩
end Go.Proofs.YtnenjgngahipdaaGreat
namespace Go.Proofs.YtnenjgngahipdaaGreat
open Go.RowKit
set_option linter.unusedVariables false
theorem gtAt_i : ∀ (l : List At) (s : ByteArray), (atI l s = -1 ∧ gtAt l s = none) ∨ ∃ i, ∃ hi : i < l.length, atI l s = (i : Int) ∧ gtAt l s = some l[i]
  | [], s => .inl ⟨rfl, rfl⟩
  | x :: l, s => by
    unfold atI
    rw [List.findIdx?_cons, gtAt]
    by_cases he : an x = s
    · rw [if_pos he, if_pos (by simpa using he)]
      exact .inr ⟨0, by simp, rfl, rfl⟩
    · rw [if_neg he, if_neg (by simpa using he)]
      rcases gtAt_i l s with ⟨h1, h2⟩ | ⟨i, hi, h1, h2⟩
      · unfold atI at h1
        cases h : l.findIdx? (fun x => decide (an x = s)) with
        | none => exact .inl ⟨rfl, h2⟩
        | some j => rw [h] at h1; exact absurd h1 (by show ¬ (j : Int) = -1; omega)
      · unfold atI at h1
        cases h : l.findIdx? (fun x => decide (an x = s)) with
        | none => rw [h] at h1; exact absurd h1 (by show ¬ (-1 : Int) = (i : Int); omega)
        | some j =>
          rw [h] at h1
          have : j = i := by
            have h1 : (j : Int) = (i : Int) := h1
            omega
          subst this
          exact .inr ⟨j + 1, by simpa using hi, rfl, by simpa using h2⟩
/-- The kind that a value of a type of a kind has. -/
def kV (k : Int) : Int := if k = 1 ∨ k = 2 ∨ k = 3 then 1 else if k = 4 then 2 else if k = 5 then 3 else if k = 6 then 4 else if k = 7 then 5 else if k = 8 then 6 else 0
/-- The wrong kind: of no type. -/
theorem isV_kind {n : Nat} {v : V} {t : T} (h : t.k < 1 ∨ 8 < t.k ∨ v.h.k ≠ kV t.k) : isV (n + 1) v t = false := by
  rw [isV]
  by_cases h1 : t.k = 1
  · rw [if_pos h1]; rw [h1] at h; simp [kV] at h; simp [h]
  rw [if_neg h1]
  by_cases h2 : t.k = 2
  · rw [if_pos h2]; rw [h2] at h; simp [kV] at h; simp [h]
  rw [if_neg h2]
  by_cases h3 : t.k = 3
  · rw [if_pos h3]; rw [h3] at h; simp [kV] at h; simp [h]
  rw [if_neg h3]
  by_cases h4 : t.k = 4
  · rw [if_pos h4]; rw [h4] at h; simp [kV] at h; simp [h]
  rw [if_neg h4]
  by_cases h5 : t.k = 5
  · rw [if_pos h5]; rw [h5] at h; simp [kV] at h; simp [h]
  rw [if_neg h5]
  by_cases h6 : t.k = 6
  · rw [if_pos h6]; rw [h6] at h; simp [kV] at h; simp [h]
  rw [if_neg h6]
  by_cases h7 : t.k = 7
  · rw [if_pos h7]; rw [h7] at h; simp [kV] at h; simp [h]
  rw [if_neg h7]
  by_cases h8 : t.k = 8
  · rw [if_pos h8]; rw [h8] at h; simp [kV] at h; simp [h]
  rw [if_neg h8]
theorem isV_set {n : Nat} {v : V} {t : T} (hk : t.k = 7) (hv : v.h.k = 5) : isV (n + 1) v t = v.l.all fun x => isV n x t.hd := by
  rw [isV]; simp [hk, hv]
theorem isV_rec {n : Nat} {v : V} {t : T} (hk : t.k = 8) (hv : v.h.k = 6) : isV (n + 1) v t = (((v.ns.zip v.l).all fun p => match gtAt t.ats p.1 with | none => false | some x => isV n p.2 (aty x)) && t.ats.all fun x => ao x || v.ns.any fun s => decide (s = an x)) := by
  rw [isV, hk, hv]; rfl
/-- The record is of the type: both loops come to their ends. -/
theorem isV_rec_yes {n : Nat} {v : V} {t : T} (hk : t.k = 8) (hv : v.h.k = 6) (hl : v.ns.length ≤ v.l.length)
    (h1 : ∀ i (hi : i < v.ns.length), ∃ k, ∃ hk : k < t.ats.length, atI t.ats v.ns[i] = (k : Int) ∧ isV n (v.l[i]'(by omega)) (aty t.ats[k]) = true)
    (h2 : ∀ j (hj : j < t.ats.length), ao t.ats[j] = true ∨ an t.ats[j] ∈ v.ns) : isV (n + 1) v t = true := by
  rw [isV_rec hk hv, Bool.and_eq_true, List.all_eq_true, List.all_eq_true]
  constructor
  · intro p hp
    obtain ⟨i, hi, rfl⟩ := List.getElem_of_mem hp
    have hi2 : i < v.ns.length := by rw [List.length_zip] at hi; omega
    obtain ⟨k, hk2, h3, h4⟩ := h1 i hi2
    rw [List.getElem_zip]
    rcases gtAt_i t.ats v.ns[i] with ⟨h5, -⟩ | ⟨k', hk', h5, h6⟩
    · rw [h5] at h3; omega
    · have : k' = k := by rw [h5] at h3; omega
      subst this
      show (match gtAt t.ats v.ns[i] with | none => false | some x => isV n v.l[i] (aty x)) = true
      rw [h6]
      exact h4
  · intro x hx
    obtain ⟨j, hj, rfl⟩ := List.getElem_of_mem hx
    rw [Bool.or_eq_true, List.any_eq_true]
    rcases h2 j hj with h3 | h3
    · exact .inl h3
    · exact .inr ⟨_, h3, by simp⟩
/-- A name that is no attribute's, or an item of another type. -/
theorem isV_rec_no {n : Nat} {v : V} {t : T} (hk : t.k = 8) (hv : v.h.k = 6) {i : Nat} (hi : i < v.ns.length) (hil : i < v.l.length)
    (h : atI t.ats v.ns[i] = -1 ∨ ∃ k, ∃ hk : k < t.ats.length, atI t.ats v.ns[i] = (k : Int) ∧ isV n v.l[i] (aty t.ats[k]) = false) : isV (n + 1) v t = false := by
  rw [isV_rec hk hv, Bool.and_eq_false_iff]
  refine .inl ?_
  rw [List.all_eq_false]
  refine ⟨(v.ns[i], v.l[i]), ?_, ?_⟩
  · have h0 : i < (v.ns.zip v.l).length := by rw [List.length_zip]; omega
    have := List.getElem_mem h0
    rwa [List.getElem_zip] at this
  · show ¬ (match gtAt t.ats v.ns[i] with | none => false | some x => isV n v.l[i] (aty x)) = true
    rcases gtAt_i t.ats v.ns[i] with ⟨h5, h6⟩ | ⟨k', hk', h5, h6⟩
    · rw [h6]; simp
    · rw [h6]
      rcases h with h | ⟨k, hk2, h3, h4⟩
      · rw [h5] at h; omega
      · have : k' = k := by rw [h5] at h3; omega
        subst this
        simpa using h4
/-- An attribute that must be there isn't. -/
theorem isV_rec_lacks {n : Nat} {v : V} {t : T} (hk : t.k = 8) (hv : v.h.k = 6) {j : Nat} (hj : j < t.ats.length) (h1 : ao t.ats[j] = false) (h2 : an t.ats[j] ∉ v.ns) : isV (n + 1) v t = false := by
  rw [isV_rec hk hv, Bool.and_eq_false_iff]
  refine .inr ?_
  rw [List.all_eq_false]
  refine ⟨_, List.getElem_mem hj, ?_⟩
  rw [h1]
  simp
  exact h2
theorem isV_set_no {n : Nat} {v : V} {t : T} (hk : t.k = 7) (hv : v.h.k = 5) {i : Nat} (hi : i < v.l.length) (h : isV n v.l[i] t.hd = false) : isV (n + 1) v t = false := by
  rw [isV_set hk hv, List.all_eq_false]
  exact ⟨_, List.getElem_mem hi, by simp [h]⟩
theorem isV_set_yes {n : Nat} {v : V} {t : T} (hk : t.k = 7) (hv : v.h.k = 5) (h : ∀ i (hi : i < v.l.length), isV n v.l[i] t.hd = true) : isV (n + 1) v t = true := by
  rw [isV_set hk hv, List.all_eq_true]
  intro x hx
  obtain ⟨i, hi, rfl⟩ := List.getElem_of_mem hx
  exact h i hi
end Go.Proofs.YtnenjgngahipdaaGreat
namespace Go.Proofs.YtnenjgngahipdaaGreat
open Go.RowKit Go.Sort Go.WideShapes
/-- Are two the same? -/
noncomputable def eqB (a b : V) : Bool := @decide (a = b) (Classical.propDecidable _)
theorem eqB_true {a b : V} (h : a = b) : true = eqB a b := (@decide_eq_true _ (Classical.propDecidable _) h).symm
theorem eqB_false {a b : V} (h : ¬ a = b) : false = eqB a b := (@decide_eq_false _ (Classical.propDecidable _) h).symm
theorem eqB_t {a b : V} (h : eqB a b = true) : a = b := @of_decide_eq_true _ (Classical.propDecidable _) h
theorem eqB_f {a b : V} (h : eqB a b = false) : ¬ a = b := @of_decide_eq_false _ (Classical.propDecidable _) h
theorem tl_injv {s t : ByteArray} : s.toList = t.toList ↔ s = t := by
  rw [ByteArray.toList_eq, ByteArray.toList_eq]
  exact ⟨bytes_inj, fun h => by rw [h]⟩
/-- What Whole answers. -/
def WhC (a b : V) : Prop := ∀ (w : World) (it nm it' nm' : Value), R w a it nm → R w b it' nm' →
  Calls Tryz.prog 53 #[avv a.h it nm, avv b.h it' nm'] w fun e w' => e = .returned (.bool (eqB a b)) ∧ Gr w w'
set_option maxHeartbeats 1600000 in
set_option maxRecDepth 100000 in
theorem whole_no (k n k' n' : Int) (b b' : Bool) (s t i s' t' i' : ByteArray) (w : World) (ai ai' an an' : Option Addr) (ci ci' cn cn' ll ll' nn nn' : Nat)
    (hne : ¬ (k = k' ∧ b = b' ∧ n = n' ∧ s.toList = s'.toList ∧ t.toList = t'.toList ∧ i.toList = i'.toList ∧ ll = ll' ∧ nn = nn')) :
    Calls Tryz.prog 53 #[.agg #[.int .i64 k, .bool b, .int .i64 n, .string s, .string t, .string i, .slice ai ll ci, .slice an nn cn], .agg #[.int .i64 k', .bool b', .int .i64 n', .string s', .string t', .string i', .slice ai' ll' ci', .slice an' nn' cn']] w fun e w' => e = .returned (.bool false) ∧ Gr w w' := by
  have HN := Lib.hid hne
  clear hne
  go_enter Tryz.func53, Tryz.ntmps53
  go_wp2_with fail
  all_goals first
    | (go_ret
       exact ⟨rfl, Gr.alloc (Gr.alloc (Gr.refl w) _) _⟩)
    | (exfalso
       have hn := HN.out
       clear HN
       simp_all
       done)
    | (exfalso
       have hn := HN.out
       clear HN
       simp_all
       omega)
end Go.Proofs.YtnenjgngahipdaaGreat
namespace Go.Proofs.YtnenjgngahipdaaGreat
open Go.RowKit Go.Sort
set_option maxHeartbeats 4000000 in
set_option maxRecDepth 100000 in
theorem whole_yes (k n : Int) (b : Bool) (s t i : ByteArray) (l l' : List V) (ns ns' : List ByteArray) (ih : ∀ x ∈ l, ∀ y ∈ l', WhC x y) (w : World) (ai ai' an an' : Option Addr) (ci ci' cn cn' : Nat)
    (hl : l'.length = l.length) (hn : ns'.length = ns.length) (ra : Ro w l (.slice ai l.length ci)) (rb : Ro w l' (.slice ai' l.length ci')) (na : Na w ns (.slice an ns.length cn)) (nb : Na w ns' (.slice an' ns.length cn')) :
    Calls Tryz.prog 53 #[.agg #[.int .i64 k, .bool b, .int .i64 n, .string s, .string t, .string i, .slice ai l.length ci, .slice an ns.length cn], .agg #[.int .i64 k, .bool b, .int .i64 n, .string s, .string t, .string i, .slice ai' l.length ci', .slice an' ns.length cn']] w
      fun e w' => e = .returned (.bool (eqB (.mk ⟨k, b, n, s, t, i⟩ l ns) (.mk ⟨k, b, n, s, t, i⟩ l' ns'))) ∧ Gr w w' := by
  have HI := Lib.hid ih
  have HL := Lib.hid hl
  have HN := Lib.hid hn
  have RA := Lib.hid ra
  have RB := Lib.hid rb
  have NA := Lib.hid na
  have NB := Lib.hid nb
  have el : l.length ≤ 9223372036854775807 := by obtain ⟨_, _, h, h1, _⟩ := ra; simp only [Value.slice.injEq] at h; omega
  have en : ns.length ≤ 9223372036854775807 := by obtain ⟨_, _, h, h1, _⟩ := na; exact h1
  have C1 : Hid (∀ j (h1 : j < l.length) (h2 : j < l'.length), l[j] ≠ l'[j] → false = eqB (.mk ⟨k, b, n, s, t, i⟩ l ns) (.mk ⟨k, b, n, s, t, i⟩ l' ns')) := Lib.hid fun j h1 h2 h => eqB_false fun e => by
    injection e with e1 e2 e3; subst e2; exact h rfl
  have C2 : Hid (∀ j (h1 : j < ns.length) (h2 : j < ns'.length), ns[j] ≠ ns'[j] → false = eqB (.mk ⟨k, b, n, s, t, i⟩ l ns) (.mk ⟨k, b, n, s, t, i⟩ l' ns')) := Lib.hid fun j h1 h2 h => eqB_false fun e => by
    injection e with e1 e2 e3; subst e3; exact h rfl
  have C3 : Hid (ns = ns' → l = l' → true = eqB (.mk ⟨k, b, n, s, t, i⟩ l ns) (.mk ⟨k, b, n, s, t, i⟩ l' ns')) := Lib.hid fun h1 h2 => eqB_true (by rw [h1, h2])
  generalize eqB (.mk ⟨k, b, n, s, t, i⟩ l ns) (.mk ⟨k, b, n, s, t, i⟩ l' ns') = q at C1 C2 C3 ⊢
  clear ih hl hn ra rb na nb
  go_enter Tryz.func53, Tryz.ntmps53
  go_wp2_with fail
  go_loopg [5] ns.length (fun gk vi wr => ∃ j : Nat, vi = .int .i64 (j : Int) ∧ j ≤ ns.length ∧ ns.length - j ≤ gk ∧ Hid (Gr ((w.alloc (.cells #[.int .i64 k, .bool b, .int .i64 n, .string s, .string t, .string i, .slice ai l.length ci, .slice an ns.length cn] 27)).alloc (.cells #[.int .i64 k, .bool b, .int .i64 n, .string s, .string t, .string i, .slice ai' l.length ci', .slice an' ns.length cn'] 27)) wr) ∧ Hid (∀ x (h1 : x < ns.length) (h2 : x < ns'.length), x < j → ns[x] = ns'[x]))
  case atStart => exact ⟨0, rfl, Nat.zero_le _, Nat.le_refl _, Lib.hid (Gr.refl _), Lib.hid fun x h1 h2 h => absurd h (Nat.not_lt_zero _)⟩
  case round =>
    obtain ⟨j, rfl, hj, hg, G, Q⟩ := hrel
    have f7 := (gr_box ((Gr.alloc (Gr.refl _) (.cells #[.int .i64 k, .bool b, .int .i64 n, .string s, .string t, .string i, .slice ai' l.length ci', .slice an' ns.length cn'] 27)).trans G.out)).2.2.2.2.2.2.2
    have g7 := (gr_box G.out).2.2.2.2.2.2.2
    rw [show (w.alloc (.cells #[.int .i64 k, .bool b, .int .i64 n, .string s, .string t, .string i, .slice ai l.length ci, .slice an ns.length cn] 27)).heap.size = w.heap.size + 1 by simp] at g7
    have GT := Lib.hid fun (W' : World) (h : Gr ((w.alloc (.cells #[.int .i64 k, .bool b, .int .i64 n, .string s, .string t, .string i, .slice ai l.length ci, .slice an ns.length cn] 27)).alloc (.cells #[.int .i64 k, .bool b, .int .i64 n, .string s, .string t, .string i, .slice ai' l.length ci', .slice an' ns.length cn'] 27)) W') => (Gr.alloc (Gr.alloc (Gr.refl w) _) _ : Gr w ((w.alloc (.cells #[.int .i64 k, .bool b, .int .i64 n, .string s, .string t, .string i, .slice ai l.length ci, .slice an ns.length cn] 27)).alloc (.cells #[.int .i64 k, .bool b, .int .i64 n, .string s, .string t, .string i, .slice ai' l.length ci', .slice an' ns.length cn'] 27))).trans h
    have G0 := Lib.hid (GT.out _ G.out)
    by_cases hlt : j < ns.length
    · have z1 : (j : Int) < (ns.length : Int) := by omega
      have hlt' : j < ns'.length := by have := HN.out; omega
      obtain ⟨x, o, rfl, hc, -⟩ := na_at (NA.out.low G0.out.low) hlt
      obtain ⟨x', o', rfl, hc', -⟩ := na_at (NB.out.low G0.out.low) hlt'
      by_cases he : ns[j] = ns'[j]
      · rw [← he] at hc'
        have HE := Lib.hid he
        clear he
        go_wp2_with fail
        go_quiet (fail)
        go_wp2_with fail
        go_roundg (ns.length - (j + 1))
        case measure => omega
        case rel =>
          refine ⟨j + 1, by go_num, by omega, by omega, Lib.hid (G.out.drewN _), Lib.hid fun x h1 h2 h => ?_⟩
          rcases Nat.lt_succ_iff_lt_or_eq.1 h with h | rfl
          · exact Q.out x h1 h2 h
          · exact HE.out
      · have hq := C2.out j hlt hlt' he
        have HQ := Lib.hid hq
        have he2 : ¬ ns[j].toList = ns'[j].toList := fun h => he (tl_injv.1 h)
        clear hq he
        go_wp2_with fail
        go_quiet (fail)
        go_wp2_with fail
        all_goals first
          | (go_ret
             exact ⟨retBv HQ.out, G0.out.drewN _⟩)
          | (exfalso; simp_all; done)
    · have z1 : ¬ (j : Int) < (ns.length : Int) := by omega
      have QN := Lib.hid (show ns = ns' from List.ext_getElem HN.out.symm fun x h1 h2 => Q.out x h1 h2 (by omega))
      go_wp2_with fail
      go_loopg [6] l.length (fun gk vi wr => ∃ j : Nat, vi = .int .i64 (j : Int) ∧ j ≤ l.length ∧ l.length - j ≤ gk ∧ Hid (Gr ((w.alloc (.cells #[.int .i64 k, .bool b, .int .i64 n, .string s, .string t, .string i, .slice ai l.length ci, .slice an ns.length cn] 27)).alloc (.cells #[.int .i64 k, .bool b, .int .i64 n, .string s, .string t, .string i, .slice ai' l.length ci', .slice an' ns.length cn'] 27)) wr) ∧ Hid (∀ x (h1 : x < l.length) (h2 : x < l'.length), x < j → l[x] = l'[x]))
      case atStart => exact ⟨0, rfl, Nat.zero_le _, Nat.le_refl _, G, Lib.hid fun x h1 h2 h => absurd h (Nat.not_lt_zero _)⟩
      case round =>
        clear f7 g7 G0 G
        obtain ⟨j, rfl, hj, hg, G, Q⟩ := hrel
        have f6 := (gr_box ((Gr.alloc (Gr.refl _) (.cells #[.int .i64 k, .bool b, .int .i64 n, .string s, .string t, .string i, .slice ai' l.length ci', .slice an' ns.length cn'] 27)).trans G.out)).2.2.2.2.2.2.1
        have g6 := (gr_box G.out).2.2.2.2.2.2.1
        rw [show (w.alloc (.cells #[.int .i64 k, .bool b, .int .i64 n, .string s, .string t, .string i, .slice ai l.length ci, .slice an ns.length cn] 27)).heap.size = w.heap.size + 1 by simp] at g6
        have G0 := Lib.hid (GT.out _ G.out)
        by_cases hlt : j < l.length
        · have z1 : (j : Int) < (l.length : Int) := by omega
          have hlt' : j < l'.length := by have := HL.out; omega
          obtain ⟨x, o, aj, cj, bj, dj, rfl, hcs, hrx⟩ := ro_at (RA.out.low G0.out.low) hlt
          obtain ⟨e0, e1, e2, e3, e4, e5, e6, e7⟩ := cells8 hcs
          obtain ⟨x', o', aj', cj', bj', dj', rfl, hcs', hrx'⟩ := ro_at (RB.out.low G0.out.low) hlt'
          obtain ⟨d0, d1, d2, d3, d4, d5, d6, d7⟩ := cells8 hcs'
          have hcon := HI.out l[j] (List.getElem_mem hlt) l'[j] (List.getElem_mem hlt')
          have hst : ∃ c, c = eqB l[j] l'[j] ∧ (c = true → l[j] = l'[j]) ∧ (c = false → false = q) := ⟨_, rfl, eqB_t, fun h => C1.out j hlt hlt' (eqB_f h)⟩
          obtain ⟨c, hc, hc1, hc2⟩ := hst
          unfold WhC at hcon
          rw [← hc] at hcon
          have HC := Lib.hid hcon
          have HRX := Lib.hid hrx
          have HRX' := Lib.hid hrx'
          have K1 := Lib.hid hc1
          have K2 := Lib.hid hc2
          have G1 := Lib.hid G.out.drew
          clear hcon hcs hcs' hrx hrx' hc hc1 hc2
          go_wp2_with fail
          go_region_held3 (fun w' => w'.cell? ⟨w.heap.size, 6, none⟩ = some (.slice (some ⟨x, o, none⟩) l.length ci) ∧ w'.cell? ⟨w.heap.size + 1, 6, none⟩ = some (.slice (some ⟨x', o', none⟩) l.length ci') ∧ w'.cell? ⟨x, o + j * 8, none⟩ = some (.int .i64 l[j].h.k) ∧ w'.cell? ⟨x, o + j * 8 + 1, none⟩ = some (.bool l[j].h.b) ∧ w'.cell? ⟨x, o + j * 8 + 2, none⟩ = some (.int .i64 l[j].h.n) ∧ w'.cell? ⟨x, o + j * 8 + 3, none⟩ = some (.string l[j].h.s) ∧ w'.cell? ⟨x, o + j * 8 + 4, none⟩ = some (.string l[j].h.t) ∧ w'.cell? ⟨x, o + j * 8 + 5, none⟩ = some (.string l[j].h.i) ∧ w'.cell? ⟨x, o + j * 8 + 6, none⟩ = some (.slice aj l[j].l.length cj) ∧ w'.cell? ⟨x, o + j * 8 + 7, none⟩ = some (.slice bj l[j].ns.length dj) ∧ w'.cell? ⟨x', o' + j * 8, none⟩ = some (.int .i64 l'[j].h.k) ∧ w'.cell? ⟨x', o' + j * 8 + 1, none⟩ = some (.bool l'[j].h.b) ∧ w'.cell? ⟨x', o' + j * 8 + 2, none⟩ = some (.int .i64 l'[j].h.n) ∧ w'.cell? ⟨x', o' + j * 8 + 3, none⟩ = some (.string l'[j].h.s) ∧ w'.cell? ⟨x', o' + j * 8 + 4, none⟩ = some (.string l'[j].h.t) ∧ w'.cell? ⟨x', o' + j * 8 + 5, none⟩ = some (.string l'[j].h.i) ∧ w'.cell? ⟨x', o' + j * 8 + 6, none⟩ = some (.slice aj' l'[j].l.length cj') ∧ w'.cell? ⟨x', o' + j * 8 + 7, none⟩ = some (.slice bj' l'[j].ns.length dj')) (go_keep) (first
            | (go_at_call 53; refine (HC.out _ _ _ _ _ (HRX.out.low (Gr.refl _).drew.low) (HRX'.out.low (Gr.refl _).drew.low)).mono ?_; rintro e w1 ⟨rfl, g⟩; have f6 := g.cell f6; have g6 := g.cell g6; have e0 := g.cell e0; have d0 := g.cell d0; have e1 := g.cell e1; have d1 := g.cell d1; have e2 := g.cell e2; have d2 := g.cell d2; have e3 := g.cell e3; have d3 := g.cell d3; have e4 := g.cell e4; have d4 := g.cell d4; have e5 := g.cell e5; have d5 := g.cell d5; have e6 := g.cell e6; have d6 := g.cell d6; have e7 := g.cell e7; have d7 := g.cell d7; have G2 := Lib.hid (G1.out.trans g)))
          all_goals
            cases c with
            | true =>
              go_wp2_with fail
              go_roundg (l.length - (j + 1))
              case measure => omega
              case rel =>
                refine ⟨j + 1, by go_num, by omega, by omega, G2, Lib.hid fun x h1 h2 h => ?_⟩
                rcases Nat.lt_succ_iff_lt_or_eq.1 h with h | rfl
                · exact Q.out x h1 h2 h
                · exact K1.out (by first | rfl | trivial)
            | false =>
              go_wp2_with fail
              go_ret
              exact ⟨retBv (K2.out (by first | rfl | trivial)), GT.out _ G2.out⟩
        · have z1 : ¬ (j : Int) < (l.length : Int) := by omega
          have HQ := Lib.hid (C3.out QN.out (List.ext_getElem HL.out.symm fun x h1 h2 => Q.out x h1 h2 (by omega)))
          go_wp2_with fail
          go_ret
          exact ⟨retBv HQ.out, G0.out⟩
theorem whole_n (d : Nat) : ∀ a b : V, dep a ≤ d → WhC a b := by
  induction d with
  | zero => intro a b h; rw [dep_v] at h; omega
  | succ d ih =>
    intro a b hd w it nm it' nm' ha hb
    obtain ⟨ai, ci, an, cn, rfl, rfl⟩ := r_slices ha
    obtain ⟨ai', ci', an', cn', rfl, rfl⟩ := r_slices hb
    have ih' : ∀ x ∈ a.l, ∀ y ∈ b.l, WhC x y := fun x hx y _ => ih x y (by have := dep_mem hx; rw [dep_v] at hd; omega)
    by_cases he : a.h.k = b.h.k ∧ a.h.b = b.h.b ∧ a.h.n = b.h.n ∧ a.h.s.toList = b.h.s.toList ∧ a.h.t.toList = b.h.t.toList ∧ a.h.i.toList = b.h.i.toList ∧ a.l.length = b.l.length ∧ a.ns.length = b.ns.length
    · obtain ⟨e1, e2, e3, e4, e5, e6, e7, e8⟩ := he
      rw [tl_injv] at e4 e5 e6
      have ra : Ro w a.l (.slice ai a.l.length ci) := (rep_v.1 ha).2.2
      have rb : Ro w b.l (.slice ai' b.l.length ci') := (rep_v.1 hb).2.2
      have na : Na w a.ns (.slice an a.ns.length cn) := (rep_v.1 ha).2.1
      have nb : Na w b.ns (.slice an' b.ns.length cn') := (rep_v.1 hb).2.1
      rw [← e7] at rb
      rw [← e8] at nb
      have h := whole_yes a.h.k a.h.n a.h.b a.h.s a.h.t a.h.i a.l b.l a.ns b.ns ih' w ai ai' an an' ci ci' cn cn' e7.symm e8.symm ra rb na nb
      have eb : b = .mk ⟨a.h.k, a.h.b, a.h.n, a.h.s, a.h.t, a.h.i⟩ b.l b.ns := by rw [e1, e2, e3, e4, e5, e6]; exact b.eta
      rw [← eb] at h
      have ea : a = .mk ⟨a.h.k, a.h.b, a.h.n, a.h.s, a.h.t, a.h.i⟩ a.l a.ns := a.eta
      rw [← ea] at h
      unfold avv
      rw [← e1, ← e2, ← e3, ← e4, ← e5, ← e6, ← e7, ← e8]
      exact h
    · have h := whole_no a.h.k a.h.n b.h.k b.h.n a.h.b b.h.b a.h.s a.h.t a.h.i b.h.s b.h.t b.h.i w ai ai' an an' ci ci' cn cn' a.l.length b.l.length a.ns.length b.ns.length he
      have eq : false = eqB a b := eqB_false fun e => he (by rw [e]; exact ⟨rfl, rfl, rfl, rfl, rfl, rfl, rfl, rfl⟩)
      rw [← eq]
      exact h
theorem whole_c (a b : V) : WhC a b := whole_n (dep a) a b (Nat.le_refl _)
end Go.Proofs.YtnenjgngahipdaaGreat
namespace Go.Proofs.YtnenjgngahipdaaGreat
open Go.RowKit Go.Sort
def hd0 : Hd := ⟨0, false, 0, ⟨#[]⟩, ⟨#[]⟩, ⟨#[]⟩⟩
def V0 : V := .mk hd0 [] []
theorem r_V0 (w : World) : R w V0 (.slice none 0 0) (.slice none 0 0) := by
  unfold R V0
  rw [Rep]
  exact ⟨⟨by decide, by decide, by decide⟩, ⟨none, 0, rfl, by simp, by simp, .inl rfl⟩, none, 0, rfl, ⟨by simp, by simp⟩, .inl rfl⟩
/-- Where a record has a name; below 0: nowhere. -/
def getI (v : V) (x : ByteArray) : Int := if v.h.k = 6 then (if Lib.idxOfS v.ns x < 0 ∨ (v.l.length : Int) ≤ Lib.idxOfS v.ns x then -1 else Lib.idxOfS v.ns x) else -1
/-- What it has there. -/
def getV (v : V) (x : ByteArray) : V := if 0 ≤ getI v x then v.l.getD (getI v x).toNat V0 else V0
theorem sIdx_c (ns : List ByteArray) (x : ByteArray) (w : World) (nm : Value) (h : Na w ns nm) : Calls Tryz.prog 87 #[nm, .string x] w fun e w' => e = .returned (.int .i64 (Lib.idxOfS ns x)) ∧ w = w' := by
  obtain ⟨ao, cap, rfl, hl, -, hx⟩ := h
  rcases hx with h0 | ⟨b, o, rfl, -, hc⟩
  · subst h0
    exact (Tryz.slices_Index_string_empty ao cap x w).mono fun _ _ ⟨h, k⟩ => ⟨h, k.symm⟩
  · have h := Tryz.slices_Index_string b o ns.length cap ns x w (Nat.le_refl _) (by omega) fun j hj => by rw [hc j hj]; simp [List.getD, List.getElem?_eq_getElem hj]
    rw [List.take_length] at h
    exact h.mono fun _ _ ⟨h, k⟩ => ⟨h, k.symm⟩
/-- What Get answers. -/
def GetP (x : V) (b : Bool) (w : World) (e : Ending) (w' : World) : Prop := ∃ it nm, e = .returned (.tuple #[avv x.h it nm, .bool b]) ∧ R w' x it nm ∧ Gr w w'
set_option maxHeartbeats 1600000 in
theorem get_c (v : V) (x : ByteArray) (w : World) (it nm : Value) (hr : R w v it nm) : Calls Tryz.prog 100 #[avv v.h it nm, .string x] w (GetP (getV v x) (decide (0 ≤ getI v x)) w) := by
  obtain ⟨ai, ci, an, cn, rfl, rfl⟩ := r_slices hr
  have NA := Lib.hid (show Na w v.ns (.slice an v.ns.length cn) from (rep_v.1 hr).2.1)
  have RA := Lib.hid (show Ro w v.l (.slice ai v.l.length ci) from (rep_v.1 hr).2.2)
  clear hr
  by_cases hk : v.h.k = 6
  · obtain ⟨j, hj⟩ : ∃ j, j = Lib.idxOfS v.ns x := ⟨_, rfl⟩
    have CI := Lib.hid fun W h => sIdx_c v.ns x W (.slice an v.ns.length cn) h
    rw [← hj] at CI
    have hgi : getI v x = if j < 0 ∨ (v.l.length : Int) ≤ j then -1 else j := by rw [hj]; unfold getI; rw [if_pos hk]
    clear hj
    by_cases h1 : j < 0
    · have e1 : getI v x = -1 := by rw [hgi, if_pos (.inl h1)]
      have e2 : getV v x = V0 := by unfold getV; rw [e1]; rfl
      have e3 : decide (0 ≤ getI v x) = false := by rw [e1]; rfl
      rw [e2, e3]
      unfold avv
      rw [hk]
      clear e1 e2 e3
      clear hgi hk
      go_enter Tryz.func100, Tryz.ntmps100
      go_wp2_with fail
      refine (CI.out _ (NA.out.low ((Gr.alloc (Gr.alloc (Gr.refl w) _) _).low))).mono ?_
      rintro e w' ⟨rfl, rfl⟩
      go_wp2_with fail
      refine bodyPost_ret (v := .tuple #[.agg #[.int .i64 0, .bool false, .int .i64 0, .string ⟨#[]⟩, .string ⟨#[]⟩, .string ⟨#[]⟩, .slice none 0 0, .slice none 0 0], .bool false]) (by simp [results, Tryz.results100, go_sem]; try rfl) rfl ?_
      exact ⟨_, _, rfl, r_V0 _, Gr.alloc (Gr.alloc (Gr.refl w) _) _⟩
    · by_cases h2 : (v.l.length : Int) ≤ j
      · have e1 : getI v x = -1 := by rw [hgi, if_pos (.inr h2)]
        have e2 : getV v x = V0 := by unfold getV; rw [e1]; rfl
        have e3 : decide (0 ≤ getI v x) = false := by rw [e1]; rfl
        rw [e2, e3]
        unfold avv
        rw [hk]
        clear e1 e2 e3
        clear hgi hk
        go_enter Tryz.func100, Tryz.ntmps100
        go_wp2_with fail
        refine (CI.out _ (NA.out.low ((Gr.alloc (Gr.alloc (Gr.refl w) _) _).low))).mono ?_
        rintro e w' ⟨rfl, rfl⟩
        go_wp2_with fail
        refine bodyPost_ret (v := .tuple #[.agg #[.int .i64 0, .bool false, .int .i64 0, .string ⟨#[]⟩, .string ⟨#[]⟩, .string ⟨#[]⟩, .slice none 0 0, .slice none 0 0], .bool false]) (by simp [results, Tryz.results100, go_sem]; try rfl) rfl ?_
        exact ⟨_, _, rfl, r_V0 _, Gr.alloc (Gr.alloc (Gr.refl w) _) _⟩
      · have e1 : getI v x = j := by rw [hgi, if_neg (by omega)]
        obtain ⟨q, rfl⟩ : ∃ q : Nat, j = q := ⟨j.toNat, by omega⟩
        have hq : q < v.l.length := by omega
        have e2 : getV v x = v.l[q] := by unfold getV; rw [e1, if_pos (by omega)]; simp [List.getD, List.getElem?_eq_getElem hq]
        have e3 : decide (0 ≤ getI v x) = true := by rw [e1]; simp
        rw [e2, e3]
        clear e1 e2 e3 h1
        have h3 : (q : Int) < (v.l.length : Int) := by omega
        obtain ⟨b, o, bi, di, bn, dn, rfl, hcs, hrx⟩ := ro_at RA.out hq
        have k8 : ∀ X Y, CellsAtv ((w.alloc X).alloc Y) b (o + q * 8) (hdc v.l[q].h (.slice bi v.l[q].l.length di) (.slice bn v.l[q].ns.length dn)) := fun X Y => (Gr.alloc (Gr.alloc (Gr.refl w) _) _).low.cells hcs
        have c0 := fun X Y => (cells8 (k8 X Y)).1
        have c1 := fun X Y => (cells8 (k8 X Y)).2.1
        have c2 := fun X Y => (cells8 (k8 X Y)).2.2.1
        have c3 := fun X Y => (cells8 (k8 X Y)).2.2.2.1
        have c4 := fun X Y => (cells8 (k8 X Y)).2.2.2.2.1
        have c5 := fun X Y => (cells8 (k8 X Y)).2.2.2.2.2.1
        have c6 := fun X Y => (cells8 (k8 X Y)).2.2.2.2.2.2.1
        have c7 := fun X Y => (cells8 (k8 X Y)).2.2.2.2.2.2.2
        have HX := Lib.hid hrx
        clear hcs hrx k8 hgi
        unfold avv
        rw [hk]
        clear hk
        go_enter Tryz.func100, Tryz.ntmps100
        go_wp2_with fail
        refine (CI.out _ (NA.out.low ((Gr.alloc (Gr.alloc (Gr.refl w) _) _).low))).mono ?_
        rintro e w' ⟨rfl, rfl⟩
        go_wp2_with fail
        refine bodyPost_ret (v := .tuple #[.agg #[.int .i64 v.l[q].h.k, .bool v.l[q].h.b, .int .i64 v.l[q].h.n, .string v.l[q].h.s, .string v.l[q].h.t, .string v.l[q].h.i, .slice bi v.l[q].l.length di, .slice bn v.l[q].ns.length dn], .bool true]) (by simp [results, Tryz.results100, go_sem]; try rfl) rfl ?_
        exact ⟨_, _, rfl, HX.out.low (Gr.alloc (Gr.alloc (Gr.refl w) _) _).low, Gr.alloc (Gr.alloc (Gr.refl w) _) _⟩
  · have e1 : getI v x = -1 := by unfold getI; rw [if_neg hk]
    have e2 : getV v x = V0 := by unfold getV; rw [e1]; rfl
    have e3 : decide (0 ≤ getI v x) = false := by rw [e1]; rfl
    rw [e2, e3]
    unfold avv
    clear e1 e2 e3
    go_enter Tryz.func100, Tryz.ntmps100
    go_wp2_with fail
    refine bodyPost_ret (v := .tuple #[.agg #[.int .i64 0, .bool false, .int .i64 0, .string ⟨#[]⟩, .string ⟨#[]⟩, .string ⟨#[]⟩, .slice none 0 0, .slice none 0 0], .bool false]) (by simp [results, Tryz.results100, go_sem]; try rfl) rfl ?_
    exact ⟨_, _, rfl, r_V0 _, Gr.alloc (Gr.alloc (Gr.refl w) _) _⟩
theorem idx_hit {ns : List ByteArray} {x : ByteArray} {k : Nat} (hk : k < ns.length) (h : ns[k] = x) (hne : ∀ j (hj : j < ns.length), j < k → ns[j] ≠ x) : Lib.idxOfS ns x = k := by
  have := Lib.idxOfS_hit ns ns.length k x hk (Nat.le_refl _) (by simp [List.getD, List.getElem?_eq_getElem hk, h]) fun j hj => by
    have := hne j (by omega) hj
    simpa [List.getD, List.getElem?_eq_getElem (show j < ns.length by omega)] using this
  rwa [List.take_length] at this
theorem idx_miss {ns : List ByteArray} {x : ByteArray} (hne : ∀ j (hj : j < ns.length), ns[j] ≠ x) : Lib.idxOfS ns x = -1 := by
  have := Lib.idxOfS_miss ns ns.length x fun j hj => by
    have := hne j hj
    simpa [List.getD, List.getElem?_eq_getElem hj] using this
  rwa [List.take_length] at this
end Go.Proofs.YtnenjgngahipdaaGreat
