/- The reference's Texts; what may be. Condition: as said. -/
import Derived.Test.YtijjbfdbhfjfmaaTyS
import Derived.BigQuiet
namespace Go.Proofs.Ytijjbfdbhfjfmaa
open Go.RowKit
def cmpI (a b : Int) : Int := Lib.compareInt a b
theorem rInts_c (a b : Int) (w : World) : Calls Try.prog 79 #[.int .i64 a, .int .i64 b] w fun e w' => e = .returned (.int .i64 (cmpI a b)) ∧ w = w' := by
  by_cases h1 : a < b
  · have HR := Lib.hid (show cmpI a b = -1 by unfold cmpI Lib.compareInt; rw [if_pos h1])
    go_enter Try.func79, Try.ntmps79
    go_wp2_with fail
    go_ret
    exact ⟨retI HR.out.symm, rfl⟩
  · by_cases h2 : b < a
    · have HR := Lib.hid (show cmpI a b = 1 by unfold cmpI Lib.compareInt; rw [if_neg h1, if_pos h2])
      go_enter Try.func79, Try.ntmps79
      go_wp2_with fail
      go_ret
      exact ⟨retI HR.out.symm, rfl⟩
    · have HR := Lib.hid (show cmpI a b = 0 by unfold cmpI Lib.compareInt; rw [if_neg h1, if_neg h2])
      go_enter Try.func79, Try.ntmps79
      go_wp2_with fail
      go_ret
      exact ⟨retI HR.out.symm, rfl⟩
theorem cb_cons (x y : UInt8) (l m : List UInt8) : Lib.compareBytes (x :: l) (y :: m) = if x < y then -1 else if y < x then 1 else Lib.compareBytes l m := rfl
theorem cb_end {l m : List UInt8} (h : l = [] ∨ m = []) : Lib.compareBytes l m = cmpI l.length m.length := by
  unfold cmpI Lib.compareInt
  cases l <;> cases m <;> simp [Lib.compareBytes] at * <;> omega
theorem u8_lt {x y : UInt8} : x < y ↔ (x.toNat : Int) < (y.toNat : Int) := by rw [UInt8.lt_iff_toNat_lt]; omega
theorem drop_cons {α : Type} {l : List α} {i : Nat} (h : i < l.length) : l.drop i = l[i] :: l.drop (i + 1) := List.drop_eq_getElem_cons h
set_option maxHeartbeats 1600000 in
theorem rTexts_c (s t : ByteArray) (hs : s.size ≤ 9223372036854775807) (_ht : t.size ≤ 9223372036854775807) (w : World) : Calls Try.prog 70 #[.string s, .string t] w fun e w' => e = .returned (.int .i64 (cmpB s t)) ∧ Low w w' := by
  obtain ⟨r, hr⟩ : ∃ r, r = cmpB s t := ⟨_, rfl⟩
  have HR := Lib.hid hr
  rw [← hr]
  clear hr
  go_enter Try.func70, Try.ntmps70
  go_wp2_with fail
  go_loopg [5] s.size (fun gk vi wr => ∃ i : Nat, vi = .int .i64 (i : Int) ∧ i ≤ s.size ∧ i ≤ t.size ∧ s.size - i ≤ gk ∧ Hid (Low w wr) ∧ Hid (r = Lib.compareBytes (s.data.toList.drop i) (t.data.toList.drop i)))
  case atStart => exact ⟨0, rfl, Nat.zero_le _, Nat.zero_le _, Nat.le_refl _, Lib.hid (Low.refl _), HR⟩
  case round =>
    obtain ⟨i, rfl, hi, hi', hg, G, K⟩ := hrel
    by_cases h1 : i < s.size
    · have z1 : (i : Int) < (s.size : Int) := by omega
      by_cases h2 : i < t.size
      · have z2 : (i : Int) < (t.size : Int) := by omega
        have hst : r = if s[i] < t[i] then -1 else if t[i] < s[i] then 1 else Lib.compareBytes (s.data.toList.drop (i + 1)) (t.data.toList.drop (i + 1)) := by
          have h := K.out
          rw [drop_cons (show i < s.data.toList.length by simpa using h1), drop_cons (show i < t.data.toList.length by simpa using h2), cb_cons] at h
          exact h
        rcases Int.lt_trichotomy (s[i].toNat : Int) (t[i].toNat : Int) with hl | hl | hl
        · have hr : r = -1 := by rw [hst, if_pos (u8_lt.2 hl)]
          have HQ := Lib.hid hr
          clear hst hr
          have n1 : ¬ (s[i].toNat : Int) = (t[i].toNat : Int) := by omega
          go_wp2_with fail
          go_quiet (fail)
          go_wp2_with fail
          go_quiet (fail)
          go_wp2_with fail
          go_ret
          exact ⟨retI HQ.out.symm, low_drewN (low_drewN G.out _) _⟩
        · have he : s[i] = t[i] := UInt8.toNat_inj.1 (by omega)
          have hr : r = Lib.compareBytes (s.data.toList.drop (i + 1)) (t.data.toList.drop (i + 1)) := by
            rw [hst, he, if_neg (UInt8.lt_irrefl _), if_neg (UInt8.lt_irrefl _)]
          have HQ : Hid (r = Lib.compareBytes (s.data.toList.drop (i + 1)) (t.data.toList.drop (i + 1))) := hr
          clear hst hr he
          go_wp2_with fail
          go_quiet (fail)
          go_wp2_with fail
          go_roundg (s.size - (i + 1))
          case measure => omega
          case rel => exact ⟨i + 1, by go_num, by omega, by omega, by omega, Lib.hid (low_drewN G.out _), HQ⟩
        · have hr : r = 1 := by rw [hst, if_neg (by rw [u8_lt]; omega), if_pos (u8_lt.2 hl)]
          have HQ := Lib.hid hr
          clear hst hr
          have n1 : ¬ (s[i].toNat : Int) = (t[i].toNat : Int) := by omega
          have n2 : ¬ (s[i].toNat : Int) < (t[i].toNat : Int) := by omega
          go_wp2_with fail
          go_quiet (fail)
          go_wp2_with fail
          go_quiet (fail)
          go_wp2_with fail
          go_ret
          exact ⟨retI HQ.out.symm, low_drewN (low_drewN G.out _) _⟩
      · have z2 : ¬ (i : Int) < (t.size : Int) := by omega
        have hr : r = cmpI s.size t.size := by
          rw [K.out, cb_end (.inr (List.drop_eq_nil_of_le (by simp; omega)))]
          simp [cmpI, Lib.compareInt]
          split <;> split <;> omega
        have HQ := Lib.hid hr
        clear hr
        go_wp2_with fail
        refine (rInts_c _ _ _).mono ?_
        rintro e w' ⟨rfl, rfl⟩
        go_wp2_with fail
        go_ret
        exact ⟨retI HQ.out.symm, G.out⟩
    · have z1 : ¬ (i : Int) < (s.size : Int) := by omega
      have hr : r = cmpI s.size t.size := by
        rw [K.out, cb_end (.inl (List.drop_eq_nil_of_le (by simp; omega)))]
        simp [cmpI, Lib.compareInt]
        split <;> split <;> omega
      have HQ := Lib.hid hr
      clear hr
      go_wp2_with fail
      refine (rInts_c _ _ _).mono ?_
      rintro e w' ⟨rfl, rfl⟩
      go_wp2_with fail
      go_ret
      exact ⟨retI HQ.out.symm, G.out⟩
def MayC (F : Nat) (n : Nat) : Prop := ∀ (A : Nat → Prop) (t : T) (w : World) (e v : Value), RT A w n t e v → Calls Try.prog F #[tv t e v] w (fun e w' => e = .returned (.bool (mayB n t)) ∧ Low w w')
theorem may_head {n : Nat} {t : T} (h : mayH t = false) : mayB (n + 1) t = false := by rw [mayB, h]; rfl
theorem may_in {n : Nat} {t x : T} (hx : x ∈ t.ins) (h : mayB n x = false) : mayB (n + 1) t = false := by
  rw [Bool.eq_false_iff]; intro k; rw [(mayB_succ.1 k).2.2 x hx] at h; simp at h
theorem may_rise {n : Nat} {t : T} {j : Nat} (hj : j + 1 < t.ats.length) (h : ¬ cmpB (an (t.ats[j]'(by omega))) (an t.ats[j + 1]) < 0) : mayB (n + 1) t = false := by
  rw [Bool.eq_false_iff]; intro k
  have := (rises_iff _).1 (mayB_succ.1 k).2.1 j (by simpa using hj)
  simp only [List.getElem_map] at this
  exact h this
theorem may_ok {n : Nat} {t : T} (h : mayH t = true) (h1 : ∀ j (hj : j < t.l.length), mayB n t.l[j] = true) (h2 : ∀ j (hj : j < t.ats.length), mayB n (aty t.ats[j]) = true)
    (h3 : ∀ j (hj : j + 1 < t.ats.length), cmpB (an (t.ats[j]'(by omega))) (an t.ats[j + 1]) < 0) : mayB (n + 1) t = true := by
  refine mayB_succ.2 ⟨h, (rises_iff _).2 fun i hi => ?_, fun x hx => ?_⟩
  · simp only [List.getElem_map]; exact h3 i (by simpa using hi)
  · rcases List.mem_append.1 hx with hx | hx
    · obtain ⟨j, hj, rfl⟩ := List.getElem_of_mem hx; exact h1 j hj
    · obtain ⟨y, hy, rfl⟩ := List.mem_map.1 hx
      obtain ⟨j, hj, rfl⟩ := List.getElem_of_mem hy; exact h2 j hj
end Go.Proofs.Ytijjbfdbhfjfmaa
