/- The reference's words of any text. Condition: the text is shorter than 2^32. -/
import Derived.Test.YtdblkjcimegoeaaDoorLexF
import Derived.Test.YtdblkjcimegoeaaDoorLexR
import Derived.Test.YtdblkjcimegoeaaDoorRefRead
import Derived.Test.YtdblkjcimegoeaaDoorUnqS
namespace Go.Proofs.YtdblkjcimegoeaaDoor
open Go.RowKit
/-! ### The longest mark -/
def oneS : ByteArray := ⟨#[40, 41, 123, 125, 91, 93, 44, 59, 58, 46, 60, 62, 33, 43, 45, 42, 64]⟩
def oneB (k : Nat) : UInt8 := [(40 : UInt8), 41, 123, 125, 91, 93, 44, 59, 58, 46, 60, 62, 33, 43, 45, 42, 64].getD k 0
theorem one_run : ∀ (k : Nat) (_ : k < 17) (w : World), (Instr.index 9 (.string ⟨#[40, 41, 123, 125, 91, 93, 44, 59, 58, 46, 60, 62, 33, 43, 45, 42, 64]⟩) (.int .i64 (k : Int))).run Tryd.prog w = .ok (.int .u8 (oneB k).toNat) w
  | 0, _, w => by go_simp; rfl
  | 1, _, w => by go_simp; rfl
  | 2, _, w => by go_simp; rfl
  | 3, _, w => by go_simp; rfl
  | 4, _, w => by go_simp; rfl
  | 5, _, w => by go_simp; rfl
  | 6, _, w => by go_simp; rfl
  | 7, _, w => by go_simp; rfl
  | 8, _, w => by go_simp; rfl
  | 9, _, w => by go_simp; rfl
  | 10, _, w => by go_simp; rfl
  | 11, _, w => by go_simp; rfl
  | 12, _, w => by go_simp; rfl
  | 13, _, w => by go_simp; rfl
  | 14, _, w => by go_simp; rfl
  | 15, _, w => by go_simp; rfl
  | 16, _, w => by go_simp; rfl
  | n + 17, h, _ => absurd h (by omega)
theorem mrk1_yes {c : UInt8} {k : Nat} (hk : k < 17) (h : (oneB k == c) = true) : mrk1 c = true := by
  have all : ∀ j : Fin 17, mrk1 (oneB j.val) = true := by decide
  have e : oneB k = c := by simpa using h
  rw [← e]; exact all ⟨k, hk⟩
theorem mrk1_no {c : UInt8} (h : ∀ j, j < 17 → (oneB j == c) = false) : mrk1 c = false := by
  rw [Bool.eq_false_iff]
  intro hm
  unfold mrk1 at hm
  have hx := List.contains_iff_exists_mem_beq.1 hm
  obtain ⟨a, ha, hb⟩ := hx
  obtain ⟨i, hi, rfl⟩ := List.getElem_of_mem ha
  have hi' : i < 17 := by simpa using hi
  have := h i hi'
  unfold oneB at this
  rw [List.getD_eq_getElem?_getD, List.getElem?_eq_getElem hi] at this
  simp at hb this
  exact this hb.symm
theorem mrkk_one {s : ByteArray} {i : Nat} (h : i < s.size) (h2 : i + 1 < s.size → mrk2 (gb s i) (gb s (i + 1)) = false) : mrkN (s.data.toList.drop i) = if mrk1 (gb s i) = true then 1 else 0 := by
  rw [drop_gb h]
  rcases Nat.lt_or_ge (i + 1) s.size with h1 | h1
  · rw [drop_gb h1]
    show (if mrk2 (gb s i) (gb s (i + 1)) = true then 2 else if mrk1 (gb s i) = true then 1 else 0) = _
    rw [if_neg (by simp [h2 h1])]
  · rw [drop_all h1]; rfl
theorem mrkk_two {s : ByteArray} {i : Nat} (h1 : i + 1 < s.size) (h2 : mrk2 (gb s i) (gb s (i + 1)) = true) : mrkN (s.data.toList.drop i) = 2 := by
  rw [drop_gb (by omega), drop_gb h1]
  show (if mrk2 (gb s i) (gb s (i + 1)) = true then 2 else if mrk1 (gb s i) = true then 1 else 0) = _
  rw [if_pos h2]
theorem two_eq {s : ByteArray} {i : Nat} (h : i + 1 < s.size) (a b : UInt8) : ((s.extract i (i + 2)).toList == [a, b]) = (gb s i == a && gb s (i + 1) == b) := by
  rw [ByteArray.toList_eq, ext_data, drop_gb (by omega), drop_gb h, show i + 2 - i = 2 from by omega]
  show ([gb s i, gb s (i + 1)] == [a, b]) = _
  simp
set_option maxHeartbeats 1600000 in
/-- The loop over the marks of one byte. -/
theorem refMark_lo (s : ByteArray) (hs : s.size ≤ 4294967294) (i0 : Nat) (hi0 : i0 < s.size) (hno : i0 + 1 < s.size → mrk2 (gb s i0) (gb s (i0 + 1)) = false) (w : World) :
    Calls Tryd.prog 33 #[.string s, .int .i64 (i0 : Int)] w fun e w' => e = .returned (.int .i64 ((i0 + mrkN (s.data.toList.drop i0) : Nat) : Int)) ∧ Low w w' := by
  obtain ⟨T, hT⟩ : ∃ T, i0 + mrkN (s.data.toList.drop i0) = T := ⟨_, rfl⟩
  have hT2 := hT
  rw [hT]
  rw [mrkk_one hi0 hno] at hT2
  have HT := Lib.hid hT2
  clear hT hT2
  have z0 : (i0 : Int) < (s.size : Int) := by omega
  have HC := Lib.hid (gb_lt hi0)
  by_cases hl : i0 + 1 < s.size
  · have zl : (i0 : Int) + 1 < (s.size : Int) := by omega
    have zl2 : (i0 : Int) + 2 ≤ (s.size : Int) := by omega
    have h2 := hno hl
    unfold mrk2 at h2
    simp only [Bool.or_eq_false_iff] at h2
    obtain ⟨⟨⟨⟨⟨⟨b1, b2⟩, b3⟩, b4⟩, b5⟩, b6⟩, b7⟩ := h2
    rw [← two_eq hl] at b1 b2 b3 b4 b5 b6 b7
    clear hno
    go_enter Tryd.func33, Tryd.ntmps33
    go_wp2_with fail
    clear b1 b2 b3 b4 b5 b6 b7 zl zl2
    go_loopg [7] 17 (fun gk va wr => ∃ k : Nat, va = .int .i64 (k : Int) ∧ k ≤ 17 ∧ 17 - k ≤ gk ∧ Hid (Low w wr) ∧ Hid (∀ j, j < k → (oneB j == gb s i0) = false))
    case atStart => exact ⟨0, rfl, by omega, by omega, Lib.hid (Low.refl _), Lib.hid (fun j hj => absurd hj (Nat.not_lt_zero _))⟩
    case round =>
      obtain ⟨k, rfl, hk, hg, G, K⟩ := hrel
      by_cases hlt : k < 17
      · have z1 : (k : Int) < 17 := by omega
        have HR := one_run k hlt
        obtain ⟨c, hc⟩ : ∃ c, oneB k = c := ⟨_, rfl⟩
        rw [hc] at HR
        have q1 : ((c.toNat : Int) == (s[i0].toNat : Int)) = (c == gb s i0) := by rw [gb_lt hi0]; exact eqb c (gb s i0)
        cases h1 : c == gb s i0 with
        | true =>
          have EN : Hid (Ending.returned (.int .i64 ((i0 : Int) + 1)) = Ending.returned (.int .i64 (T : Int))) := Lib.hid (by rw [← HT.out, if_pos (mrk1_yes hlt (by rw [hc]; exact h1))]; simp)
          rw [h1] at q1
          clear h1 hc
          go_wp2_with fail
          go_region
          all_goals (try go_wp2)
          all_goals go_ret
          all_goals exact ⟨EN.out, by first | exact G.out | exact G.out.trans (Low.drewN _ _) | exact G.out.trans ⟨rfl, rfl, Nat.le_refl _, fun _ _ => rfl⟩⟩
        | false =>
          have NX : Hid (∀ j, j < k + 1 → (oneB j == gb s i0) = false) := Lib.hid fun j hj => by
            rcases Nat.lt_or_ge j k with h | h
            · exact K.out j h
            · rw [show j = k from by omega, hc]; exact h1
          rw [h1] at q1
          clear h1 hc
          go_wp2_with fail
          go_region
          all_goals (try go_wp2)
          all_goals go_roundg (17 - (k + 1))
          all_goals first | omega | exact ⟨k + 1, by go_num, by omega, by omega, Lib.hid (by first | exact G.out | exact G.out.trans (Low.drewN _ _) | exact G.out.trans ⟨rfl, rfl, Nat.le_refl _, fun _ _ => rfl⟩), NX⟩
      · have z1 : ¬ (k : Int) < 17 := by omega
        have EN : Hid (Ending.returned (.int .i64 (i0 : Int)) = Ending.returned (.int .i64 (T : Int))) := Lib.hid (by rw [← HT.out, if_neg (by rw [mrk1_no (fun j hj => K.out j (by omega))]; simp)]; rfl)
        go_wp2_with fail
        go_ret
        exact ⟨EN.out, G.out⟩
  · have zl : ¬ (i0 : Int) + 1 < (s.size : Int) := by omega
    clear hno
    go_enter Tryd.func33, Tryd.ntmps33
    go_wp2_with fail
    clear zl
    go_loopg [7] 17 (fun gk va wr => ∃ k : Nat, va = .int .i64 (k : Int) ∧ k ≤ 17 ∧ 17 - k ≤ gk ∧ Hid (Low w wr) ∧ Hid (∀ j, j < k → (oneB j == gb s i0) = false))
    case atStart => exact ⟨0, rfl, by omega, by omega, Lib.hid (Low.refl _), Lib.hid (fun j hj => absurd hj (Nat.not_lt_zero _))⟩
    case round =>
      obtain ⟨k, rfl, hk, hg, G, K⟩ := hrel
      by_cases hlt : k < 17
      · have z1 : (k : Int) < 17 := by omega
        have HR := one_run k hlt
        obtain ⟨c, hc⟩ : ∃ c, oneB k = c := ⟨_, rfl⟩
        rw [hc] at HR
        have q1 : ((c.toNat : Int) == (s[i0].toNat : Int)) = (c == gb s i0) := by rw [gb_lt hi0]; exact eqb c (gb s i0)
        cases h1 : c == gb s i0 with
        | true =>
          have EN : Hid (Ending.returned (.int .i64 ((i0 : Int) + 1)) = Ending.returned (.int .i64 (T : Int))) := Lib.hid (by rw [← HT.out, if_pos (mrk1_yes hlt (by rw [hc]; exact h1))]; simp)
          rw [h1] at q1
          clear h1 hc
          go_wp2_with fail
          go_region
          all_goals (try go_wp2)
          all_goals go_ret
          all_goals exact ⟨EN.out, by first | exact G.out | exact G.out.trans (Low.drewN _ _) | exact G.out.trans ⟨rfl, rfl, Nat.le_refl _, fun _ _ => rfl⟩⟩
        | false =>
          have NX : Hid (∀ j, j < k + 1 → (oneB j == gb s i0) = false) := Lib.hid fun j hj => by
            rcases Nat.lt_or_ge j k with h | h
            · exact K.out j h
            · rw [show j = k from by omega, hc]; exact h1
          rw [h1] at q1
          clear h1 hc
          go_wp2_with fail
          go_region
          all_goals (try go_wp2)
          all_goals go_roundg (17 - (k + 1))
          all_goals first | omega | exact ⟨k + 1, by go_num, by omega, by omega, Lib.hid (by first | exact G.out | exact G.out.trans (Low.drewN _ _) | exact G.out.trans ⟨rfl, rfl, Nat.le_refl _, fun _ _ => rfl⟩), NX⟩
      · have z1 : ¬ (k : Int) < 17 := by omega
        have EN : Hid (Ending.returned (.int .i64 (i0 : Int)) = Ending.returned (.int .i64 (T : Int))) := Lib.hid (by rw [← HT.out, if_neg (by rw [mrk1_no (fun j hj => K.out j (by omega))]; simp)]; rfl)
        go_wp2_with fail
        go_ret
        exact ⟨EN.out, G.out⟩
set_option maxHeartbeats 1600000 in
theorem refMark_hi (s : ByteArray) (hs : s.size ≤ 4294967294) (i0 : Nat) (hi0 : i0 + 1 < s.size) (hy : mrk2 (gb s i0) (gb s (i0 + 1)) = true) (w : World) :
    Calls Tryd.prog 33 #[.string s, .int .i64 (i0 : Int)] w fun e w' => e = .returned (.int .i64 ((i0 + mrkN (s.data.toList.drop i0) : Nat) : Int)) ∧ w = w' := by
  have EN : Hid (Ending.returned (.int .i64 ((i0 : Int) + 2)) = Ending.returned (.int .i64 ((i0 + mrkN (s.data.toList.drop i0) : Nat) : Int))) := Lib.hid (by rw [mrkk_two hi0 hy]; simp)
  generalize i0 + mrkN (s.data.toList.drop i0) = T at *
  have zl : (i0 : Int) + 1 < (s.size : Int) := by omega
  have zl2 : (i0 : Int) + 2 ≤ (s.size : Int) := by omega
  unfold mrk2 at hy
  rw [← two_eq hi0 58 58] at hy
  rw [← two_eq hi0 61 61] at hy
  rw [← two_eq hi0 33 61] at hy
  rw [← two_eq hi0 60 61] at hy
  rw [← two_eq hi0 62 61] at hy
  rw [← two_eq hi0 38 38] at hy
  rw [← two_eq hi0 124 124] at hy
  cases b1 : (s.extract i0 (i0 + 2)).toList == [58, 58] with
  | true =>
    clear hy
    go_enter Tryd.func33, Tryd.ntmps33
    go_wp2_with fail
    go_ret
    exact ⟨EN.out, rfl⟩
  | false =>
    cases b2 : (s.extract i0 (i0 + 2)).toList == [61, 61] with
    | true =>
      clear hy
      go_enter Tryd.func33, Tryd.ntmps33
      go_wp2_with fail
      go_ret
      exact ⟨EN.out, rfl⟩
    | false =>
      cases b3 : (s.extract i0 (i0 + 2)).toList == [33, 61] with
      | true =>
        clear hy
        go_enter Tryd.func33, Tryd.ntmps33
        go_wp2_with fail
        go_ret
        exact ⟨EN.out, rfl⟩
      | false =>
        cases b4 : (s.extract i0 (i0 + 2)).toList == [60, 61] with
        | true =>
          clear hy
          go_enter Tryd.func33, Tryd.ntmps33
          go_wp2_with fail
          go_ret
          exact ⟨EN.out, rfl⟩
        | false =>
          cases b5 : (s.extract i0 (i0 + 2)).toList == [62, 61] with
          | true =>
            clear hy
            go_enter Tryd.func33, Tryd.ntmps33
            go_wp2_with fail
            go_ret
            exact ⟨EN.out, rfl⟩
          | false =>
            cases b6 : (s.extract i0 (i0 + 2)).toList == [38, 38] with
            | true =>
              clear hy
              go_enter Tryd.func33, Tryd.ntmps33
              go_wp2_with fail
              go_ret
              exact ⟨EN.out, rfl⟩
            | false =>
              cases b7 : (s.extract i0 (i0 + 2)).toList == [124, 124] with
              | true =>
                clear hy
                go_enter Tryd.func33, Tryd.ntmps33
                go_wp2_with fail
                go_ret
                exact ⟨EN.out, rfl⟩
              | false =>
                rw [b1, b2, b3, b4, b5, b6, b7] at hy
                exact absurd hy (by decide)
theorem refMark_c (s : ByteArray) (hs : s.size ≤ 4294967294) (i0 : Nat) (hi0 : i0 < s.size) (w : World) :
    Calls Tryd.prog 33 #[.string s, .int .i64 (i0 : Int)] w fun e w' => e = .returned (.int .i64 ((i0 + mrkN (s.data.toList.drop i0) : Nat) : Int)) ∧ Low w w' := by
  by_cases h : i0 + 1 < s.size ∧ mrk2 (gb s i0) (gb s (i0 + 1)) = true
  · refine (refMark_hi s hs i0 h.1 h.2 w).mono ?_
    rintro e w' ⟨rfl, rfl⟩
    exact ⟨rfl, Low.refl _⟩
  · exact refMark_lo s hs i0 hi0 (fun h1 => by simpa using fun h2 => h ⟨h1, h2⟩) w
end Go.Proofs.YtdblkjcimegoeaaDoor
