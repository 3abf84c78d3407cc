/- Any number's digits are the document's, and read again they are it. No condition. -/
import Derived.Test.YtkppjchapiidpaaRefShow
import Derived.Test.YtkppjchapiidpaaAwake
namespace Go.Proofs.Ytkppjchapiidpaa
open Go.RowKit
theorem digB_dig (n : Nat) : isDig (digB n) = true ∧ (digB n).toNat = 48 + n % 10 := by
  have h : (digB n).toNat = 48 + n % 10 := by
    unfold digB
    rw [UInt8.toNat_ofNat']
    omega
  exact ⟨by unfold isDig; rw [h]; simp; omega, h⟩
theorem decF_dig (f : Nat) : ∀ n : Nat, allDig (decF f n) = true := by
  induction f with
  | zero => intro n; simp [decF, allDig, (digB_dig n).1]
  | succ f ih =>
    intro n
    unfold decF
    split
    · simp [allDig, (digB_dig n).1]
    · rw [allDig_snoc, ih, (digB_dig n).1]; rfl
theorem decF_told (f : Nat) : ∀ n : Nat, n < 10 ^ (f + 1) → toldN (decF f n) = n := by
  induction f with
  | zero =>
    intro n h
    simp at h
    simp [decF, toldN, (digB_dig n).2]; omega
  | succ f ih =>
    intro n h
    unfold decF
    split
    · rename_i h1
      simp [toldN, (digB_dig n).2]; omega
    · have hq : n / 10 < 10 ^ (f + 1) := by rw [Nat.div_lt_iff_lt_mul (by decide), ← Nat.pow_succ]; exact h
      rw [toldN_snoc, ih _ hq, (digB_dig n).2]; omega
theorem decF_head (f : Nat) : ∀ n : Nat, n < 10 ^ (f + 1) → ∃ c r, decF f n = c :: r ∧ isDig c = true ∧ (c = 48 → n = 0 ∧ r = []) := by
  have one : ∀ n : Nat, n < 10 → ∃ c r, [digB n] = c :: r ∧ isDig c = true ∧ (c = 48 → n = 0 ∧ r = []) := fun n h => by
    refine ⟨digB n, [], rfl, (digB_dig n).1, fun e => ⟨?_, rfl⟩⟩
    have := (digB_dig n).2
    rw [e] at this
    have h48 : (48 : UInt8).toNat = 48 := rfl
    omega
  induction f with
  | zero => intro n h; exact one n (by simpa using h)
  | succ f ih =>
    intro n h
    unfold decF
    split
    · rename_i h1; exact one n h1
    · rename_i h1
      have hq : n / 10 < 10 ^ (f + 1) := by rw [Nat.div_lt_iff_lt_mul (by decide), ← Nat.pow_succ]; exact h
      obtain ⟨c, r, e, d, z⟩ := ih _ hq
      refine ⟨c, r ++ [digB n], by rw [e]; rfl, d, fun e48 => ?_⟩
      have := (z e48).1
      omega
theorem show_reads (a : Int) (ha : InR a) : readV (showL a) = a ∧ readE (showL a) = 0 := by
  obtain ⟨ha1, ha2⟩ := ha
  have hn : a.natAbs < 10 ^ (19 + 1) := by omega
  obtain ⟨c, r, e, d, z⟩ := decF_head 19 a.natAbs hn
  have ht : toldN (decD a.natAbs) = a.natAbs := decF_told 19 _ hn
  have hd : allDig (decD a.natAbs) = true := decF_dig 19 _
  have ec : decD a.natAbs = c :: r := e
  by_cases h : a < 0
  · have e1 : isMinus (showL a) = true := by rw [showL_neg h]; rfl
    have e2 : afterSign (showL a) = decD a.natAbs := by unfold afterSign; rw [if_pos e1, showL_neg h]; rfl
    have e3 : shownB true (decD a.natAbs) = true := by
      unfold shownB
      rw [hd, Bool.and_true, ec]
      have : c ≠ 48 := fun q => by have := (z q).1; omega
      simp [headOk, this]
    obtain ⟨r1, r2⟩ := read_num (l := showL a) (by rw [e1, e2]; exact e3)
    have e4 : numOf (showL a) = a := by unfold numOf; rw [e1, e2, ht]; unfold sgn; rw [if_pos rfl]; omega
    rw [r1, r2, e4]
    exact ⟨fitV_in ⟨ha1, ha2⟩, fitE_in ⟨ha1, ha2⟩⟩
  · have hc : c ≠ 45 := fun q => by
      rw [q] at d
      exact absurd d (by decide)
    have e1 : isMinus (showL a) = false := by rw [showL_pos h, ec]; simp [isMinus, hc]
    have e2 : afterSign (showL a) = decD a.natAbs := by unfold afterSign; rw [if_neg (by simp [e1]), showL_pos h]
    have e3 : shownB false (decD a.natAbs) = true := by
      unfold shownB
      rw [hd, Bool.and_true, ec]
      by_cases q : c = 48
      · rw [(z q).2]; simp [headOk]
      · simp [headOk, q]
    obtain ⟨r1, r2⟩ := read_num (l := showL a) (by rw [e1, e2]; exact e3)
    have e4 : numOf (showL a) = a := by unfold numOf; rw [e1, e2, ht]; unfold sgn; rw [if_neg (by simp)]; omega
    rw [r1, r2, e4]
    exact ⟨fitV_in ⟨ha1, ha2⟩, fitE_in ⟨ha1, ha2⟩⟩
theorem showL_len (a : Int) : (showL a).length ≤ 21 := by
  have := decF_len 19 a.natAbs
  unfold showL
  split
  · simp [decD]; omega
  · simp [decD]; omega
theorem read_shown (a : Int) (ha : InR a) (w : World) :
    Calls Try.prog 19 #[.string ⟨(showL a).toArray⟩] w fun e w' => e = .returned (.tuple #[.int .i64 a, .int .i64 0]) ∧ w' = w := by
  have hl := showL_len a
  have h := read_c ⟨(showL a).toArray⟩ (by show (showL a).toArray.size ≤ _; simp; omega) w
  rwa [show (ByteArray.mk (showL a).toArray).data.toList = showL a from rfl, (show_reads a ha).1, (show_reads a ha).2] at h
set_option maxHeartbeats 400000 in
theorem intsShows_walk (a0 : Int) (w0 : (Lit.int .i64 a0).wf = true) (w : World) :
    Calls Try.prog 6 #[.int .i64 a0] w fun e w' => e = .returned (.bool true) ∧ Grown w w' := by
  have ha : InR a0 := bounds_i64 w0
  go_enter Try.func6, Try.ntmps6
  go_wp2_with fail
  refine (awake_c _).mono ?_
  rintro e w1 ⟨rfl, hg⟩
  go_wp2_with fail
  refine (show_c a0 ha _).mono ?_
  rintro e w2 ⟨rfl, hg2⟩
  go_wp2_with fail
  refine (read_shown a0 ha _).mono ?_
  rintro e w' ⟨rfl, rfl⟩
  go_wp2_with fail
  refine (refShow a0 ha _).mono ?_
  rintro e w' ⟨rfl, rfl⟩
  go_wp2_with fail
  go_ret
  exact ⟨rfl, grown_trans hg hg2⟩
end Go.Proofs.Ytkppjchapiidpaa
