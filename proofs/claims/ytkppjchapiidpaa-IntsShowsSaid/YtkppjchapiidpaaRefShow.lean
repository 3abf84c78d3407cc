/- The document's Show: the digits of a number, by the rule of tens. No condition but that the argument is a 64-bit number. -/
import Derived.Test.YtkppjchapiidpaaShow
import Derived.Test.YtkppjchapiidpaaReadAll
namespace Go.Proofs.Ytkppjchapiidpaa
open Go.RowKit
theorem digit_cut (n : Nat) (h : n < 10) : (ByteArray.mk #[48, 49, 50, 51, 52, 53, 54, 55, 56, 57]).extract n (n + 1) = ⟨[digB n].toArray⟩ := by
  have k : ∀ n : Fin 10, (ByteArray.mk #[48, 49, 50, 51, 52, 53, 54, 55, 56, 57]).extract n.1 (n.1 + 1) = ⟨[digB n.1].toArray⟩ := by decide +kernel
  exact k ⟨n, h⟩
theorem retStr {a b : ByteArray} (h : a = b) : Ending.returned (.string a) = .returned (.string b) := by rw [h]
theorem digB_mod (n : Nat) : digB (n % 10) = digB n := by unfold digB; rw [Nat.mod_mod]
set_option maxHeartbeats 400000 in
theorem refDigit (n : Nat) (h : n < 10) (w : World) :
    Calls Try.prog 33 #[.int .u64 (n : Int)] w fun e w' => e = .returned (.string ⟨[digB n].toArray⟩) ∧ w' = w := by
  go_enter Try.func33, Try.ntmps33
  go_wp2_with fail
  go_ret
  exact ⟨retStr (digit_cut n h), rfl⟩
theorem refDigit_m (n : Nat) (h : n < 10) (m : Int) (hm : m = (n : Int)) (w : World) :
    Calls Try.prog 33 #[.int .u64 m] w fun e w' => e = .returned (.string ⟨[digB n].toArray⟩) ∧ w' = w := by
  subst hm; exact refDigit n h w
theorem decF_len (f : Nat) : ∀ n : Nat, (decF f n).length ≤ f + 1 := by
  induction f with
  | zero => intro n; exact Nat.le_refl _
  | succ f ih =>
    intro n
    have := ih (n / 10)
    unfold decF
    split
    · simp
    · simp; omega
theorem app_lists (x y : List UInt8) : (ByteArray.mk x.toArray) ++ (ByteArray.mk y.toArray) = ByteArray.mk (x ++ y).toArray := by
  apply ByteArray.ext
  rw [ByteArray.data_append]
  simp
set_option maxHeartbeats 400000 in
theorem refDigits (f : Nat) : ∀ (n : Nat) (m : Int) (w : World), m = (n : Int) → n < 10 ^ (f + 1) → n ≤ 18446744073709551615 → f ≤ 1000 →
    Calls Try.prog 33 #[.int .u64 m] w fun e w' => e = .returned (.string ⟨(decF f n).toArray⟩) ∧ w' = w := by
  induction f with
  | zero =>
    intro n m w hm h1 _ _
    subst hm
    exact refDigit n (by simpa using h1) w
  | succ f ih =>
    intro n m w hm h1 h2 hf
    subst hm
    by_cases h : n < 10
    · rw [decF_one _ _ h]; exact refDigit n h w
    · have hq : n / 10 < 10 ^ (f + 1) := by rw [Nat.div_lt_iff_lt_mul (by decide), ← Nat.pow_succ]; exact h1
      have hlen := decF_len f (n / 10)
      have IH := Lib.hid ih
      clear ih
      go_enter Try.func33, Try.ntmps33
      go_wp2_with fail
      refine (IH.out (n / 10) _ _ (by omega) hq (by omega) (by omega)).mono ?_
      rintro e w' ⟨rfl, rfl⟩
      go_wp2_with fail
      refine (refDigit_m (n % 10) (by omega) _ (by omega) _).mono ?_
      rintro e w' ⟨rfl, rfl⟩
      go_wp2_with fail
      go_ret
      exact ⟨retStr (by
        rw [app_lists]
        have e : decF (f + 1) n = decF f (n / 10) ++ [digB n] := if_neg h
        rw [e, ← digB_mod n]), rfl⟩
theorem refShow (a : Int) (ha : InR a) (w : World) :
    Calls Try.prog 22 #[.int .i64 a] w fun e w' => e = .returned (.string ⟨(showL a).toArray⟩) ∧ w' = w := by
  obtain ⟨ha1, ha2⟩ := ha
  have hl := decF_len 19 a.natAbs
  by_cases h : a < 0
  · have hw : IntKind.u64.wrap (-IntKind.u64.wrap a) = (a.natAbs : Int) := by rw [u64w, u64w]; omega
    have E := Lib.hid (showL_neg h)
    have HW := Lib.hid hw
    clear hw
    go_enter Try.func22, Try.ntmps22
    go_wp2_with fail
    refine (refDigits 19 a.natAbs _ _ HW.out (by omega) (by omega) (by omega)).mono ?_
    rintro e w' ⟨rfl, rfl⟩
    go_wp2_with fail
    go_ret
    exact ⟨retStr (by rw [E.out]; exact app_lists [45] _), rfl⟩
  · have hw : IntKind.u64.wrap a = (a.natAbs : Int) := by rw [u64w]; omega
    have E := Lib.hid (showL_pos h)
    have HW := Lib.hid hw
    clear hw
    have h0 : 0 ≤ a := by omega
    go_enter Try.func22, Try.ntmps22
    go_wp2_with fail
    refine (refDigits 19 a.natAbs _ _ (by omega) (by omega) (by omega) (by omega)).mono ?_
    rintro e w' ⟨rfl, rfl⟩
    go_wp2_with fail
    go_ret
    exact ⟨retStr (by rw [E.out]; rfl), rfl⟩
end Go.Proofs.Ytkppjchapiidpaa
