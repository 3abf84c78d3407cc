/- texts.Name and the reference's: is a text a name? Condition: the length that any string has. -/
import Derived.Test.YtijjbfdbhfjfmaaNameL
import Derived.Test.YtijjbfdbhfjfmaaLow
import Derived.WalkLawsBesides
import Derived.WalkSpells
namespace Go.Proofs.Ytijjbfdbhfjfmaa
open Go.RowKit
theorem ne_list {d : ByteArray} (h : 0 < d.size) : d.toList.isEmpty = false ∧ ¬ d.toList = [] := by
  rw [ByteArray.toList_eq]
  have : d.data.toList ≠ [] := fun e => by
    have := congrArg List.length e
    simp at this
    rw [this] at h; exact absurd h (by decide)
  exact ⟨by simpa using this, this⟩
def OkTo (s : ByteArray) (k : Nat) : Prop := (s.data.toList.take k).all namB = true
theorem ok_next {s : ByteArray} {k : Nat} (h : k < s.size) (ho : OkTo s k) (hc : namB s[k] = true) : OkTo s (k + 1) := all_take (by simpa using h) ho hc
theorem ok_not {s : ByteArray} {k : Nat} (h : k < s.size) (hc : namB s[k] = false) : s.data.toList.all namB = false := all_not (k := k) (by simpa using h) hc
theorem ok_end {s : ByteArray} {k : Nat} (h : s.size ≤ k) (ho : OkTo s k) : s.data.toList.all namB = true := by
  unfold OkTo at ho; rwa [List.take_of_length_le (by simpa using h)] at ho
theorem byte_ne {c : UInt8} {n : UInt8} (h : (c == n) = false) : ((c.toNat : Int) == (n.toNat : Int)) = false := by
  rw [beq_eq_false_iff_ne] at *; intro e; exact h (UInt8.toNat_inj.1 (by omega))
theorem byte_eq {c : UInt8} {n : UInt8} (h : (c == n) = true) : ((c.toNat : Int) == (n.toNat : Int)) = true := by
  rw [beq_iff_eq] at *; rw [h]
set_option maxHeartbeats 800000 in
theorem name_c (s : ByteArray) (hs : s.size ≤ 9223372036854775807) (w : World) :
    Calls Try.prog 52 #[.string s] w fun e w' => e = .returned (.bool (nameB s.data.toList)) ∧ w = w' := by
  by_cases h0 : 0 < s.size
  · obtain ⟨g1, g2⟩ := ne_list h0
    cases hd : digB s[0] with
    | true =>
      have E := Lib.hid (name_dig (l := s.data.toList) (by simpa using h0) hd)
      have D := Lib.hid hd
      clear hd
      go_enter Try.func52, Try.ntmps52
      go_wp2_with fail
      refine (digit_c _ _).mono ?_
      rintro e w' ⟨rfl, rfl⟩
      rw [D.out]
      go_wp2
      go_ret
      exact ⟨retBN E.out.symm, rfl⟩
    | false =>
      have E := Lib.hid (name_all (l := s.data.toList) (by simpa using h0) hd)
      have D := Lib.hid hd
      clear hd
      go_enter Try.func52, Try.ntmps52
      go_wp2_with fail
      refine (digit_c _ _).mono ?_
      rintro e w' ⟨rfl, rfl⟩
      rw [D.out]
      go_wp2_with fail
      go_loop [3, 13] (fun _ i => ∃ k : Nat, k ≤ s.size ∧ i = .int .i64 k ∧ OkTo s k) (fun _ i => s.size - (intOf i).toNat)
      case atStart => exact ⟨0, Nat.zero_le _, rfl, rfl⟩
      case round =>
        obtain ⟨k, hk, rfl, hok⟩ := hrel
        by_cases hlt : k < s.size
        · obtain ⟨c, hc⟩ : ∃ c, s[k] = c := ⟨_, rfl⟩
          have HC := Lib.hid hc
          have N1 := fun h => ok_next hlt hok (by rw [hc]; exact h)
          have N2 := fun h => ok_not hlt (by rw [hc]; exact h)
          clear hc
          cases hl : letB c with
          | true =>
            have NX := Lib.hid (N1 (by unfold namB; rw [hl]; rfl))
            have HL := Lib.hid hl
            clear hl N1 N2
            go_wp2_with fail
            rw [HC.out]
            refine (letter_c _ _).mono ?_
            rintro e w' ⟨rfl, rfl⟩
            rw [HL.out]
            go_wp2_with fail
            go_round
            case rel => exact ⟨k + 1, by omega, by go_num, NX.out⟩
            case measure => simp [intOf]; omega
          | false =>
            cases hg : digB c with
            | true =>
              have NX := Lib.hid (N1 (by unfold namB; rw [hl, hg]; rfl))
              have HL := Lib.hid hl
              have HG := Lib.hid hg
              clear hl hg N1 N2
              go_wp2_with fail
              rw [HC.out]
              refine (letter_c _ _).mono ?_
              rintro e w' ⟨rfl, rfl⟩
              rw [HL.out]
              go_wp2_with fail
              rw [HC.out]
              refine (digit_c _ _).mono ?_
              rintro e w' ⟨rfl, rfl⟩
              rw [HG.out]
              go_wp2_with fail
              go_round
              case rel => exact ⟨k + 1, by omega, by go_num, NX.out⟩
              case measure => simp [intOf]; omega
            | false =>
              cases hu : c == 95 with
              | true =>
                have NX := Lib.hid (N1 (by unfold namB; rw [hl, hg, hu]; rfl))
                have HL := Lib.hid hl
                have HG := Lib.hid hg
                have hu1 : ((s[k].toNat : Int) == 95) = true := by have := byte_eq hu; rw [HC.out]; exact this
                have hu2 : ((s[k].toNat : Int) != 95) = false := by unfold bne; rw [hu1]; rfl
                clear hl hg N1 N2 hu
                go_wp2_with fail
                rw [HC.out]
                refine (letter_c _ _).mono ?_
                rintro e w' ⟨rfl, rfl⟩
                rw [HL.out]
                go_wp2_with fail
                rw [HC.out]
                refine (digit_c _ _).mono ?_
                rintro e w' ⟨rfl, rfl⟩
                rw [HG.out]
                go_wp2_with fail
                go_round
                case rel => exact ⟨k + 1, by omega, by go_num, NX.out⟩
                case measure => simp [intOf]; omega
              | false =>
                have NX := Lib.hid (N2 (by unfold namB; rw [hl, hg, hu]; rfl))
                have HL := Lib.hid hl
                have HG := Lib.hid hg
                have hu1 : ((s[k].toNat : Int) == 95) = false := by have := byte_ne hu; rw [HC.out]; exact this
                have hu2 : ((s[k].toNat : Int) != 95) = true := by unfold bne; rw [hu1]; rfl
                clear hl hg N1 N2 hu
                go_wp2_with fail
                rw [HC.out]
                refine (letter_c _ _).mono ?_
                rintro e w' ⟨rfl, rfl⟩
                rw [HL.out]
                go_wp2_with fail
                rw [HC.out]
                refine (digit_c _ _).mono ?_
                rintro e w' ⟨rfl, rfl⟩
                rw [HG.out]
                go_wp2_with fail
                go_ret
                exact ⟨retBN (by rw [E.out, NX.out]), rfl⟩
        · have NX := Lib.hid (ok_end (s := s) (k := k) (by omega) hok)
          go_wp2_with fail
          go_ret
          exact ⟨retBN (by rw [E.out, NX.out]), rfl⟩
  · have h1 : s.toList = [] := by rw [ByteArray.toList_eq]; exact List.eq_nil_of_length_eq_zero (show s.size = 0 by omega)
    have h2 : s.toList.isEmpty = true := by rw [h1]; rfl
    have E : Hid (nameB s.data.toList = false) := by
      show _ = _
      rw [show s.data.toList = [] from List.eq_nil_of_length_eq_zero (show s.size = 0 by omega)]; rfl
    clear h1
    go_enter Try.func52, Try.ntmps52
    go_wp2
    go_ret
    exact ⟨retBN E.out.symm, rfl⟩
end Go.Proofs.Ytijjbfdbhfjfmaa
