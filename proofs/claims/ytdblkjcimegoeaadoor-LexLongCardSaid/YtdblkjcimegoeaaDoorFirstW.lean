/- texts.first: the byte that the beginning of a text tells. Conditions: there is a byte; the length that any string has. -/
import Derived.Test.YtdblkjcimegoeaaDoorQuoteL
import Derived.Test.YtdblkjcimegoeaaDoorUnqP
import Derived.Test.YtdblkjcimegoeaaDoorShelf
import Derived.Deep.QuietTactic
import Derived.BigQuiet
import Derived.WalkLawsBesides
import Derived.WalkSpells
import Derived.Outline
namespace Go.Proofs.YtdblkjcimegoeaaDoor
open Go.RowKit
def fstV (l : List UInt8) : UInt8 × Nat := (fstL l).getD (0, 0)
def hexI (c : UInt8) : Int := if hexV c < 16 then (hexV c : Int) else -1
theorem hexI_in {c : UInt8} (h : hexV c < 16) : hexI c = hexV c := if_pos h
theorem hexI_out {c : UInt8} (h : ¬ hexV c < 16) : hexI c = -1 := if_neg h
theorem ixb (c : UInt8) : Lib.indexByte [48, 49, 50, 51, 52, 53, 54, 55, 56, 57, 97, 98, 99, 100, 101, 102] c = hexI c := by
  have : ∀ m : Fin 256, Lib.indexByte [48, 49, 50, 51, 52, 53, 54, 55, 56, 57, 97, 98, 99, 100, 101, 102] (UInt8.ofNat m.val) = hexI (UInt8.ofNat m.val) := by decide +kernel
  have e : UInt8.ofNat c.toNat = c := by simp
  have := this ⟨c.toNat, c.toNat_lt⟩
  simp only [e] at this
  exact this
theorem ixb_c (c : UInt8) (w : World) :
    Calls Tryd.prog 53 #[.string ⟨#[48, 49, 50, 51, 52, 53, 54, 55, 56, 57, 97, 98, 99, 100, 101, 102]⟩, .int .u8 c.toNat] w fun e w' => e = .returned (.int .i64 (hexI c)) ∧ w' = w := by
  have h := Tryd.strings_IndexByte ⟨#[48, 49, 50, 51, 52, 53, 54, 55, 56, 57, 97, 98, 99, 100, 101, 102]⟩ (c.toNat : Int) w
  have e : ((c.toNat : Int)).toNat.toUInt8 = c := by simp
  rw [e, show (ByteArray.mk #[48, 49, 50, 51, 52, 53, 54, 55, 56, 57, 97, 98, 99, 100, 101, 102]).data.toList = [48, 49, 50, 51, 52, 53, 54, 55, 56, 57, 97, 98, 99, 100, 101, 102] from rfl, ixb] at h
  exact h
theorem lst1 {s : ByteArray} (h : 0 < s.size) : s.data.toList = s[0] :: s.data.toList.drop 1 := by
  have h2 : s.data.toList.drop 0 = s[0] :: s.data.toList.drop 1 := List.drop_eq_getElem_cons (i := 0) (show 0 < s.data.toList.length from h)
  rwa [List.drop_zero] at h2
theorem lst2 {s : ByteArray} (h : 1 < s.size) : s.data.toList = s[0] :: s[1] :: s.data.toList.drop 2 := by
  have h2 : s.data.toList.drop 1 = s[1] :: s.data.toList.drop 2 := List.drop_eq_getElem_cons (i := 1) (show 1 < s.data.toList.length from h)
  rw [← h2]; exact lst1 (by omega)
theorem lst4 {s : ByteArray} (h : 3 < s.size) : s.data.toList = s[0] :: s[1] :: s[2] :: s[3] :: s.data.toList.drop 4 := by
  have h2 : s.data.toList.drop 2 = s[2] :: s.data.toList.drop 3 := List.drop_eq_getElem_cons (i := 2) (show 2 < s.data.toList.length by have : s.data.toList.length = s.size := rfl; omega)
  have h3 : s.data.toList.drop 3 = s[3] :: s.data.toList.drop 4 := List.drop_eq_getElem_cons (i := 3) (show 3 < s.data.toList.length from h)
  rw [← h3, ← h2]; exact lst2 (by omega)
theorem fst_34 {s : ByteArray} (h : 0 < s.size) (h1 : (s[0] == 92) = false) (h2 : (s[0] == 34) = true) : fstV s.data.toList = (0, 0) := by
  rw [lst1 h]; unfold fstV fstL; simp [h1, h2]
theorem fst_no {s : ByteArray} (h : 0 < s.size) (h1 : (s[0] == 92) = false) (h2 : prinB s[0] = false) : fstV s.data.toList = (0, 0) := by
  rw [lst1 h]; unfold fstV fstL; simp [h1, h2]
theorem fst_one {s : ByteArray} (h : 0 < s.size) (h1 : (s[0] == 92) = false) (h2 : (s[0] == 34) = false) (h3 : prinB s[0] = true) : fstV s.data.toList = (s[0], 1) := by
  rw [lst1 h]; unfold fstV fstL; simp [h1, h2, h3]
theorem fst_short {s : ByteArray} (h : 0 < s.size) (h1 : (s[0] == 92) = true) (h2 : s.size < 2) : fstV s.data.toList = (0, 0) := by
  have : s.data.toList.drop 1 = [] := List.drop_eq_nil_of_le (show s.size ≤ 1 by omega)
  rw [lst1 h, this]; unfold fstV fstL; simp [h1]
theorem fst_mark {s : ByteArray} (h : 1 < s.size) (h1 : (s[0] == 92) = true) (h2 : markB s[1] = true) : fstV s.data.toList = (s[1], 2) := by
  rw [lst2 h]; unfold fstV fstL; simp [h1, h2]
theorem fst_three {s : ByteArray} (h : 1 < s.size) (h1 : (s[0] == 92) = true) (h2 : markB s[1] = false) (h3 : s.size < 4) : fstV s.data.toList = (0, 0) := by
  rw [lst2 h]
  have hl : (s.data.toList.drop 2).length ≤ 1 := by rw [List.length_drop]; have : s.data.toList.length = s.size := rfl; omega
  generalize s.data.toList.drop 2 = d at hl
  unfold fstV fstL
  match d, hl with
  | [], _ => simp [h1, h2]
  | [_], _ => simp [h1, h2]
theorem fst_noX {s : ByteArray} (h : 3 < s.size) (h1 : (s[0] == 92) = true) (h2 : markB s[1] = false) (h3 : (s[1] == 120) = false) : fstV s.data.toList = (0, 0) := by
  rw [lst4 h]; unfold fstV fstL; simp [h1, h2, h3]
theorem fst_noA {s : ByteArray} (h : 3 < s.size) (h1 : (s[0] == 92) = true) (h2 : markB s[1] = false) (h3 : ¬ hexV s[2] < 16) : fstV s.data.toList = (0, 0) := by
  rw [lst4 h]; unfold fstV fstL; simp [h1, h2, h3]
theorem fst_noB {s : ByteArray} (h : 3 < s.size) (h1 : (s[0] == 92) = true) (h2 : markB s[1] = false) (h3 : ¬ hexV s[3] < 16) : fstV s.data.toList = (0, 0) := by
  rw [lst4 h]; unfold fstV fstL; simp [h1, h2, h3]
theorem fst_noP {s : ByteArray} (h : 3 < s.size) (h1 : (s[0] == 92) = true) (h2 : markB s[1] = false) (h3 : prinB (hexB s[2] s[3]) = true) : fstV s.data.toList = (0, 0) := by
  rw [lst4 h]; unfold fstV fstL; simp [h1, h2, h3]
theorem fst_hex {s : ByteArray} (h : 3 < s.size) (h1 : (s[0] == 92) = true) (h2 : markB s[1] = false) (hx : (s[1] == 120) = true) (ha : hexV s[2] < 16) (hb : hexV s[3] < 16) (h3 : prinB (hexB s[2] s[3]) = false) : fstV s.data.toList = (hexB s[2] s[3], 4) := by
  rw [lst4 h]; unfold fstV fstL; simp [h1, h2, hx, ha, hb, h3]
theorem bne_byte (c n : UInt8) : ((c.toNat : Int) != (n.toNat : Int)) = !(c == n) := by rw [← eq_byte]; rfl
theorem ret2 {k1 k2 : IntKind} {a b c d : Int} (h : a = b) (g : c = d) : Ending.returned (.tuple #[.int k1 a, .int k2 c]) = .returned (.tuple #[.int k1 b, .int k2 d]) := by rw [h, g]
theorem or_hex (a b : UInt8) (ha : hexV a < 16) (hb : hexV b < 16) : bits BinOp.or IntKind.i64 (hexI a * 16) (hexI b) % 256 = ((hexB a b).toNat : Int) := by
  have h : ∀ m n : Fin 16, bits BinOp.or IntKind.i64 ((m.val : Int) * 16) (n.val : Int) % 256 = ((16 * m.val + n.val : Nat) : Int) := by decide +kernel
  rw [hexI_in ha, hexI_in hb, hexB_nat ha hb]
  exact h ⟨hexV a, ha⟩ ⟨hexV b, hb⟩
set_option maxHeartbeats 3200000 in
theorem first_c (s : ByteArray) (hs : s.size ≤ 9223372036854775807) (h0 : 0 < s.size) (w : World) :
    Calls Tryd.prog 45 #[.string s] w fun e w' => e = .returned (.tuple #[.int .u8 (fstV s.data.toList).1.toNat, .int .i64 (fstV s.data.toList).2]) ∧ ∃ n, w' = w.drewN n := by
  have N92 : ((s[0].toNat : Int) != 92) = !(s[0] == 92) := bne_byte s[0] 92
  have E34 : ((s[0].toNat : Int) == 34) = (s[0] == 34) := eq_byte s[0] 34
  cases h92 : s[0] == 92 with
  | false =>
    rw [h92] at N92
    cases h34 : s[0] == 34 with
    | true =>
      rw [h34] at E34
      have F := Lib.hid (fst_34 h0 h92 h34)
      clear h92 h34
      go_enter Tryd.func45, Tryd.ntmps45
      go_wp2_with fail
      go_ret2
      exact ⟨ret2 (by rw [F.out]; rfl) (by rw [F.out]; rfl), 0, rfl⟩
    | false =>
      rw [h34] at E34
      cases hp : prinB s[0] with
      | false =>
        have F := Lib.hid (fst_no h0 h92 hp)
        have HP := Lib.hid hp
        clear h92 h34 hp
        go_enter Tryd.func45, Tryd.ntmps45
        go_wp2_with (go_at_call 51; refine (printed_c _ _).mono ?_; rintro e w' ⟨rfl, rfl⟩; rw [HP.out])
        go_ret2
        exact ⟨ret2 (by rw [F.out]; rfl) (by rw [F.out]; rfl), 0, rfl⟩
      | true =>
        have F := Lib.hid (fst_one h0 h92 h34 hp)
        have HP := Lib.hid hp
        clear h92 h34 hp
        go_enter Tryd.func45, Tryd.ntmps45
        go_wp2_with (go_at_call 51; refine (printed_c _ _).mono ?_; rintro e w' ⟨rfl, rfl⟩; rw [HP.out])
        go_ret2
        exact ⟨ret2 (by rw [F.out]) (by rw [F.out]; rfl), 0, rfl⟩
  | true =>
    rw [h92] at N92
    by_cases hl2 : s.size < 2
    · have F := Lib.hid (fst_short h0 h92 hl2)
      clear h92
      go_enter Tryd.func45, Tryd.ntmps45
      go_wp2_with fail
      go_ret2
      exact ⟨ret2 (by rw [F.out]; rfl) (by rw [F.out]; rfl), 0, rfl⟩
    · have h1 : 1 < s.size := by omega
      cases hm : markB s[1] with
      | true =>
        have F := Lib.hid (fst_mark h1 h92 hm)
        have HM := Lib.hid hm
        clear h92 hm
        go_enter Tryd.func45, Tryd.ntmps45
        go_wp2_with (go_at_call 52; refine (marked_c _ _).mono ?_; rintro e w' ⟨rfl, rfl⟩; rw [HM.out])
        go_ret2
        exact ⟨ret2 (by rw [F.out]) (by rw [F.out]; rfl), 0, rfl⟩
      | false =>
        by_cases hl4 : s.size < 4
        · have F := Lib.hid (fst_three h1 h92 hm hl4)
          have HM := Lib.hid hm
          clear h92 hm
          go_enter Tryd.func45, Tryd.ntmps45
          go_wp2_with (go_at_call 52; refine (marked_c _ _).mono ?_; rintro e w' ⟨rfl, rfl⟩; rw [HM.out])
          go_ret2
          exact ⟨ret2 (by rw [F.out]; rfl) (by rw [F.out]; rfl), 0, rfl⟩
        · have h3 : 3 < s.size := by omega
          have i2 : (2 : Int) < (s.size : Int) := by omega
          have i3 : (3 : Int) < (s.size : Int) := by omega
          have q4 : decide ((s.size : Int) < 4) = false := decide_eq_false (by omega)
          have N120 : ((s[1].toNat : Int) != 120) = !(s[1] == 120) := bne_byte s[1] 120
          have HM := Lib.hid hm
          cases hx : s[1] == 120 with
          | false =>
            have F := Lib.hid (fst_noX h3 h92 hm hx)
            rw [hx] at N120
            clear h92 hm hx
            go_enter Tryd.func45, Tryd.ntmps45
            go_wp2_with (go_at_call 52; refine (marked_c _ _).mono ?_; rintro e w' ⟨rfl, rfl⟩; rw [HM.out])
            go_ret2
            exact ⟨ret2 (by rw [F.out]; rfl) (by rw [F.out]; rfl), 0, rfl⟩
          | true =>
            rw [hx] at N120
            by_cases ha : hexV s[2] < 16
            · by_cases hb : hexV s[3] < 16
              · have IA := Lib.hid (hexI_in ha)
                have IB := Lib.hid (hexI_in hb)
                have ja : 0 ≤ hexI s[2] := by rw [IA.out]; omega
                have ja2 : hexI s[2] < 16 := by rw [IA.out]; omega
                have jb : 0 ≤ hexI s[3] := by rw [IB.out]; omega
                have jb2 : hexI s[3] < 16 := by rw [IB.out]; omega
                have FP := fun h => fst_noP h3 h92 hm h
                have FX := fun h => fst_hex h3 h92 hm hx ha hb h
                clear h92 hm hx
                have BX := Lib.hid (or_hex s[2] s[3] ha hb)
                clear ha hb
                cases hp : prinB (hexB s[2] s[3]) with
                | true =>
                  have F := Lib.hid (FP hp)
                  have HP := Lib.hid hp
                  clear FP FX hp
                  go_enter Tryd.func45, Tryd.ntmps45
                  go_wp2_with (go_at_call 52; refine (marked_c _ _).mono ?_; rintro e w' ⟨rfl, rfl⟩; rw [HM.out])
                  go_quiet ((go_at_call 53; exact Calls.quiet_of_same (ixb_c _ _)))
                  go_wp2_with (go_at_call 51; rw [BX.out]; refine (printed_c _ _).mono ?_; rintro e w' ⟨rfl, rfl⟩; rw [HP.out])
                  go_ret2
                  exact ⟨ret2 (by rw [F.out]; rfl) (by rw [F.out]; rfl), _, rfl⟩
                | false =>
                  have F := Lib.hid (FX hp)
                  have HP := Lib.hid hp
                  clear FP FX hp
                  go_enter Tryd.func45, Tryd.ntmps45
                  go_wp2_with (go_at_call 52; refine (marked_c _ _).mono ?_; rintro e w' ⟨rfl, rfl⟩; rw [HM.out])
                  go_quiet ((go_at_call 53; exact Calls.quiet_of_same (ixb_c _ _)))
                  go_wp2_with (go_at_call 51; rw [BX.out]; refine (printed_c _ _).mono ?_; rintro e w' ⟨rfl, rfl⟩; rw [HP.out])
                  go_ret2
                  exact ⟨ret2 (by rw [F.out]) (by rw [F.out]; rfl), _, rfl⟩
              · have IA := Lib.hid (hexI_in ha)
                have IB := Lib.hid (hexI_out hb)
                have ja : 0 ≤ hexI s[2] := by rw [IA.out]; omega
                have jb : hexI s[3] < 0 := by rw [IB.out]; omega
                have F := Lib.hid (fst_noB h3 h92 hm hb)
                clear h92 hm hx ha hb
                go_enter Tryd.func45, Tryd.ntmps45
                go_wp2_with (go_at_call 52; refine (marked_c _ _).mono ?_; rintro e w' ⟨rfl, rfl⟩; rw [HM.out])
                go_quiet ((go_at_call 53; exact Calls.quiet_of_same (ixb_c _ _)))
                go_wp2_with fail
                go_ret2
                exact ⟨ret2 (by rw [F.out]; rfl) (by rw [F.out]; rfl), _, rfl⟩
            · have IA := Lib.hid (hexI_out ha)
              have ja : hexI s[2] < 0 := by rw [IA.out]; omega
              have F := Lib.hid (fst_noA h3 h92 hm ha)
              clear h92 hm hx ha
              go_enter Tryd.func45, Tryd.ntmps45
              go_wp2_with (go_at_call 52; refine (marked_c _ _).mono ?_; rintro e w' ⟨rfl, rfl⟩; rw [HM.out])
              go_quiet ((go_at_call 53; exact Calls.quiet_of_same (ixb_c _ _)))
              go_wp2_with fail
              go_ret2
              exact ⟨ret2 (by rw [F.out]; rfl) (by rw [F.out]; rfl), _, rfl⟩
end Go.Proofs.YtdblkjcimegoeaaDoor
