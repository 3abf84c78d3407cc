/- texts.Quote: a text in quotes. Condition: the text is shorter than 2^32. texts.first: the byte that the beginning of a text tells. Conditions: there is a byte; the length that any string has. texts.Unquote: the text that stands in quotes. Condition: the text is shorter than 2^32. -/
import Derived.Test.YtflpidnkppljlaaDoorQts
import Derived.Test.YtflpidnkppljlaaDoorLxB
import Derived.Deep.RegionLaw
import Derived.WalkLawsBesides
import Derived.WalkSpells
import Derived.Outline
import Derived.Test.YtflpidnkppljlaaDoorShelf
import Derived.Deep.QuietTactic
import Derived.BigQuiet
import Derived.Test.YtflpidnkppljlaaDoorLxA
import Derived.Test.YtflpidnkppljlaaDoorNms
set_option linter.unusedVariables false
set_option linter.unnecessarySimpa false
set_option linter.unusedSimpArgs false
namespace Go.Proofs.YtflpidnkppljlaaDoor
open Go.RowKit
theorem retS {a b : List UInt8} (h : a = b) : Ending.returned (.string ⟨a.toArray⟩) = .returned (.string ⟨b.toArray⟩) := by rw [h]
theorem hex_run (n : Nat) (hn : n < 16) (m : Int) (hm : m = n) (w : World) :
    (Instr.index 9 (.string ⟨#[48, 49, 50, 51, 52, 53, 54, 55, 56, 57, 97, 98, 99, 100, 101, 102]⟩) (.int .u8 m)).run Tryd.prog w = .ok (.int .u8 (hexN n).toNat) w := by
  subst hm
  have h0 : (0 : Int) ≤ n ∧ (n : Int) < 16 := by omega
  have e := hexN_at ⟨n, hn⟩
  simp only [← e]
  go_simp
end Go.Proofs.YtflpidnkppljlaaDoor
namespace Go.Proofs.YtflpidnkppljlaaDoor
open Go.RowKit
def fstV (l : List UInt8) : UInt8 × Nat := (fstL l).getD (0, 0)
def hexI (c : UInt8) : Int := if hexV c < 16 then (hexV c : Int) else -1
theorem hexI_in {c : UInt8} (h : hexV c < 16) : hexI c = hexV c := if_pos h
theorem hexI_out {c : UInt8} (h : ¬ hexV c < 16) : hexI c = -1 := if_neg h
theorem ixb (c : UInt8) : Lib.indexByte [48, 49, 50, 51, 52, 53, 54, 55, 56, 57, 97, 98, 99, 100, 101, 102] c = hexI c := by
  have : ∀ m : Fin 256, Lib.indexByte [48, 49, 50, 51, 52, 53, 54, 55, 56, 57, 97, 98, 99, 100, 101, 102] (UInt8.ofNat m.val) = hexI (UInt8.ofNat m.val) := by decide +kernel
  have e : UInt8.ofNat c.toNat = c := by simp
  have := this ⟨c.toNat, c.toNat_lt⟩
  simp only [e] at this
  exact this
theorem ixb_c (c : UInt8) (w : World) :
    Calls Tryd.prog 64 #[.string ⟨#[48, 49, 50, 51, 52, 53, 54, 55, 56, 57, 97, 98, 99, 100, 101, 102]⟩, .int .u8 c.toNat] w fun e w' => e = .returned (.int .i64 (hexI c)) ∧ w' = w := by
  have h := Tryd.strings_IndexByte ⟨#[48, 49, 50, 51, 52, 53, 54, 55, 56, 57, 97, 98, 99, 100, 101, 102]⟩ (c.toNat : Int) w
  have e : ((c.toNat : Int)).toNat.toUInt8 = c := by simp
  rw [e, show (ByteArray.mk #[48, 49, 50, 51, 52, 53, 54, 55, 56, 57, 97, 98, 99, 100, 101, 102]).data.toList = [48, 49, 50, 51, 52, 53, 54, 55, 56, 57, 97, 98, 99, 100, 101, 102] from rfl, ixb] at h
  exact h
theorem lst1 {s : ByteArray} (h : 0 < s.size) : s.data.toList = s[0] :: s.data.toList.drop 1 := by
  have h2 : s.data.toList.drop 0 = s[0] :: s.data.toList.drop 1 := List.drop_eq_getElem_cons (i := 0) (show 0 < s.data.toList.length from h)
  rwa [List.drop_zero] at h2
theorem lst2 {s : ByteArray} (h : 1 < s.size) : s.data.toList = s[0] :: s[1] :: s.data.toList.drop 2 := by
  have h2 : s.data.toList.drop 1 = s[1] :: s.data.toList.drop 2 := List.drop_eq_getElem_cons (i := 1) (show 1 < s.data.toList.length from h)
  rw [← h2]; exact lst1 (by omega)
theorem lst4 {s : ByteArray} (h : 3 < s.size) : s.data.toList = s[0] :: s[1] :: s[2] :: s[3] :: s.data.toList.drop 4 := by
  have h2 : s.data.toList.drop 2 = s[2] :: s.data.toList.drop 3 := List.drop_eq_getElem_cons (i := 2) (show 2 < s.data.toList.length by have : s.data.toList.length = s.size := rfl; omega)
  have h3 : s.data.toList.drop 3 = s[3] :: s.data.toList.drop 4 := List.drop_eq_getElem_cons (i := 3) (show 3 < s.data.toList.length from h)
  rw [← h3, ← h2]; exact lst2 (by omega)
theorem fst_34 {s : ByteArray} (h : 0 < s.size) (h1 : (s[0] == 92) = false) (h2 : (s[0] == 34) = true) : fstV s.data.toList = (0, 0) := by
  rw [lst1 h]; unfold fstV fstL; simp [h1, h2]
theorem fst_no {s : ByteArray} (h : 0 < s.size) (h1 : (s[0] == 92) = false) (h2 : prinB s[0] = false) : fstV s.data.toList = (0, 0) := by
  rw [lst1 h]; unfold fstV fstL; simp [h1, h2]
theorem fst_one {s : ByteArray} (h : 0 < s.size) (h1 : (s[0] == 92) = false) (h2 : (s[0] == 34) = false) (h3 : prinB s[0] = true) : fstV s.data.toList = (s[0], 1) := by
  rw [lst1 h]; unfold fstV fstL; simp [h1, h2, h3]
theorem fst_short {s : ByteArray} (h : 0 < s.size) (h1 : (s[0] == 92) = true) (h2 : s.size < 2) : fstV s.data.toList = (0, 0) := by
  have : s.data.toList.drop 1 = [] := List.drop_eq_nil_of_le (show s.size ≤ 1 by omega)
  rw [lst1 h, this]; unfold fstV fstL; simp [h1]
theorem fst_mark {s : ByteArray} (h : 1 < s.size) (h1 : (s[0] == 92) = true) (h2 : markB s[1] = true) : fstV s.data.toList = (s[1], 2) := by
  rw [lst2 h]; unfold fstV fstL; simp [h1, h2]
theorem fst_three {s : ByteArray} (h : 1 < s.size) (h1 : (s[0] == 92) = true) (h2 : markB s[1] = false) (h3 : s.size < 4) : fstV s.data.toList = (0, 0) := by
  rw [lst2 h]
  have hl : (s.data.toList.drop 2).length ≤ 1 := by rw [List.length_drop]; have : s.data.toList.length = s.size := rfl; omega
  generalize s.data.toList.drop 2 = d at hl
  unfold fstV fstL
  match d, hl with
  | [], _ => simp [h1, h2]
  | [_], _ => simp [h1, h2]
theorem fst_noX {s : ByteArray} (h : 3 < s.size) (h1 : (s[0] == 92) = true) (h2 : markB s[1] = false) (h3 : (s[1] == 120) = false) : fstV s.data.toList = (0, 0) := by
  rw [lst4 h]; unfold fstV fstL; simp [h1, h2, h3]
theorem fst_noA {s : ByteArray} (h : 3 < s.size) (h1 : (s[0] == 92) = true) (h2 : markB s[1] = false) (h3 : ¬ hexV s[2] < 16) : fstV s.data.toList = (0, 0) := by
  rw [lst4 h]; unfold fstV fstL; simp [h1, h2, h3]
theorem fst_noB {s : ByteArray} (h : 3 < s.size) (h1 : (s[0] == 92) = true) (h2 : markB s[1] = false) (h3 : ¬ hexV s[3] < 16) : fstV s.data.toList = (0, 0) := by
  rw [lst4 h]; unfold fstV fstL; simp [h1, h2, h3]
theorem fst_noP {s : ByteArray} (h : 3 < s.size) (h1 : (s[0] == 92) = true) (h2 : markB s[1] = false) (h3 : prinB (hexB s[2] s[3]) = true) : fstV s.data.toList = (0, 0) := by
  rw [lst4 h]; unfold fstV fstL; simp [h1, h2, h3]
theorem fst_hex {s : ByteArray} (h : 3 < s.size) (h1 : (s[0] == 92) = true) (h2 : markB s[1] = false) (hx : (s[1] == 120) = true) (ha : hexV s[2] < 16) (hb : hexV s[3] < 16) (h3 : prinB (hexB s[2] s[3]) = false) : fstV s.data.toList = (hexB s[2] s[3], 4) := by
  rw [lst4 h]; unfold fstV fstL; simp [h1, h2, hx, ha, hb, h3]
theorem bne_byte (c n : UInt8) : ((c.toNat : Int) != (n.toNat : Int)) = !(c == n) := by rw [← eq_byte]; rfl
theorem ret2 {k1 k2 : IntKind} {a b c d : Int} (h : a = b) (g : c = d) : Ending.returned (.tuple #[.int k1 a, .int k2 c]) = .returned (.tuple #[.int k1 b, .int k2 d]) := by rw [h, g]
theorem or_hex (a b : UInt8) (ha : hexV a < 16) (hb : hexV b < 16) : bits BinOp.or IntKind.i64 (hexI a * 16) (hexI b) % 256 = ((hexB a b).toNat : Int) := by
  have h : ∀ m n : Fin 16, bits BinOp.or IntKind.i64 ((m.val : Int) * 16) (n.val : Int) % 256 = ((16 * m.val + n.val : Nat) : Int) := by decide +kernel
  rw [hexI_in ha, hexI_in hb, hexB_nat ha hb]
  exact h ⟨hexV a, ha⟩ ⟨hexV b, hb⟩
set_option maxHeartbeats 3200000 in
theorem first_c (s : ByteArray) (hs : s.size ≤ 9223372036854775807) (h0 : 0 < s.size) (w : World) :
    Calls Tryd.prog 51 #[.string s] w fun e w' => e = .returned (.tuple #[.int .u8 (fstV s.data.toList).1.toNat, .int .i64 (fstV s.data.toList).2]) ∧ ∃ n, w' = w.drewN n := by
  have N92 : ((s[0].toNat : Int) != 92) = !(s[0] == 92) := bne_byte s[0] 92
  have E34 : ((s[0].toNat : Int) == 34) = (s[0] == 34) := eq_byte s[0] 34
  cases h92 : s[0] == 92 with
  | false =>
    rw [h92] at N92
    cases h34 : s[0] == 34 with
    | true =>
      rw [h34] at E34
      have F := Lib.hid (fst_34 h0 h92 h34)
      clear h92 h34
      go_enter Tryd.func51, Tryd.ntmps51
      go_wp2_with fail
      go_ret2
      exact ⟨ret2 (by rw [F.out]; rfl) (by rw [F.out]; rfl), 0, rfl⟩
    | false =>
      rw [h34] at E34
      cases hp : prinB s[0] with
      | false =>
        have F := Lib.hid (fst_no h0 h92 hp)
        have HP := Lib.hid hp
        clear h92 h34 hp
        go_enter Tryd.func51, Tryd.ntmps51
        go_wp2_with (go_at_call 62; refine (printed_c _ _).mono ?_; rintro e w' ⟨rfl, rfl⟩; rw [HP.out])
        go_ret2
        exact ⟨ret2 (by rw [F.out]; rfl) (by rw [F.out]; rfl), 0, rfl⟩
      | true =>
        have F := Lib.hid (fst_one h0 h92 h34 hp)
        have HP := Lib.hid hp
        clear h92 h34 hp
        go_enter Tryd.func51, Tryd.ntmps51
        go_wp2_with (go_at_call 62; refine (printed_c _ _).mono ?_; rintro e w' ⟨rfl, rfl⟩; rw [HP.out])
        go_ret2
        exact ⟨ret2 (by rw [F.out]) (by rw [F.out]; rfl), 0, rfl⟩
  | true =>
    rw [h92] at N92
    by_cases hl2 : s.size < 2
    · have F := Lib.hid (fst_short h0 h92 hl2)
      clear h92
      go_enter Tryd.func51, Tryd.ntmps51
      go_wp2_with fail
      go_ret2
      exact ⟨ret2 (by rw [F.out]; rfl) (by rw [F.out]; rfl), 0, rfl⟩
    · have h1 : 1 < s.size := by omega
      cases hm : markB s[1] with
      | true =>
        have F := Lib.hid (fst_mark h1 h92 hm)
        have HM := Lib.hid hm
        clear h92 hm
        go_enter Tryd.func51, Tryd.ntmps51
        go_wp2_with (go_at_call 63; refine (marked_c _ _).mono ?_; rintro e w' ⟨rfl, rfl⟩; rw [HM.out])
        go_ret2
        exact ⟨ret2 (by rw [F.out]) (by rw [F.out]; rfl), 0, rfl⟩
      | false =>
        by_cases hl4 : s.size < 4
        · have F := Lib.hid (fst_three h1 h92 hm hl4)
          have HM := Lib.hid hm
          clear h92 hm
          go_enter Tryd.func51, Tryd.ntmps51
          go_wp2_with (go_at_call 63; refine (marked_c _ _).mono ?_; rintro e w' ⟨rfl, rfl⟩; rw [HM.out])
          go_ret2
          exact ⟨ret2 (by rw [F.out]; rfl) (by rw [F.out]; rfl), 0, rfl⟩
        · have h3 : 3 < s.size := by omega
          have i2 : (2 : Int) < (s.size : Int) := by omega
          have i3 : (3 : Int) < (s.size : Int) := by omega
          have q4 : decide ((s.size : Int) < 4) = false := decide_eq_false (by omega)
          have N120 : ((s[1].toNat : Int) != 120) = !(s[1] == 120) := bne_byte s[1] 120
          have HM := Lib.hid hm
          cases hx : s[1] == 120 with
          | false =>
            have F := Lib.hid (fst_noX h3 h92 hm hx)
            rw [hx] at N120
            clear h92 hm hx
            go_enter Tryd.func51, Tryd.ntmps51
            go_wp2_with (go_at_call 63; refine (marked_c _ _).mono ?_; rintro e w' ⟨rfl, rfl⟩; rw [HM.out])
            go_ret2
            exact ⟨ret2 (by rw [F.out]; rfl) (by rw [F.out]; rfl), 0, rfl⟩
          | true =>
            rw [hx] at N120
            by_cases ha : hexV s[2] < 16
            · by_cases hb : hexV s[3] < 16
              · have IA := Lib.hid (hexI_in ha)
                have IB := Lib.hid (hexI_in hb)
                have ja : 0 ≤ hexI s[2] := by rw [IA.out]; omega
                have ja2 : hexI s[2] < 16 := by rw [IA.out]; omega
                have jb : 0 ≤ hexI s[3] := by rw [IB.out]; omega
                have jb2 : hexI s[3] < 16 := by rw [IB.out]; omega
                have FP := fun h => fst_noP h3 h92 hm h
                have FX := fun h => fst_hex h3 h92 hm hx ha hb h
                clear h92 hm hx
                have BX := Lib.hid (or_hex s[2] s[3] ha hb)
                clear ha hb
                cases hp : prinB (hexB s[2] s[3]) with
                | true =>
                  have F := Lib.hid (FP hp)
                  have HP := Lib.hid hp
                  clear FP FX hp
                  go_enter Tryd.func51, Tryd.ntmps51
                  go_wp2_with (go_at_call 63; refine (marked_c _ _).mono ?_; rintro e w' ⟨rfl, rfl⟩; rw [HM.out])
                  go_quiet ((go_at_call 64; exact Calls.quiet_of_same (ixb_c _ _)))
                  go_wp2_with (go_at_call 62; rw [BX.out]; refine (printed_c _ _).mono ?_; rintro e w' ⟨rfl, rfl⟩; rw [HP.out])
                  go_ret2
                  exact ⟨ret2 (by rw [F.out]; rfl) (by rw [F.out]; rfl), _, rfl⟩
                | false =>
                  have F := Lib.hid (FX hp)
                  have HP := Lib.hid hp
                  clear FP FX hp
                  go_enter Tryd.func51, Tryd.ntmps51
                  go_wp2_with (go_at_call 63; refine (marked_c _ _).mono ?_; rintro e w' ⟨rfl, rfl⟩; rw [HM.out])
                  go_quiet ((go_at_call 64; exact Calls.quiet_of_same (ixb_c _ _)))
                  go_wp2_with (go_at_call 62; rw [BX.out]; refine (printed_c _ _).mono ?_; rintro e w' ⟨rfl, rfl⟩; rw [HP.out])
                  go_ret2
                  exact ⟨ret2 (by rw [F.out]) (by rw [F.out]; rfl), _, rfl⟩
              · have IA := Lib.hid (hexI_in ha)
                have IB := Lib.hid (hexI_out hb)
                have ja : 0 ≤ hexI s[2] := by rw [IA.out]; omega
                have jb : hexI s[3] < 0 := by rw [IB.out]; omega
                have F := Lib.hid (fst_noB h3 h92 hm hb)
                clear h92 hm hx ha hb
                go_enter Tryd.func51, Tryd.ntmps51
                go_wp2_with (go_at_call 63; refine (marked_c _ _).mono ?_; rintro e w' ⟨rfl, rfl⟩; rw [HM.out])
                go_quiet ((go_at_call 64; exact Calls.quiet_of_same (ixb_c _ _)))
                go_wp2_with fail
                go_ret2
                exact ⟨ret2 (by rw [F.out]; rfl) (by rw [F.out]; rfl), _, rfl⟩
            · have IA := Lib.hid (hexI_out ha)
              have ja : hexI s[2] < 0 := by rw [IA.out]; omega
              have F := Lib.hid (fst_noA h3 h92 hm ha)
              clear h92 hm hx ha
              go_enter Tryd.func51, Tryd.ntmps51
              go_wp2_with (go_at_call 63; refine (marked_c _ _).mono ?_; rintro e w' ⟨rfl, rfl⟩; rw [HM.out])
              go_quiet ((go_at_call 64; exact Calls.quiet_of_same (ixb_c _ _)))
              go_wp2_with fail
              go_ret2
              exact ⟨ret2 (by rw [F.out]; rfl) (by rw [F.out]; rfl), _, rfl⟩
end Go.Proofs.YtflpidnkppljlaaDoor
namespace Go.Proofs.YtflpidnkppljlaaDoor
open Go.RowKit
theorem retST {a b : List UInt8} {x y : Int} (h : a = b) (g : x = y) : Ending.returned (.tuple #[.string ⟨a.toArray⟩, .int .i64 x]) = .returned (.tuple #[.string ⟨b.toArray⟩, .int .i64 y]) := by rw [h, g]
theorem below_drewN {B : Nat} {a w : World} (h : Below B a w) (n : Nat) : Below B a (w.drewN n) := ⟨h.os, h.tape, h.output, h.size, h.block⟩
theorem ends_first {s : ByteArray} (h : 0 < s.size) : s.data.toList.head? = some s[0] := by rw [lst1 h]; rfl
theorem ends_last {s : ByteArray} (h : 0 < s.size) : s.data.toList.getLast? = some (s[s.size - 1]'(by omega)) := by
  rw [List.getLast?_eq_getElem?, List.getElem?_eq_getElem (by have : s.data.toList.length = s.size := rfl; omega)]; rfl
theorem unq_short {s : ByteArray} (h : s.size < 2) : unqT s.data.toList = [] ∧ unqE s.data.toList = 10 :=
  unqT_none fun t e => by have := (quote_ends t _ e).1; have : s.data.toList.length = s.size := rfl; omega
theorem unq_first {s : ByteArray} (h : 0 < s.size) (h1 : (s[0] == 34) = false) : unqT s.data.toList = [] ∧ unqE s.data.toList = 10 :=
  unqT_none fun t e => by have := (quote_ends t _ e).2.1; rw [ends_first h] at this; simp at this h1; exact h1 this
theorem unq_last {s : ByteArray} (h : 0 < s.size) (h1 : (s[s.size - 1]'(by omega) == 34) = false) : unqT s.data.toList = [] ∧ unqE s.data.toList = 10 :=
  unqT_none fun t e => by have := (quote_ends t _ e).2.2; rw [ends_last h] at this; simp at this h1; exact h1 this
theorem mid_is (s : ByteArray) : (s.extract 1 (s.size - 1)).data.toList = midL s.data.toList := by
  rw [ext_data]; unfold midL
  rw [List.dropLast_eq_take, List.length_drop]; rfl
theorem unq_parts {s : ByteArray} (h : 1 < s.size) (h1 : (s[0] == 34) = true) (h2 : (s[s.size - 1]'(by omega) == 34) = true) : s.data.toList = 34 :: (midL s.data.toList ++ [34]) := by
  refine quote_parts h ?_ ?_
  · rw [ends_first (by omega), beq_iff_eq.1 h1]
  · rw [ends_last (by omega), beq_iff_eq.1 h2]
theorem fstV_none {l : List UInt8} (h : fstL l = none) : fstV l = (0, 0) := by unfold fstV; rw [h]; rfl
theorem fstV_some {l : List UInt8} {c : UInt8} {n : Nat} (h : fstL l = some (c, n)) : fstV l = (c, n) := by unfold fstV; rw [h]; rfl
theorem first_none (x : ByteArray) (hs : x.size ≤ 9223372036854775807) (h0 : 0 < x.size) (h : fstL x.data.toList = none) (w : World) :
    Calls Tryd.prog 51 #[.string x] w fun e w' => e = .returned (.tuple #[.int .u8 0, .int .i64 0]) ∧ ∃ n, w' = w.drewN n := by
  have c := first_c x hs h0 w
  rw [fstV_none h] at c; exact c
theorem first_some (x : ByteArray) (hs : x.size ≤ 9223372036854775807) (h0 : 0 < x.size) (c : UInt8) (m : Nat) (h : fstL x.data.toList = some (c, m)) (w : World) :
    Calls Tryd.prog 51 #[.string x] w fun e w' => e = .returned (.tuple #[.int .u8 c.toNat, .int .i64 m]) ∧ ∃ n, w' = w.drewN n := by
  have k := first_c x hs h0 w
  rw [fstV_some h] at k; exact k
set_option maxHeartbeats 3200000 in
theorem unquote_c (s : ByteArray) (hs : s.size ≤ 4294967295) (w : World) :
    Calls Tryd.prog 37 #[.string s] w fun e w' => e = .returned (.tuple #[.string ⟨(unqT s.data.toList).toArray⟩, .int .i64 (unqE s.data.toList)]) ∧ Low w w' := by
  by_cases h2 : s.size < 2
  · have F1 := Lib.hid (unq_short h2).1
    have F2 := Lib.hid (unq_short h2).2
    have h3 : (s.size : Int) - 1 < 1 := by omega
    go_enter Tryd.func37, Tryd.ntmps37
    go_wp2_with fail
    go_ret2
    exact ⟨retST F1.out.symm F2.out.symm, Low.refl _⟩
  · have h1 : 1 < s.size := by omega
    have h0 : 0 < s.size := by omega
    have hl : s.size - 1 < s.size := by omega
    have N0 : ((s[0].toNat : Int) != 34) = !(s[0] == 34) := bne_byte s[0] 34
    cases hq : s[0] == 34 with
    | false =>
      have F1 := Lib.hid (unq_first h0 hq).1
      have F2 := Lib.hid (unq_first h0 hq).2
      rw [hq] at N0
      clear hq
      go_enter Tryd.func37, Tryd.ntmps37
      go_wp2_with fail
      go_ret2
      exact ⟨retST F1.out.symm F2.out.symm, Low.refl _⟩
    | true =>
      rw [hq] at N0
      have N1 : ((s[s.size - 1].toNat : Int) != 34) = !(s[s.size - 1] == 34) := bne_byte s[s.size - 1] 34
      cases hr : s[s.size - 1] == 34 with
      | false =>
        have F1 := Lib.hid (unq_last h0 hr).1
        have F2 := Lib.hid (unq_last h0 hr).2
        rw [hr] at N1
        clear hq hr
        go_enter Tryd.func37, Tryd.ntmps37
        go_wp2_with fail
        go_ret2
        exact ⟨retST F1.out.symm F2.out.symm, Low.refl _⟩
      | true =>
        rw [hr] at N1
        have UP := unq_parts h1 hq hr
        have MI := mid_is s
        have zi : (s.extract 1 (s.size - 1)).size ≤ s.size := ext_le s _ _
        have K1 := fun t => quote_iff UP t
        rw [← MI] at K1
        clear hq hr UP MI
        go_enter Tryd.func37, Tryd.ntmps37
        go_wp2_with (refine own_make rfl _ _ rfl w.heap.size (s.extract 1 (s.size - 1)).size _ rfl rfl (by simp) (by omega) (Nat.le_refl _) ?_; intro v0 w0 h0 b0; have hB := b0.size)
        have zm : (s.extract 1 (s.size - 1)).size = s.size - 1 - 1 := by rw [ByteArray.size_extract]; omega
        generalize s.extract 1 (s.size - 1) = I at *
        generalize s.size - 1 - 1 = m at *
        have zm1 : m ≤ I.size := by omega
        have zm2 : I.size ≤ m := by omega
        clear zm
        go_loopw [6, 7, 35] (fun v x i wr => ∃ (k p : Nat) (t : List UInt8), k ≤ p ∧ p ≤ m ∧ i = .int .i64 k ∧ x = .int .i64 p ∧ Own w.heap.size wr v t ∧ Below w.heap.size w wr ∧ UAt I.data.toList t p) (fun _ _ i _ => m - (intOf i).toNat)
        case atStart => exact ⟨0, 0, [], Nat.le_refl _, Nat.zero_le _, rfl, rfl, h0, b0, uat_start _⟩
        case round =>
          obtain ⟨k, p, t, hkp, hpm, rfl, rfl, hown, hb, hu⟩ := hrel
          have hr := hb.size
          clear h0 b0 hB
          by_cases hlt : k < m
          · by_cases hkp2 : k < p
            · go_wp2_with fail
              go_roundw
              case rel => exact ⟨k + 1, p, t, by omega, hpm, by go_num, rfl, hown, hb, hu⟩
              case measure => simp [intOf]; omega
            · have e : p = k := by omega
              subst e
              have X := ext_to I p
              have zx : (I.extract p I.size).size = I.size - p := by rw [ByteArray.size_extract]; omega
              have zx1 : (I.extract p I.size).size ≤ 9223372036854775807 := by omega
              have zx2 : 0 < (I.extract p I.size).size := by omega
              have tl := uat_len hu
              cases hf : fstL (I.data.toList.drop p) with
              | none =>
                have NO := unqT_none (s := s.data.toList) fun t' e => uat_none hu (show p < I.size by omega) hf t' ((K1 t').1 e)
                have F1 := Lib.hid NO.1
                have F2 := Lib.hid NO.2
                rw [← X] at hf
                have HF := Lib.hid hf
                clear hf X zx NO K1
                go_wp2_with fail
                refine (first_none _ zx1 zx2 HF.out _).mono ?_
                rintro e w' ⟨rfl, n, rfl⟩
                go_wp2_with fail
                go_ret2
                exact ⟨retST F1.out.symm F2.out.symm, Low.of_below (below_drewN hb n)⟩
              | some cn =>
                obtain ⟨c, n⟩ := cn
                obtain ⟨U2, g1, g2⟩ := uat_next hu hf
                have g2 : p + n ≤ I.size := g2
                rw [← X] at hf
                have HF := Lib.hid hf
                have nz : ((n : Int) == 0) = false := by rw [beq_eq_false_iff_ne]; omega
                clear hf X zx K1
                go_wp2_with fail
                refine (first_some _ zx1 zx2 c n HF.out _).mono ?_
                rintro e w' ⟨rfl, q, rfl⟩
                go_wp2_with (at_builtin; refine own_app rfl _ _ _ rfl Tryd.underlying80 w.heap.size _ t [c] rfl ((hown.drewN q).alloc _) ⟨wr.heap.size, 0, none⟩ 1 _ rfl rfl (cells_new _ [c] _ _ rfl) (by omega) (by simp; omega) ?_; intro v2 w2 h2 b2)
                go_roundw
                case rel => exact ⟨p + 1, p + n, t ++ [c], by omega, by omega, by go_num, by go_num, h2, hb.trans (((below_drewN (Below.refl _ _) q).alloc hr _).trans b2), U2⟩
                case measure => simp [intOf]; omega
          · have e : p = I.size := by omega
            have T := unqT_some (s := s.data.toList) ((K1 t).2 (uat_end (by rw [e] at hu; exact hu)))
            have F1 := Lib.hid T.1
            have F2 := Lib.hid T.2
            have C2 := own_conv hown
            clear T e K1
            go_wp2_with fail
            go_ret2
            exact ⟨retST F1.out.symm F2.out.symm, Low.of_below hb⟩
end Go.Proofs.YtflpidnkppljlaaDoor
