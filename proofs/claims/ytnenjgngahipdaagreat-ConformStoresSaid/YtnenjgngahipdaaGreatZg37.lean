/- Plain names: which rows of bytes are a name, and which are several with two colons between. No condition. The small tests of bytes: texts.letter, texts.digit and the reference's. No condition. texts.Name and the reference's: is a text a name? Condition: the length that any string has. The reference's Name: is a text a name? Condition: the length that any string has. schema.typeMayBe, actionMayBe. Conditions: names shorter than the library's bound, small types. What a part of a text holds. No condition. The reference's Path: is a text a name, or several with two colons between? Condition: the length that any string has. The reference's row of attributes; it tells what the program's does. Conditions: small types. schema.Check's two maps, made in whatever order. No condition. schema.round: does some name lead to itself? Conditions: not too many names; each step leads to a name. schema.Check whole. Conditions: names shorter than the library's bound, small types, not too many names. -/
import Derived.WalkKit
import Derived.Test.YtnenjgngahipdaaGreatChecked
import Derived.Lib.Hide
import Derived.Test.YtnenjgngahipdaaGreatZg00
import Derived.WalkLawsBesides
import Derived.WalkSpells
import Derived.Test.YtnenjgngahipdaaGreatZg15
import Derived.Test.YtnenjgngahipdaaGreatZg11
import Derived.Test.YtnenjgngahipdaaGreatZg36
import Derived.Test.YtnenjgngahipdaaGreatZg03
set_option linter.unusedVariables false
set_option linter.unusedSimpArgs false
set_option linter.unnecessarySimpa false
namespace Go.Proofs.YtnenjgngahipdaaGreat
def digB (c : UInt8) : Bool := decide (48 ≤ (c.toNat : Int) ∧ (c.toNat : Int) ≤ 57)
def letB (c : UInt8) : Bool := decide (97 ≤ (c.toNat : Int) ∧ (c.toNat : Int) ≤ 122 ∨ 65 ≤ (c.toNat : Int) ∧ (c.toNat : Int) ≤ 90)
def namB (c : UInt8) : Bool := letB c || digB c || c == 95
def letR (c : UInt8) : Bool := letB c || c == 95
def nameB (l : List UInt8) : Bool := match l with
  | [] => false
  | c :: r => !digB c && (c :: r).all namB
/-- Names with two colons between; 'acc': what stands ahead, of the name at hand. -/
def pathS (acc : List UInt8) : List UInt8 → Bool
  | [] => nameB acc
  | [c] => nameB (acc ++ [c])
  | c :: d :: r => if c == 58 && d == 58 then nameB acc && pathS [] r else pathS (acc ++ [c]) (d :: r)
def pathB (l : List UInt8) : Bool := pathS [] l
theorem pathS_colons (acc r : List UInt8) : pathS acc (58 :: 58 :: r) = (nameB acc && pathS [] r) := by
  simp [pathS]
theorem pathS_other (acc : List UInt8) (c : UInt8) (l : List UInt8) (h : ¬ (c = 58 ∧ l.head? = some 58)) : pathS acc (c :: l) = pathS (acc ++ [c]) l := by
  cases l with
  | nil => simp [pathS]
  | cons d r =>
    have h' : (c == 58 && d == 58) = false := by
      rw [Bool.eq_false_iff]; intro e
      simp at e
      exact h ⟨e.1, by simp [e.2]⟩
    rw [pathS, h']
    simp
theorem all_take {l : List UInt8} {k : Nat} (h : k < l.length) (hn : (l.take k).all namB = true) (hc : namB l[k] = true) : (l.take (k + 1)).all namB = true := by
  rw [List.take_succ_eq_append_getElem h, List.all_append, hn]; simp [hc]
theorem all_not {l : List UInt8} {k : Nat} (h : k < l.length) (hc : namB l[k] = false) : l.all namB = false := by
  rw [List.all_eq_false]; exact ⟨_, List.getElem_mem h, by simp [hc]⟩
theorem name_dig {l : List UInt8} (h : 0 < l.length) (hd : digB l[0] = true) : nameB l = false := by
  cases l with
  | nil => rfl
  | cons c r => simp at hd; simp [nameB, hd]
theorem name_all {l : List UInt8} (h : 0 < l.length) (hd : digB l[0] = false) : nameB l = l.all namB := by
  cases l with
  | nil => simp at h
  | cons c r => simp at hd; simp [nameB, hd]
end Go.Proofs.YtnenjgngahipdaaGreat
namespace Go.Proofs.YtnenjgngahipdaaGreat
open Go.RowKit
theorem retBN {a b : Bool} (h : a = b) : Ending.returned (.bool a) = .returned (.bool b) := by rw [h]
set_option maxHeartbeats 400000 in
theorem refDigit_c (c : UInt8) (w : World) : Calls Tryz.prog 103 #[.int .u8 c.toNat] w fun e w' => e = .returned (.bool (digB c)) ∧ w = w' := by
  by_cases h1 : 48 ≤ (c.toNat : Int)
  · by_cases h2 : (c.toNat : Int) ≤ 57
    all_goals
      have E : Hid (digB c = decide ((c.toNat : Int) ≤ 57)) := by show _ = _; unfold digB; simp only [h1, h2, true_and]
      go_enter Tryz.func103, Tryz.ntmps103
      go_wp2
      go_ret
      exact ⟨retBN (by rw [E.out]; simp [h2]), rfl⟩
  · have E : Hid (digB c = false) := by show _ = _; unfold digB; simp only [h1, false_and, decide_false]
    go_enter Tryz.func103, Tryz.ntmps103
    go_wp2
    go_ret
    exact ⟨retBN (by rw [E.out]), rfl⟩
set_option maxHeartbeats 800000 in
theorem refLetter_c (c : UInt8) (w : World) : Calls Tryz.prog 104 #[.int .u8 c.toNat] w fun e w' => e = .returned (.bool (letR c)) ∧ w = w' := by
  have hq : (c == 95) = decide ((c.toNat : Int) = 95) := by rw [Bool.eq_iff_iff]; simp [← UInt8.toNat_inj]; omega
  by_cases h1 : 97 ≤ (c.toNat : Int) <;> by_cases h2 : (c.toNat : Int) ≤ 122 <;> by_cases h3 : 65 ≤ (c.toNat : Int) <;> by_cases h4 : (c.toNat : Int) ≤ 90 <;> by_cases h5 : ((c.toNat : Int) == 95) = true <;> first | (exfalso; simp at h5; omega) | (exfalso; omega) | skip
  all_goals
    have E : Hid (letR c = (decide (97 ≤ (c.toNat : Int)) && decide ((c.toNat : Int) ≤ 122) || decide (65 ≤ (c.toNat : Int)) && decide ((c.toNat : Int) ≤ 90) || ((c.toNat : Int) == 95))) := by
      show _ = _; unfold letR letB; rw [hq]; simp only [h1, h2, h3, h4]; first | (simp only [h5]; simp at h5; simp [h5]) | (simp at h5; simp [h5])
    try simp only [Bool.not_eq_true] at h5
    clear hq
    go_enter Tryz.func104, Tryz.ntmps104
    go_wp2
    go_ret
    exact ⟨retBN (by rw [E.out]; simp [h1, h2, h3, h4, h5]), rfl⟩
theorem namB_r (c : UInt8) : namB c = (letR c || digB c) := by unfold namB letR; cases letB c <;> cases digB c <;> simp
end Go.Proofs.YtnenjgngahipdaaGreat
namespace Go.Proofs.YtnenjgngahipdaaGreat
open Go.RowKit
def OkTo (s : ByteArray) (k : Nat) : Prop := (s.data.toList.take k).all namB = true
theorem ok_next {s : ByteArray} {k : Nat} (h : k < s.size) (ho : OkTo s k) (hc : namB s[k] = true) : OkTo s (k + 1) := all_take (by simpa using h) ho hc
theorem ok_not {s : ByteArray} {k : Nat} (h : k < s.size) (hc : namB s[k] = false) : s.data.toList.all namB = false := all_not (k := k) (by simpa using h) hc
theorem ok_end {s : ByteArray} {k : Nat} (h : s.size ≤ k) (ho : OkTo s k) : s.data.toList.all namB = true := by
  unfold OkTo at ho; rwa [List.take_of_length_le (by simpa using h)] at ho
theorem byte_ne {c : UInt8} {n : UInt8} (h : (c == n) = false) : ((c.toNat : Int) == (n.toNat : Int)) = false := by
  rw [beq_eq_false_iff_ne] at *; intro e; exact h (UInt8.toNat_inj.1 (by omega))
theorem byte_eq {c : UInt8} {n : UInt8} (h : (c == n) = true) : ((c.toNat : Int) == (n.toNat : Int)) = true := by
  rw [beq_iff_eq] at *; rw [h]
end Go.Proofs.YtnenjgngahipdaaGreat
namespace Go.Proofs.YtnenjgngahipdaaGreat
open Go.RowKit
set_option maxHeartbeats 800000 in
theorem refName_c (s : ByteArray) (hs : s.size ≤ 9223372036854775807) (w : World) :
    Calls Tryz.prog 65 #[.string s] w fun e w' => e = .returned (.bool (nameB s.data.toList)) ∧ w = w' := by
  by_cases h0 : 0 < s.size
  · have hz : ((s.size : Int) == 0) = false := by rw [beq_eq_false_iff_ne]; omega
    cases hd : digB s[0] with
    | true =>
      have E := Lib.hid (name_dig (l := s.data.toList) (by simpa using h0) hd)
      have D := Lib.hid hd
      clear hd
      go_enter Tryz.func65, Tryz.ntmps65
      go_wp2_with fail
      refine (refDigit_c _ _).mono ?_
      rintro e w' ⟨rfl, rfl⟩
      rw [D.out]
      go_wp2
      go_ret
      exact ⟨retBN E.out.symm, rfl⟩
    | false =>
      have E := Lib.hid (name_all (l := s.data.toList) (by simpa using h0) hd)
      have D := Lib.hid hd
      clear hd
      go_enter Tryz.func65, Tryz.ntmps65
      go_wp2_with fail
      refine (refDigit_c _ _).mono ?_
      rintro e w' ⟨rfl, rfl⟩
      rw [D.out]
      go_wp2_with fail
      go_loop [3] (fun i => ∃ k : Nat, k ≤ s.size ∧ i = .int .i64 k ∧ OkTo s k) (fun i => s.size - (intOf i).toNat)
      case atStart => exact ⟨0, Nat.zero_le _, rfl, rfl⟩
      case round =>
        obtain ⟨k, hk, rfl, hok⟩ := hrel
        by_cases hlt : k < s.size
        · obtain ⟨c, hc⟩ : ∃ c, s[k] = c := ⟨_, rfl⟩
          have HC := Lib.hid hc
          have N1 := fun h => ok_next hlt hok (by rw [hc]; exact h)
          have N2 := fun h => ok_not hlt (by rw [hc]; exact h)
          clear hc
          cases hl : letR c with
          | true =>
            have NX := Lib.hid (N1 (by rw [namB_r, hl]; rfl))
            have HL := Lib.hid hl
            clear hl N1 N2
            go_wp2_with fail
            rw [HC.out]
            refine (refLetter_c _ _).mono ?_
            rintro e w' ⟨rfl, rfl⟩
            rw [HL.out]
            go_wp2_with fail
            go_round
            case rel => exact ⟨k + 1, by omega, by go_num, NX.out⟩
            case measure => simp [intOf]; omega
          | false =>
            cases hg : digB c with
            | true =>
              have NX := Lib.hid (N1 (by rw [namB_r, hl, hg]; rfl))
              have HL := Lib.hid hl
              have HG := Lib.hid hg
              clear hl hg N1 N2
              go_wp2_with fail
              rw [HC.out]
              refine (refLetter_c _ _).mono ?_
              rintro e w' ⟨rfl, rfl⟩
              rw [HL.out]
              go_wp2_with fail
              rw [HC.out]
              refine (refDigit_c _ _).mono ?_
              rintro e w' ⟨rfl, rfl⟩
              rw [HG.out]
              go_wp2_with fail
              go_round
              case rel => exact ⟨k + 1, by omega, by go_num, NX.out⟩
              case measure => simp [intOf]; omega
            | false =>
              have NX := Lib.hid (N2 (by rw [namB_r, hl, hg]; rfl))
              have HL := Lib.hid hl
              have HG := Lib.hid hg
              clear hl hg N1 N2
              go_wp2_with fail
              rw [HC.out]
              refine (refLetter_c _ _).mono ?_
              rintro e w' ⟨rfl, rfl⟩
              rw [HL.out]
              go_wp2_with fail
              rw [HC.out]
              refine (refDigit_c _ _).mono ?_
              rintro e w' ⟨rfl, rfl⟩
              rw [HG.out]
              go_wp2_with fail
              go_ret
              exact ⟨retBN (by rw [E.out, NX.out]), rfl⟩
        · have NX := Lib.hid (ok_end (s := s) (k := k) (by omega) hok)
          go_wp2_with fail
          go_ret
          exact ⟨retBN (by rw [E.out, NX.out]), rfl⟩
  · have hz : ((s.size : Int) == 0) = true := by rw [beq_iff_eq]; omega
    have E : Hid (nameB s.data.toList = false) := by
      show _ = _
      rw [show s.data.toList = [] from List.eq_nil_of_length_eq_zero (show s.size = 0 by omega)]; rfl
    go_enter Tryz.func65, Tryz.ntmps65
    go_wp2
    go_ret
    exact ⟨retBN E.out.symm, rfl⟩
end Go.Proofs.YtnenjgngahipdaaGreat
namespace Go.Proofs.YtnenjgngahipdaaGreat
open Go.RowKit
set_option linter.unusedVariables false
def actS : ByteArray := ⟨#[65, 99, 116, 105, 111, 110]⟩
theorem act_l : actS.toList = [65, 99, 116, 105, 111, 110] := by rw [ByteArray.toList_eq]; rfl
def typeB (tg : Gra) (n : Nat) (t : Et) : Bool := pathB t.nm.s.data.toList && (!decide (t.nm.s = actS) && (t.ins.all (knows tg) && rowB (nmB tg) n t.ats))
def actB (tg ag : Gra) (n : Nat) (a : Ac) : Bool := a.ins.all (knows ag) && (a.ps.all (knows tg) && (a.rs.all (knows tg) && rowB (nmB tg) n a.ats))
theorem box3 {w wr : World} {c0 c1 c2 : Value} {t : TypeId} (h : Low (w.alloc (.cells #[c0, c1, c2] t)) wr) : wr.cell? ⟨w.heap.size, 0, none⟩ = some c0 ∧ wr.cell? ⟨w.heap.size, 1, none⟩ = some c1 ∧ wr.cell? ⟨w.heap.size, 2, none⟩ = some c2 :=
  ⟨h.keep (by rw [World.cell?_alloc_mark]; rfl), h.keep (by rw [World.cell?_alloc_mark]; rfl), h.keep (by rw [World.cell?_alloc_mark]; rfl)⟩
theorem box5 {w wr : World} {c0 c1 c2 c3 c4 : Value} {t : TypeId} (h : Low (w.alloc (.cells #[c0, c1, c2, c3, c4] t)) wr) : wr.cell? ⟨w.heap.size, 0, none⟩ = some c0 ∧ wr.cell? ⟨w.heap.size, 1, none⟩ = some c1 ∧ wr.cell? ⟨w.heap.size, 2, none⟩ = some c2 ∧ wr.cell? ⟨w.heap.size, 3, none⟩ = some c3 ∧ wr.cell? ⟨w.heap.size, 4, none⟩ = some c4 :=
  ⟨h.keep (by rw [World.cell?_alloc_mark]; rfl), h.keep (by rw [World.cell?_alloc_mark]; rfl), h.keep (by rw [World.cell?_alloc_mark]; rfl), h.keep (by rw [World.cell?_alloc_mark]; rfl), h.keep (by rw [World.cell?_alloc_mark]; rfl)⟩
end Go.Proofs.YtnenjgngahipdaaGreat
namespace Go.Proofs.YtnenjgngahipdaaGreat
theorem ext_data (s : ByteArray) (a b : Nat) : (s.extract a b).data.toList = (s.data.toList.drop a).take (b - a) := by
  rw [ByteArray.data_extract]; simp
theorem ext_to (s : ByteArray) (a : Nat) : (s.extract a s.size).data.toList = s.data.toList.drop a := by
  rw [ext_data, List.take_of_length_le]
  rw [List.length_drop]; exact Nat.le_refl _
theorem ext_le (s : ByteArray) (a b : Nat) : (s.extract a b).size ≤ s.size := by rw [ByteArray.size_extract]; omega
end Go.Proofs.YtnenjgngahipdaaGreat
namespace Go.Proofs.YtnenjgngahipdaaGreat
open Go.RowKit
/-- Where the reference's loop stands: names up to 'm' are read, and those bytes behind it up to 'k'. -/
def RPath (l : List UInt8) (m k : Nat) : Prop := (m ≤ k ∧ k ≤ l.length ∧ pathS ((l.drop m).take (k - m)) (l.drop k) = pathB l) ∨ (k + 1 = m ∧ m ≤ l.length ∧ pathB (l.drop m) = pathB l)
theorem rpath_start (l : List UInt8) : RPath l 0 0 := .inl ⟨Nat.le_refl _, Nat.zero_le _, rfl⟩
theorem rpath_skip {l : List UInt8} {m k : Nat} (h : RPath l m k) (hk : k < m) : RPath l m (k + 1) := by
  rcases h with ⟨h1, _, _⟩ | ⟨rfl, h2, h3⟩
  · omega
  · exact .inl ⟨Nat.le_refl _, h2, by rw [Nat.sub_self]; exact h3⟩
theorem rpath_grow {l : List UInt8} {m k : Nat} (h : RPath l m k) (hm : m ≤ k) (hk : k + 1 < l.length) (hc : ¬ (l[k] = 58 ∧ l[k + 1] = 58)) : RPath l m (k + 1) := by
  rcases h with ⟨_, _, h3⟩ | ⟨h1, _, _⟩
  · refine .inl ⟨by omega, by omega, ?_⟩
    rw [← h3, List.drop_eq_getElem_cons (i := k) (by omega), pathS_other]
    · congr 1
      rw [show k + 1 - m = (k - m) + 1 from by omega, List.take_succ_eq_append_getElem (by rw [List.length_drop]; omega)]
      simp [show m + (k - m) = k from by omega]
    · intro ⟨e1, e2⟩
      rw [List.head?_drop, List.getElem?_eq_getElem hk] at e2
      exact hc ⟨e1, by simpa using e2⟩
  · omega
theorem rpath_cut {l : List UInt8} {m k : Nat} (h : RPath l m k) (hm : m ≤ k) (hk : k + 1 < l.length) (h1 : l[k] = 58) (h2 : l[k + 1] = 58) :
    pathB l = (nameB ((l.drop m).take (k - m)) && pathB (l.drop (k + 2))) := by
  rcases h with ⟨_, _, h3⟩ | ⟨h1, _, _⟩
  · rw [← h3, List.drop_eq_getElem_cons (i := k) (by omega), List.drop_eq_getElem_cons (i := k + 1) (by omega), h1, h2, pathS_colons]; rfl
  · omega
theorem rpath_part {l : List UInt8} {m k : Nat} (h : RPath l m k) (hm : m ≤ k) (hk : k + 1 < l.length) (h1 : l[k] = 58) (h2 : l[k + 1] = 58) (hn : nameB ((l.drop m).take (k - m)) = true) : RPath l (k + 2) (k + 1) :=
  .inr ⟨rfl, by omega, by rw [rpath_cut h hm hk h1 h2, hn]; rfl⟩
theorem rpath_no {l : List UInt8} {m k : Nat} (h : RPath l m k) (hm : m ≤ k) (hk : k + 1 < l.length) (h1 : l[k] = 58) (h2 : l[k + 1] = 58) (hn : nameB ((l.drop m).take (k - m)) = false) : pathB l = false := by
  rw [rpath_cut h hm hk h1 h2, hn]; rfl
theorem rpath_end {l : List UInt8} {m k : Nat} (h : RPath l m k) (hk : l.length ≤ k + 1) : pathB l = nameB (l.drop m) := by
  rcases h with ⟨h1, h2, h3⟩ | ⟨h1, h2, h3⟩
  · rw [← h3]
    have e : (l.drop m).take (k - m) ++ l.drop k = l.drop m := by
      have : l.drop k = (l.drop m).drop (k - m) := by rw [List.drop_drop]; congr 1; omega
      rw [this, List.take_append_drop]
    have hl : (l.drop k).length ≤ 1 := by rw [List.length_drop]; omega
    match hd : l.drop k, hl with
    | [], _ => rw [hd, List.append_nil] at e; rw [pathS, e]
    | [c], _ => rw [hd] at e; rw [pathS, e]
  · have : l.drop m = [] := List.drop_eq_nil_of_le (by omega)
    rw [← h3, this]; rfl
set_option maxHeartbeats 1600000 in
theorem refPath_c (s : ByteArray) (hs : s.size ≤ 9223372036854775807) (w : World) :
    Calls Tryz.prog 38 #[.string s] w fun e w' => e = .returned (.bool (pathB s.data.toList)) ∧ w = w' := by
  have hlen : s.data.toList.length = s.size := rfl
  have HL := Lib.hid hlen
  clear hlen
  go_enter Tryz.func38, Tryz.ntmps38
  go_wp2_with fail
  go_loop [3, 4] (fun f i => ∃ m k : Nat, f = .int .i64 m ∧ i = .int .i64 k ∧ m ≤ s.size ∧ (k = 0 ∨ k < s.size) ∧ RPath s.data.toList m k) (fun _ i => s.size - (intOf i).toNat)
  case atStart => exact ⟨0, 0, rfl, rfl, Nat.zero_le _, .inl rfl, rpath_start _⟩
  case round =>
    obtain ⟨m, k, rfl, rfl, hm, hk0, hr⟩ := hrel
    have hk : k ≤ s.size := by omega
    have hkb : k + 1 ≤ 9223372036854775807 := by omega
    by_cases hlt : k + 1 < s.size
    · by_cases hmk : m ≤ k
      · have B1 : s[k] = s.data.toList[k]'(by rw [HL.out]; omega) := rfl
        have B2 : s[k + 1] = s.data.toList[k + 1]'(by rw [HL.out]; omega) := rfl
        have G1 := fun hc => rpath_grow hr hmk (by rw [HL.out]; exact hlt) hc
        have G2 := fun h1 h2 hn => rpath_part hr hmk (by rw [HL.out]; exact hlt) h1 h2 hn
        have G3 := fun h1 h2 hn => rpath_no hr hmk (by rw [HL.out]; exact hlt) h1 h2 hn
        rw [← B1, ← B2] at G1 G2 G3
        clear B1 B2
        cases h1 : s[k] == 58 with
        | false =>
          have NX := G1 (by intro h; rw [h.1] at h1; exact absurd h1 (by decide))
          have q1 := byte_ne h1
          have q1 : ((s[k].toNat : Int) == 58) = false := q1
          clear h1 G1 G2 G3
          go_wp2_with fail
          go_round
          case rel => exact ⟨m, k + 1, rfl, by go_num, hm, by omega, NX⟩
          case measure => simp [intOf]; omega
        | true =>
          cases h2 : s[k + 1] == 58 with
          | false =>
            have NX := G1 (by intro h; rw [h.2] at h2; exact absurd h2 (by decide))
            have q1 : ((s[k].toNat : Int) == 58) = true := byte_eq h1
            have q2 : ((s[k + 1].toNat : Int) == 58) = false := byte_ne h2
            clear h1 h2 G1 G2 G3
            go_wp2_with fail
            go_round
            case rel => exact ⟨m, k + 1, rfl, by go_num, hm, by omega, NX⟩
            case measure => simp [intOf]; omega
          | true =>
            have q1 : ((s[k].toNat : Int) == 58) = true := byte_eq h1
            have q2 : ((s[k + 1].toNat : Int) == 58) = true := byte_eq h2
            have hx := ext_le s m k
            have hxs : (s.extract m k).size ≤ 9223372036854775807 := by omega
            have X := ext_data s m k
            cases hn : nameB ((s.data.toList.drop m).take (k - m)) with
            | false =>
              have NX := Lib.hid (G3 (by simpa using h1) (by simpa using h2) hn)
              have HN : Hid (nameB (s.extract m k).data.toList = false) := by show _ = _; rw [X]; exact hn
              clear h1 h2 G1 G2 G3 X hn
              go_wp2_with fail
              refine (refName_c _ hxs _).mono ?_
              rintro e w' ⟨rfl, rfl⟩
              rw [HN.out]
              go_wp2_with fail
              go_ret
              exact ⟨retBN (by rw [NX.out]), rfl⟩
            | true =>
              have NX := G2 (by simpa using h1) (by simpa using h2) hn
              have HN : Hid (nameB (s.extract m k).data.toList = true) := by show _ = _; rw [X]; exact hn
              clear h1 h2 G1 G2 G3 X hn
              go_wp2_with fail
              refine (refName_c _ hxs _).mono ?_
              rintro e w' ⟨rfl, rfl⟩
              rw [HN.out]
              go_wp2_with fail
              go_round
              case rel => exact ⟨k + 2, k + 1, by go_num, by go_num, by omega, by omega, NX⟩
              case measure => simp [intOf]; omega
      · have NX := rpath_skip hr (by omega)
        go_wp2_with fail
        go_round
        case rel => exact ⟨m, k + 1, rfl, by go_num, hm, by omega, NX⟩
        case measure => simp [intOf]; omega
    · have E := Lib.hid ((rpath_end hr (by rw [HL.out]; omega)).trans (by rw [← ext_to]))
      have hx := ext_le s m s.size
      have hxs : (s.extract m s.size).size ≤ 9223372036854775807 := by omega
      go_wp2_with fail
      refine (refName_c _ hxs _).mono ?_
      rintro e w' ⟨rfl, rfl⟩
      go_wp2_with fail
      go_ret
      exact ⟨retBN (by rw [E.out, ext_data]), rfl⟩
end Go.Proofs.YtnenjgngahipdaaGreat
namespace Go.Proofs.YtnenjgngahipdaaGreat
open Go.RowKit
set_option linter.unusedVariables false
theorem kn_st (h : ByteArray → Bool) : ∀ (n : Nat) (t : T), mayB n t = true → knB h n t = stB h n t
  | 0, _, hm => by rfl
  | n + 1, t, hm => by
    obtain ⟨h1, -, h3⟩ := mayB_succ.1 hm
    unfold mayH at h1
    obtain ⟨hk, -, -⟩ := of_decide_eq_true h1
    have e1 : decide (t.k < 3) = (decide (t.k = 0) || decide (t.k = 1) || decide (t.k = 2)) := by
      rw [Bool.eq_iff_iff]; simp only [Bool.or_eq_true, decide_eq_true_iff]; omega
    have e2 : t.l.all (knB h n) = t.l.all (stB h n) := by
      rw [Bool.eq_iff_iff, List.all_eq_true, List.all_eq_true]
      exact ⟨fun k x hx => by rw [← kn_st h n x (h3 x (ins_l hx))]; exact k x hx, fun k x hx => by rw [kn_st h n x (h3 x (ins_l hx))]; exact k x hx⟩
    have e3 : (t.ats.all fun a => knB h n (aty a)) = t.ats.all fun a => stB h n (aty a) := by
      rw [Bool.eq_iff_iff, List.all_eq_true, List.all_eq_true]
      exact ⟨fun k x hx => by rw [← kn_st h n _ (h3 _ (ins_as hx))]; exact k x hx, fun k x hx => by rw [kn_st h n _ (h3 _ (ins_as hx))]; exact k x hx⟩
    rw [knB, stB, e1, e2, e3]
theorem row_same (h : ByteArray → Bool) (n : Nat) (l : List At) : (decide (chkE (n + 1) (recT l) = 0) && knB h (n + 1) (recT l)) = rowB h n l := by
  unfold rowB
  by_cases hc : chkE (n + 1) (recT l) = 0
  · rw [decide_eq_true hc, kn_st h (n + 1) (recT l) (chkE_ok.1 hc).2]
    rw [stB]
    simp [recT, T.k, T.l, T.ats]
  · rw [decide_eq_false hc]; rfl
set_option maxHeartbeats 1600000 in
theorem rrow_c (m : Nat) (ts : List Et) (n : Nat) (hn : n ≤ 100000) (l : List At) (w : World) (vt va v : Value) (h : EtsAt m w ts vt) (hr : RAs (fun _ => True) w n l v) : Calls Tryz.prog 40 #[.agg #[vt, va], v] w fun e w' => e = .returned (.bool (rowB (nmB (ts.map Et.r)) n l)) ∧ Low w w' := by
  obtain ⟨p, c, rfl, z1, z2⟩ := RowR.sl hr
  obtain ⟨U0, hU0⟩ : ∃ U, U = w.alloc (.cells #[vt, va] 46) := ⟨_, rfl⟩
  obtain ⟨U, hU⟩ : ∃ U, U = U0.alloc (.cells #[.int .i64 8, .string ⟨#[]⟩, .slice none 0 0, .slice p l.length c] 31) := ⟨_, rfl⟩
  have s0 : U0.heap.size = w.heap.size + 1 := by rw [hU0]; simp
  have l0 : Low U0 U := by rw [hU]; exact low_new (Low.refl _) _
  have LU := Lib.hid (show Low w U from (by rw [hU0]; exact low_new (Low.refl w) _ : Low w U0).trans l0)
  have HB := Lib.hid fun (W : World) (l2 : Low U W) => box2 (w := w) (wr := W) (c0 := vt) (c1 := va) (t := 46) (by rw [← hU0]; exact l0.trans l2)
  have HT := Lib.hid fun (W : World) (l2 : Low U W) => (by rw [← s0]; exact low_box (w := U0) (wr := W) (c0 := .int .i64 8) (c1 := .string ⟨#[]⟩) (c2 := .slice none 0 0) (c3 := .slice p l.length c) (t := 31) (by rw [← hU]; exact l2) : W.cell? ⟨w.heap.size + 1, 0, none⟩ = some (.int .i64 8) ∧ W.cell? ⟨w.heap.size + 1, 1, none⟩ = some (.string ⟨#[]⟩) ∧ W.cell? ⟨w.heap.size + 1, 2, none⟩ = some (.slice none 0 0) ∧ W.cell? ⟨w.heap.size + 1, 3, none⟩ = some (.slice p l.length c))
  rw [hU0] at hU
  have HU := Lib.hid hU
  have HC := Lib.hid (rCheck_c (by omega) (recT l) U _ _ ((rec_rt hr).low LU.out))
  have HK := Lib.hid fun (W : World) (l2 : Low U W) => known_n m ts (n + 1) (recT l) W vt va _ _ (h.low (LU.out.trans l2)) ((rec_rt hr).low (LU.out.trans l2))
  obtain ⟨q1, hq1⟩ : ∃ q, q = chkE (n + 1) (recT l) := ⟨_, rfl⟩
  obtain ⟨q2, hq2⟩ : ∃ q, q = knB (nmB (ts.map Et.r)) (n + 1) (recT l) := ⟨_, rfl⟩
  rw [← hq1] at HC
  rw [← hq2] at HK
  obtain ⟨R, hR⟩ : ∃ R, R = rowB (nmB (ts.map Et.r)) n l := ⟨_, rfl⟩
  have HR := Lib.hid (show R = (decide (q1 = 0) && q2) by rw [hR, ← row_same, hq1, hq2])
  rw [← hR]
  unfold tv recT at HC HK
  clear hr h hq1 hq2 hR hU hU0 s0 l0
  obtain ⟨b0, b1⟩ := HB.out U (Low.refl U)
  obtain ⟨t0, t1, t2, t3⟩ := HT.out U (Low.refl U)
  go_enter Tryz.func40, Tryz.ntmps40
  go_upto_region 2 with fail
  rw [← HU.out]
  by_cases k : q1 = 0
  · have HR0 := Lib.hid (show R = q2 by rw [HR.out]; simp [k])
    subst k
    clear HR
    go_wp2_with fail
    refine HC.out.mono ?_
    rintro e w2 ⟨rfl, l2⟩
    have HA2 := Lib.hid (HK.out w2 l2)
    clear b0 b1 t0 t1 t2 t3
    obtain ⟨b0, b1⟩ := HB.out w2 l2
    obtain ⟨t0, t1, t2, t3⟩ := HT.out w2 l2
    have L2 := Lib.hid (LU.out.trans l2)
    clear l2
    go_wp2_with fail
    refine HA2.out.mono ?_
    rintro e w3 ⟨rfl, l3⟩
    go_wp2_with fail
    go_ret
    exact ⟨retB HR0.out.symm, L2.out.trans l3⟩
  · have HR0 := Lib.hid (show R = false by rw [HR.out]; simp [k])
    clear HR
    go_wp2_with fail
    refine HC.out.mono ?_
    rintro e w2 ⟨rfl, l2⟩
    go_wp2_with fail
    go_ret
    exact ⟨retB HR0.out.symm, LU.out.trans l2⟩
end Go.Proofs.YtnenjgngahipdaaGreat
namespace Go.Proofs.YtnenjgngahipdaaGreat
open Go.RowKit Go.Maps
set_option linter.unusedVariables false
/-- Does some way go round? -/
noncomputable def rounds (g : Gra) : Bool := @decide (∃ a, Way (Stp g) a a) (Classical.propDecidable _)
theorem rounds_iff {g : Gra} : rounds g = true ↔ ∃ a, Way (Stp g) a a := by
  unfold rounds; exact @decide_eq_true_iff _ (Classical.propDecidable _)
end Go.Proofs.YtnenjgngahipdaaGreat
namespace Go.Proofs.YtnenjgngahipdaaGreat
open Go.RowKit Go.Maps
set_option linter.unusedVariables false
/-- What Check answers. -/
noncomputable def chkS (n : Nat) (ts : List Et) (acs : List Ac) : Int :=
  if ¬ (ts.map Et.nm).Nodup ∨ ¬ (acs.map Ac.nm).Nodup then 13
  else if (!ts.all (typeB (ts.map Et.r) n) || !acs.all (actB (ts.map Et.r) (acs.map Ac.r) n)) = true then 40
  else if rounds (acs.map Ac.r) = true then 21 else 0
end Go.Proofs.YtnenjgngahipdaaGreat
