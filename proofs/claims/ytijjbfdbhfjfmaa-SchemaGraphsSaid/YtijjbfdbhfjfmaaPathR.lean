/- The reference's Path: is a text a name, or several with two colons between? Condition: the length that any string has. -/
import Derived.Test.YtijjbfdbhfjfmaaPathW
import Derived.Test.YtijjbfdbhfjfmaaExt
namespace Go.Proofs.Ytijjbfdbhfjfmaa
open Go.RowKit
/-- Where the reference's loop stands: names up to 'm' are read, and those bytes behind it up to 'k'. -/
def RPath (l : List UInt8) (m k : Nat) : Prop := (m ≤ k ∧ k ≤ l.length ∧ pathS ((l.drop m).take (k - m)) (l.drop k) = pathB l) ∨ (k + 1 = m ∧ m ≤ l.length ∧ pathB (l.drop m) = pathB l)
theorem rpath_start (l : List UInt8) : RPath l 0 0 := .inl ⟨Nat.le_refl _, Nat.zero_le _, rfl⟩
theorem rpath_m {l : List UInt8} {m k : Nat} (h : RPath l m k) : m ≤ l.length := by rcases h with ⟨h1, h2, _⟩ | ⟨_, h, _⟩ <;> omega
theorem rpath_skip {l : List UInt8} {m k : Nat} (h : RPath l m k) (hk : k < m) : RPath l m (k + 1) := by
  rcases h with ⟨h1, _, _⟩ | ⟨rfl, h2, h3⟩
  · omega
  · exact .inl ⟨Nat.le_refl _, h2, by rw [Nat.sub_self]; exact h3⟩
theorem rpath_grow {l : List UInt8} {m k : Nat} (h : RPath l m k) (hm : m ≤ k) (hk : k + 1 < l.length) (hc : ¬ (l[k] = 58 ∧ l[k + 1] = 58)) : RPath l m (k + 1) := by
  rcases h with ⟨_, _, h3⟩ | ⟨h1, _, _⟩
  · refine .inl ⟨by omega, by omega, ?_⟩
    rw [← h3, List.drop_eq_getElem_cons (i := k) (by omega), pathS_other]
    · congr 1
      rw [show k + 1 - m = (k - m) + 1 from by omega, List.take_succ_eq_append_getElem (by rw [List.length_drop]; omega)]
      simp [show m + (k - m) = k from by omega]
    · intro ⟨e1, e2⟩
      rw [List.head?_drop, List.getElem?_eq_getElem hk] at e2
      exact hc ⟨e1, by simpa using e2⟩
  · omega
theorem rpath_cut {l : List UInt8} {m k : Nat} (h : RPath l m k) (hm : m ≤ k) (hk : k + 1 < l.length) (h1 : l[k] = 58) (h2 : l[k + 1] = 58) :
    pathB l = (nameB ((l.drop m).take (k - m)) && pathB (l.drop (k + 2))) := by
  rcases h with ⟨_, _, h3⟩ | ⟨h1, _, _⟩
  · rw [← h3, List.drop_eq_getElem_cons (i := k) (by omega), List.drop_eq_getElem_cons (i := k + 1) (by omega), h1, h2, pathS_colons]; rfl
  · omega
theorem rpath_part {l : List UInt8} {m k : Nat} (h : RPath l m k) (hm : m ≤ k) (hk : k + 1 < l.length) (h1 : l[k] = 58) (h2 : l[k + 1] = 58) (hn : nameB ((l.drop m).take (k - m)) = true) : RPath l (k + 2) (k + 1) :=
  .inr ⟨rfl, by omega, by rw [rpath_cut h hm hk h1 h2, hn]; rfl⟩
theorem rpath_no {l : List UInt8} {m k : Nat} (h : RPath l m k) (hm : m ≤ k) (hk : k + 1 < l.length) (h1 : l[k] = 58) (h2 : l[k + 1] = 58) (hn : nameB ((l.drop m).take (k - m)) = false) : pathB l = false := by
  rw [rpath_cut h hm hk h1 h2, hn]; rfl
theorem rpath_end {l : List UInt8} {m k : Nat} (h : RPath l m k) (hk : l.length ≤ k + 1) : pathB l = nameB (l.drop m) := by
  rcases h with ⟨h1, h2, h3⟩ | ⟨h1, h2, h3⟩
  · rw [← h3]
    have e : (l.drop m).take (k - m) ++ l.drop k = l.drop m := by
      have : l.drop k = (l.drop m).drop (k - m) := by rw [List.drop_drop]; congr 1; omega
      rw [this, List.take_append_drop]
    have hl : (l.drop k).length ≤ 1 := by rw [List.length_drop]; omega
    match hd : l.drop k, hl with
    | [], _ => rw [hd, List.append_nil] at e; rw [pathS, e]
    | [c], _ => rw [hd] at e; rw [pathS, e]
  · have : l.drop m = [] := List.drop_eq_nil_of_le (by omega)
    rw [← h3, this]; rfl
set_option maxHeartbeats 1600000 in
theorem refPath_c (s : ByteArray) (hs : s.size ≤ 4294967281) (w : World) :
    Calls Try.prog 32 #[.string s] w fun e w' => e = .returned (.bool (pathB s.data.toList)) ∧ w = w' := by
  have hlen : s.data.toList.length = s.size := rfl
  have HL := Lib.hid hlen
  clear hlen
  go_enter Try.func32, Try.ntmps32
  go_wp2_with fail
  go_loop [3, 4] (fun f i => ∃ m k : Nat, f = .int .i64 m ∧ i = .int .i64 k ∧ m ≤ s.size ∧ k ≤ s.size ∧ RPath s.data.toList m k) (fun _ i => s.size - (intOf i).toNat)
  case atStart => exact ⟨0, 0, rfl, rfl, Nat.zero_le _, Nat.zero_le _, rpath_start _⟩
  case round =>
    obtain ⟨m, k, rfl, rfl, hm, hk, hr⟩ := hrel
    by_cases hlt : k + 1 < s.size
    · by_cases hmk : m ≤ k
      · have B1 : s[k] = s.data.toList[k]'(by rw [HL.out]; omega) := rfl
        have B2 : s[k + 1] = s.data.toList[k + 1]'(by rw [HL.out]; omega) := rfl
        have G1 := fun hc => rpath_grow hr hmk (by rw [HL.out]; exact hlt) hc
        have G2 := fun h1 h2 hn => rpath_part hr hmk (by rw [HL.out]; exact hlt) h1 h2 hn
        have G3 := fun h1 h2 hn => rpath_no hr hmk (by rw [HL.out]; exact hlt) h1 h2 hn
        rw [← B1, ← B2] at G1 G2 G3
        clear B1 B2
        cases h1 : s[k] == 58 with
        | false =>
          have NX := G1 (by intro h; rw [h.1] at h1; exact absurd h1 (by decide))
          have q1 := byte_ne h1
          have q1 : ((s[k].toNat : Int) == 58) = false := q1
          clear h1 G1 G2 G3
          go_wp2_with fail
          go_round
          case rel => exact ⟨m, k + 1, rfl, by go_num, hm, by omega, NX⟩
          case measure => simp [intOf]; omega
        | true =>
          cases h2 : s[k + 1] == 58 with
          | false =>
            have NX := G1 (by intro h; rw [h.2] at h2; exact absurd h2 (by decide))
            have q1 : ((s[k].toNat : Int) == 58) = true := byte_eq h1
            have q2 : ((s[k + 1].toNat : Int) == 58) = false := byte_ne h2
            clear h1 h2 G1 G2 G3
            go_wp2_with fail
            go_round
            case rel => exact ⟨m, k + 1, rfl, by go_num, hm, by omega, NX⟩
            case measure => simp [intOf]; omega
          | true =>
            have q1 : ((s[k].toNat : Int) == 58) = true := byte_eq h1
            have q2 : ((s[k + 1].toNat : Int) == 58) = true := byte_eq h2
            have hx := ext_le s m k
            have hxs : (s.extract m k).size ≤ 9223372036854775807 := by omega
            have X := ext_data s m k
            cases hn : nameB ((s.data.toList.drop m).take (k - m)) with
            | false =>
              have NX := Lib.hid (G3 (by simpa using h1) (by simpa using h2) hn)
              have HN : Hid (nameB (s.extract m k).data.toList = false) := by show _ = _; rw [X]; exact hn
              clear h1 h2 G1 G2 G3 X hn
              go_wp2_with fail
              refine (refName_c _ hxs _).mono ?_
              rintro e w' ⟨rfl, rfl⟩
              rw [HN.out]
              go_wp2_with fail
              go_ret
              exact ⟨retBN (by rw [NX.out]), rfl⟩
            | true =>
              have NX := G2 (by simpa using h1) (by simpa using h2) hn
              have HN : Hid (nameB (s.extract m k).data.toList = true) := by show _ = _; rw [X]; exact hn
              clear h1 h2 G1 G2 G3 X hn
              go_wp2_with fail
              refine (refName_c _ hxs _).mono ?_
              rintro e w' ⟨rfl, rfl⟩
              rw [HN.out]
              go_wp2_with fail
              go_round
              case rel => exact ⟨k + 2, k + 1, by go_num, by go_num, by omega, by omega, NX⟩
              case measure => simp [intOf]; omega
      · have NX := rpath_skip hr (by omega)
        go_wp2_with fail
        go_round
        case rel => exact ⟨m, k + 1, rfl, by go_num, hm, by omega, NX⟩
        case measure => simp [intOf]; omega
    · have E := Lib.hid ((rpath_end hr (by rw [HL.out]; omega)).trans (by rw [← ext_to]))
      have hx := ext_le s m s.size
      have hxs : (s.extract m s.size).size ≤ 9223372036854775807 := by omega
      go_wp2_with fail
      refine (refName_c _ hxs _).mono ?_
      rintro e w' ⟨rfl, rfl⟩
      go_wp2_with fail
      go_ret
      exact ⟨retBN (by rw [E.out, ext_data]), rfl⟩
end Go.Proofs.Ytijjbfdbhfjfmaa
