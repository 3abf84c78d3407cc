/- texts.Path: is a text a name, or several with two colons between? Conditions: the text is shorter than the library's bound; the library's variable holds a number. -/
import Derived.Test.YtijjbfdbhfjfmaaGrN
import Derived.Test.YtijjbfdbhfjfmaaShelf
import Derived.Shelf.Vars
namespace Go.Proofs.Ytijjbfdbhfjfmaa
open Go.RowKit
/-- The library's variable holds some number. -/
def Mx (w : World) : Prop := ∃ m, w.cell? ⟨0, 0, none⟩ = some (.int .i64 m)
theorem Mx.low {w w' : World} (h : Mx w) (hl : Low w w') : Mx w' := by obtain ⟨m, hm⟩ := h; exact ⟨m, hl.keep hm⟩
theorem Mx.drewN {w : World} (h : Mx w) (n : Nat) : Mx (w.drewN n) := h.low (Low.drewN w n)
theorem mx_of {w : World} (h : w.ShapedOpen Try.prog) : Mx w :=
  cell_of_shapedOpen_int h (of_decide_eq_true (by kernel_rfl)) (zero := #[.int .i64 0]) (t := 3) (by kernel_rfl) rfl (by kernel_rfl) (by kernel_rfl) (by kernel_rfl)
def colons : ByteArray := ⟨#[58, 58]⟩
theorem cut_none {l : List UInt8} (h : ¬ 0 ≤ Lib.index l [58, 58]) : Lib.cut l [58, 58] = (l, [], false) := if_neg h
theorem cut_some {l : List UInt8} {k : Nat} (h : Lib.index l [58, 58] = k) : Lib.cut l [58, 58] = (l.take k, l.drop (k + 2), true) := by
  unfold Lib.cut
  rw [if_pos (by omega), h]; simp
theorem occ_iff (l : List UInt8) (i : Nat) : Lib.occAt l [58, 58] i = true ↔ l[i]? = some 58 ∧ l[i + 1]? = some 58 := by
  unfold Lib.occAt
  have e1 : l[i]? = (l.drop i)[0]? := by simp
  have e2 : l[i + 1]? = (l.drop i)[1]? := by simp
  rw [e1, e2]
  generalize l.drop i = d
  match d with
  | [] => simp
  | [a] => simp
  | a :: b :: r => simp; exact ⟨fun ⟨x, y⟩ => ⟨x.symm, y.symm⟩, fun ⟨x, y⟩ => ⟨x.symm, y.symm⟩⟩
theorem path_none {l : List UInt8} (h : ¬ 0 ≤ Lib.index l [58, 58]) : pathB l = nameB l := by
  refine pathS_none [] l fun i hi hc => ?_
  rcases Lib.index_spec l [58, 58] with ⟨_, hn⟩ | ⟨i, e, _⟩
  · have := hn i (by omega)
    rw [(occ_iff l i).2 hc] at this
    exact absurd this (by decide)
  · omega
theorem path_some {l : List UInt8} (h : 0 ≤ Lib.index l [58, 58]) : ∃ k : Nat, k + 2 ≤ l.length ∧ Lib.index l [58, 58] = k ∧ pathB l = (nameB (l.take k) && pathB (l.drop (k + 2))) := by
  rcases Lib.index_spec l [58, 58] with ⟨e, _⟩ | ⟨k, e, hk, ho, hn⟩
  · omega
  · have hr := (Lib.occAt_room ho).resolve_right (by simp)
    simp at hr
    refine ⟨k, by omega, e, ?_⟩
    have hc := (occ_iff l k).1 ho
    exact pathS_at k [] l (by omega) (fun i hi hc => by have := hn i hi; rw [(occ_iff l i).2 hc] at this; exact absurd this (by decide)) hc.1 hc.2
theorem cut_no (x : List UInt8) (h : ¬ 0 ≤ Lib.index x [58, 58]) (hs : x.length < 4294967281) (w : World) (hm : Mx w) :
    Calls Try.prog 51 #[.string ⟨x.toArray⟩, .string ⟨#[58, 58]⟩] w fun e w' => e = .returned (.tuple #[.string ⟨x.toArray⟩, .string ⟨#[]⟩, .bool false]) ∧ ∃ n, w' = w.drewN n := by
  obtain ⟨m, hm⟩ := hm
  have c := Try.strings_Cut ⟨x.toArray⟩ ⟨#[58, 58]⟩ m w hs hm
  have e : Lib.cut (ByteArray.mk x.toArray).data.toList (ByteArray.mk #[58, 58]).data.toList = (x, [], false) := cut_none h
  rw [e] at c
  exact c
theorem cut_yes (x : List UInt8) (k : Nat) (h : Lib.index x [58, 58] = k) (hs : x.length < 4294967281) (w : World) (hm : Mx w) :
    Calls Try.prog 51 #[.string ⟨x.toArray⟩, .string ⟨#[58, 58]⟩] w fun e w' => e = .returned (.tuple #[.string ⟨(x.take k).toArray⟩, .string ⟨(x.drop (k + 2)).toArray⟩, .bool true]) ∧ ∃ n, w' = w.drewN n := by
  obtain ⟨m, hm⟩ := hm
  have c := Try.strings_Cut ⟨x.toArray⟩ ⟨#[58, 58]⟩ m w hs hm
  have e : Lib.cut (ByteArray.mk x.toArray).data.toList (ByteArray.mk #[58, 58]).data.toList = (x.take k, x.drop (k + 2), true) := cut_some h
  rw [e] at c
  exact c
theorem name_l (l : List UInt8) (h : l.length ≤ 9223372036854775807) (w : World) :
    Calls Try.prog 52 #[.string ⟨l.toArray⟩] w fun e w' => e = .returned (.bool (nameB l)) ∧ w = w' := name_c ⟨l.toArray⟩ h w
def strLen : Value → Nat | .string s => s.size | _ => 0
theorem strLen_mk (l : List UInt8) : strLen (.string ⟨l.toArray⟩) = l.length := rfl
theorem str_eta (s : ByteArray) : s = ⟨s.data.toList.toArray⟩ := rfl
set_option maxHeartbeats 800000 in
theorem path_c (s : ByteArray) (hs : s.size < 4294967281) (w : World) (hm : Mx w) :
    Calls Try.prog 43 #[.string s] w fun e w' => e = .returned (.bool (pathB s.data.toList)) ∧ ∃ n, w' = w.drewN n := by
  go_enter Try.func43, Try.ntmps43
  go_wp2_with fail
  go_loopw [0] (fun v wr => ∃ (x : List UInt8) (n : Nat), v = .string ⟨x.toArray⟩ ∧ x.length ≤ s.size ∧ Hid (pathB x = pathB s.data.toList) ∧ wr = w.drewN n) (fun v _ => strLen v)
  case atStart => exact ⟨s.data.toList, 0, rfl, Nat.le_refl _, rfl, rfl⟩
  case round =>
    obtain ⟨x, n, rfl, hx, hp, rfl⟩ := hrel
    have hxs : x.length < 4294967281 := by omega
    have hmn := hm.drewN n
    by_cases hi : 0 ≤ Lib.index x [58, 58]
    · obtain ⟨k, hk, hix, hpk⟩ := path_some hi
      have HI := Lib.hid hix
      have HP := Lib.hid (hp.out.symm.trans hpk)
      clear hi hix hpk
      cases hn : nameB (x.take k) with
      | false =>
        have HN := Lib.hid hn
        clear hn
        go_wp2_with fail
        refine (cut_yes x k HI.out hxs _ hmn).mono ?_
        rintro e w' ⟨rfl, n2, rfl⟩
        go_wp2_with fail
        refine (name_l _ (by rw [List.length_take]; omega) _).mono ?_
        rintro e w' ⟨rfl, rfl⟩
        rw [HN.out]
        go_wp2_with fail
        go_ret
        exact ⟨retBN (by rw [HP.out, HN.out]; rfl), _, rfl⟩
      | true =>
        have HN := Lib.hid hn
        clear hn
        go_wp2_with fail
        refine (cut_yes x k HI.out hxs _ hmn).mono ?_
        rintro e w' ⟨rfl, n2, rfl⟩
        go_wp2_with fail
        refine (name_l _ (by rw [List.length_take]; omega) _).mono ?_
        rintro e w' ⟨rfl, rfl⟩
        rw [HN.out]
        go_wp2_with fail
        go_roundw
        case rel => exact ⟨x.drop (k + 2), n + n2, rfl, by rw [List.length_drop]; omega, by show _ = _; rw [HP.out, HN.out]; rfl, rfl⟩
        case measure => simp [strLen_mk]; omega
    · have HP := Lib.hid (hp.out.symm.trans (path_none hi))
      have HI := Lib.hid hi
      clear hi
      cases hn : nameB x with
      | false =>
        have HN := Lib.hid hn
        clear hn
        go_wp2_with fail
        refine (cut_no x (by have := HI.out; omega) hxs _ hmn).mono ?_
        rintro e w' ⟨rfl, n2, rfl⟩
        go_wp2_with fail
        refine (name_l _ (by omega) _).mono ?_
        rintro e w' ⟨rfl, rfl⟩
        rw [HN.out]
        go_wp2_with fail
        go_ret
        exact ⟨retBN (by rw [HP.out, HN.out]), _, rfl⟩
      | true =>
        have HN := Lib.hid hn
        clear hn
        go_wp2_with fail
        refine (cut_no x (by have := HI.out; omega) hxs _ hmn).mono ?_
        rintro e w' ⟨rfl, n2, rfl⟩
        go_wp2_with fail
        refine (name_l _ (by omega) _).mono ?_
        rintro e w' ⟨rfl, rfl⟩
        rw [HN.out]
        go_wp2_with fail
        go_ret
        exact ⟨retBN (by rw [HP.out, HN.out]), _, rfl⟩
end Go.Proofs.Ytijjbfdbhfjfmaa
