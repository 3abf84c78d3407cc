/- The reference's loose reading, step by step. No condition. -/
import Derived.Test.YtdblkjcimegoeaaDoorUnqW
namespace Go.Proofs.YtdblkjcimegoeaaDoor
open Go.RowKit
/-- Where the loose reading stands. -/
def LAt (l t : List UInt8) (k : Nat) : Prop := loo l = t ++ loo (l.drop (k - 1)) ∧ t.length + 1 ≤ k
theorem lat_start (l : List UInt8) : LAt l [] 1 := ⟨rfl, Nat.le_refl _⟩
theorem lat_end {l t : List UInt8} {k : Nat} (h : LAt l t k) (hk : l.length ≤ k - 1) : loo l = t := by
  rw [h.1, List.drop_eq_nil_of_le hk, loo_nil, List.append_nil]
theorem lat_step {l t : List UInt8} {k n : Nat} {c d : UInt8} {r : List UInt8} (h : LAt l t k) (hd : l.drop (k - 1) = c :: r) (hl : looL c r = (d, n)) (hn : 1 ≤ n) : LAt l (t ++ [d]) (k + n) := by
  refine ⟨?_, by rw [List.length_append]; have := h.2; simp; omega⟩
  rw [h.1, hd, loo_cons, hl]
  have : l.drop (k + n - 1) = (c :: r).drop n := by rw [← hd, List.drop_drop]; congr 1; have := h.2; omega
  rw [this]; simp
theorem mid_drop {s : ByteArray} {k : Nat} (h1 : 1 ≤ k) (hk : k + 1 < s.size) : (midL s.data.toList).drop (k - 1) = s[k] :: (midL s.data.toList).drop k := by
  have hl : (midL s.data.toList).length = s.size - 2 := by unfold midL; rw [List.length_dropLast, List.length_drop]; have : s.data.toList.length = s.size := rfl; omega
  rw [List.drop_eq_getElem_cons (by omega), show k - 1 + 1 = k from by omega]
  congr 1
  simp only [midL, List.getElem_dropLast, List.getElem_drop]
  have : 1 + (k - 1) = k := by omega
  simp only [this]; rfl
theorem mid_len (s : ByteArray) : (midL s.data.toList).length = s.size - 2 := by
  unfold midL; rw [List.length_dropLast, List.length_drop]; have : s.data.toList.length = s.size := rfl; omega
theorem lat_plain {s : ByteArray} {t : List UInt8} {k : Nat} (h : LAt (midL s.data.toList) t k) (h1 : 1 ≤ k) (hk : k + 1 < s.size) (hc : (s[k] == 92) = false) : LAt (midL s.data.toList) (t ++ [s[k]]) (k + 1) :=
  lat_step h (mid_drop h1 hk) (by unfold looL; simp [hc]) (Nat.le_refl _)
theorem lat_mark {s : ByteArray} {t : List UInt8} {k : Nat} (h : LAt (midL s.data.toList) t k) (h1 : 1 ≤ k) (hk : k + 2 < s.size) (hc : (s[k] == 92) = true) (hm : markB s[k + 1] = true) : LAt (midL s.data.toList) (t ++ [s[k + 1]]) (k + 2) :=
  lat_step h (mid_drop h1 (by omega)) (by
    have e : (midL s.data.toList).drop k = _ := mid_drop (k := k + 1) (by omega) (by omega)
    rw [e]; unfold looL; simp [hc, hm]) (by omega)
theorem lat_three {s : ByteArray} {t : List UInt8} {k : Nat} (h : LAt (midL s.data.toList) t k) (h1 : 1 ≤ k) (hk : k + 1 < s.size) (hs : s.size ≤ k + 2) : LAt (midL s.data.toList) (t ++ [s[k]]) (k + 1) :=
  lat_step h (mid_drop h1 (by omega)) (by
    have e : (midL s.data.toList).drop k = [] := List.drop_eq_nil_of_le (by rw [mid_len]; omega)
    rw [e]; unfold looL; split <;> rfl) (Nat.le_refl _)
theorem lat_short {s : ByteArray} {t : List UInt8} {k : Nat} (h : LAt (midL s.data.toList) t k) (h1 : 1 ≤ k) (hk : k + 2 < s.size) (hm : markB s[k + 1] = false) (hs : s.size ≤ k + 4) : LAt (midL s.data.toList) (t ++ [s[k]]) (k + 1) :=
  lat_step h (mid_drop h1 (by omega)) (by
    have e : (midL s.data.toList).drop k = _ := mid_drop (k := k + 1) (by omega) (by omega)
    have hl : ((midL s.data.toList).drop (k + 1)).length ≤ 1 := by rw [List.length_drop, mid_len]; omega
    rw [e]
    generalize (midL s.data.toList).drop (k + 1) = d at hl
    unfold looL
    match d, hl with
    | [], _ => simp [hm]
    | [_], _ => simp [hm]) (Nat.le_refl _)
theorem mid_four {s : ByteArray} {k : Nat} (h1 : 1 ≤ k) (hk : k + 4 < s.size) : (midL s.data.toList).drop k = s[k + 1] :: s[k + 2] :: s[k + 3] :: (midL s.data.toList).drop (k + 3) := by
  have e1 : (midL s.data.toList).drop k = _ := mid_drop (k := k + 1) (by omega) (by omega)
  have e2 : (midL s.data.toList).drop (k + 1) = _ := mid_drop (k := k + 2) (by omega) (by omega)
  have e3 : (midL s.data.toList).drop (k + 2) = _ := mid_drop (k := k + 3) (by omega) (by omega)
  rw [e1, e2, e3]
theorem lat_else {s : ByteArray} {t : List UInt8} {k : Nat} (h : LAt (midL s.data.toList) t k) (h1 : 1 ≤ k) (hk : k + 4 < s.size) (hm : markB s[k + 1] = false) (hx : (s[k + 1] == 120) = false ∨ ¬ hexV s[k + 2] < 16 ∨ ¬ hexV s[k + 3] < 16) : LAt (midL s.data.toList) (t ++ [s[k]]) (k + 1) :=
  lat_step h (mid_drop h1 (by omega)) (by
    rw [mid_four h1 hk]; unfold looL
    rcases hx with hx | hx | hx <;> simp [hm, hx]) (Nat.le_refl _)
theorem lat_hex {s : ByteArray} {t : List UInt8} {k : Nat} (h : LAt (midL s.data.toList) t k) (h1 : 1 ≤ k) (hk : k + 4 < s.size) (hc : (s[k] == 92) = true) (hm : markB s[k + 1] = false) (hx : (s[k + 1] == 120) = true) (ha : hexV s[k + 2] < 16) (hb : hexV s[k + 3] < 16) : LAt (midL s.data.toList) (t ++ [hexB s[k + 2] s[k + 3]]) (k + 4) :=
  lat_step h (mid_drop h1 (by omega)) (by
    rw [mid_four h1 hk]; unfold looL
    simp [hc, hm, hx, ha, hb]) (by omega)
theorem hex_run64 (n : Nat) (hn : n < 16) (w : World) :
    (Instr.index 9 (.string ⟨#[48, 49, 50, 51, 52, 53, 54, 55, 56, 57, 97, 98, 99, 100, 101, 102]⟩) (.int .i64 (n : Int))).run Tryd.prog w = .ok (.int .u8 (hexN n).toNat) w := by
  have h0 : (0 : Int) ≤ n ∧ (n : Int) < 16 := by omega
  have e := hexN_at ⟨n, hn⟩
  simp only [← e]
  go_simp
theorem hexN_eq (c : UInt8) (n : Nat) (hn : n < 16) : (((hexN n).toNat : Int) == (c.toNat : Int)) = decide (hexV c = n) := by
  rw [eq_byte, Bool.eq_iff_iff]
  simp only [beq_iff_eq, decide_eq_true_eq]
  constructor
  · intro e; rw [← e, hexN_v n hn]
  · intro e; rw [← e]; exact hexV_n c (by omega)
set_option maxHeartbeats 800000 in
theorem refDig_c (c : UInt8) (w : World) : Calls Tryd.prog 43 #[.int .u8 c.toNat] w fun e w' => e = .returned (.int .i64 (hexV c)) ∧ w' = w := by
  have hv := hexV_le c
  go_enter Tryd.func43, Tryd.ntmps43
  go_wp2_with fail
  go_loop [3] (fun i => ∃ k : Nat, k ≤ hexV c ∧ i = .int .i64 k) (fun i => 16 - (intOf i).toNat)
  case atStart => exact ⟨0, Nat.zero_le _, rfl⟩
  case round =>
    obtain ⟨k, hk, rfl⟩ := hrel
    by_cases hlt : k < 16
    · have R := fun w => hex_run64 k hlt w
      have E := hexN_eq c k hlt
      by_cases he : hexV c = k
      · have E : (((hexN k).toNat : Int) == (c.toNat : Int)) = true := by rw [E]; exact decide_eq_true he
        have HE := Lib.hid he
        clear he
        go_wp2_with fail
        go_ret
        exact ⟨by first | rfl | (rw [HE.out]; rfl), rfl⟩
      · have E : (((hexN k).toNat : Int) == (c.toNat : Int)) = false := by rw [E]; exact decide_eq_false he
        have hk2 : k + 1 ≤ hexV c := by omega
        clear he
        go_wp2_with fail
        go_round
        case rel => exact ⟨k + 1, hk2, by go_num⟩
        case measure => simp [intOf]; omega
    · have he : k = 16 := by omega
      have HE : Hid (hexV c = 16) := by show _ = _; omega
      subst he
      go_wp2_with fail
      go_ret
      exact ⟨by first | rfl | (rw [HE.out]; rfl), rfl⟩
end Go.Proofs.YtdblkjcimegoeaaDoor
