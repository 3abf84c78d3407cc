/- texts.Quote: a text in quotes. Condition: the text is shorter than 2^32. -/
import Derived.Test.YtcckikaafjmolaaQuoteL
import Derived.Test.YtcckikaafjmolaaBytes
import Derived.Deep.RegionLaw
import Derived.WalkLawsBesides
import Derived.WalkSpells
import Derived.Outline
namespace Go.Proofs.Ytcckikaafjmolaa
open Go.RowKit
theorem retS {a b : List UInt8} (h : a = b) : Ending.returned (.string ⟨a.toArray⟩) = .returned (.string ⟨b.toArray⟩) := by rw [h]
theorem hex_run (n : Nat) (hn : n < 16) (m : Int) (hm : m = n) (w : World) :
    (Instr.index 9 (.string ⟨#[48, 49, 50, 51, 52, 53, 54, 55, 56, 57, 97, 98, 99, 100, 101, 102]⟩) (.int .u8 m)).run Try.prog w = .ok (.int .u8 (hexN n).toNat) w := by
  subst hm
  have h0 : (0 : Int) ≤ n ∧ (n : Int) < 16 := by omega
  have e := hexN_at ⟨n, hn⟩
  simp only [← e]
  go_simp
set_option maxHeartbeats 1600000 in
theorem quote_c (s : ByteArray) (hs : s.size ≤ 4294967295) (w : World) :
    Calls Try.prog 13 #[.string s] w fun e w' => e = .returned (.string ⟨(quoteL s.data.toList).toArray⟩) ∧ Low w w' := by
  go_enter Try.func13, Try.ntmps13
  go_wp2_with (first
    | (refine own_make rfl _ _ rfl w.heap.size (s.size + 2) _ rfl rfl (by omega) (by omega) (Nat.le_refl _) ?_; intro v0 w0 h0 b0; have hB := b0.size)
    | (at_builtin; refine own_app rfl _ _ _ rfl Try.underlying32 w.heap.size _ [] [34] rfl (h0.alloc _) ⟨w0.heap.size, 0, none⟩ 1 _ rfl rfl (cells_new _ [34] _ _ rfl) (by simp) (by simp; omega) ?_; intro v1 w1 h1 b1))
  go_loopw [3, 15] (fun v i wr => ∃ k : Nat, k ≤ s.size ∧ i = .int .i64 k ∧ Own w.heap.size wr v (34 :: quoI (s.data.toList.take k)) ∧ Below w.heap.size w wr) (fun _ i _ => s.size - (intOf i).toNat)
  case atStart => exact ⟨0, Nat.zero_le _, rfl, h1, b0.trans ((Below.refl _ _).alloc hB _ |>.trans b1)⟩
  case round =>
    obtain ⟨k, hk, rfl, hown, hb⟩ := hrel
    have hr := hb.size
    clear h0 b0 h1 b1 hB
    by_cases hlt : k < s.size
    · have T := quoI_take (l := s.data.toList) (k := k) (by simpa using hlt)
      have TL : (34 :: quoI (s.data.toList.take k)).length ≤ 1 + 4 * s.size := by have := quoI_take_len s.data.toList k; simp at *; omega
      rw [show s.data.toList[k]'(by simpa using hlt) = s[k] from rfl] at T
      cases hm : markB s[k] with
      | true =>
        have HM := Lib.hid hm
        rw [quo1_mark hm] at T
        have HT := Lib.hid T
        clear hm T
        go_wp2_with (first
          | (go_at_call 22; refine (marked_c _ _).mono ?_; rintro e w' ⟨rfl, rfl⟩; rw [HM.out])
          | (at_builtin; refine own_app rfl _ _ _ rfl Try.underlying32 w.heap.size _ _ [92, s[k]] rfl (hown.alloc _) ⟨wr.heap.size, 0, none⟩ 2 _ rfl rfl (cells_new _ [92, s[k]] _ _ rfl) (by omega) (by simp; omega) ?_; intro v2 w2 h2 b2))
        go_roundw
        case rel => exact ⟨k + 1, by omega, by go_num, by rw [HT.out]; exact h2, hb.trans ((Below.refl _ _).alloc hr _ |>.trans b2)⟩
        case measure => simp [intOf]; omega
      | false =>
        cases hp : prinB s[k] with
        | true =>
          have HM := Lib.hid hm
          have HP := Lib.hid hp
          rw [quo1_plain hm hp] at T
          have HT := Lib.hid T
          clear hm hp T
          go_wp2_with (first
            | (go_at_call 22; refine (marked_c _ _).mono ?_; rintro e w' ⟨rfl, rfl⟩; rw [HM.out])
            | (go_at_call 23; refine (printed_c _ _).mono ?_; rintro e w' ⟨rfl, rfl⟩; rw [HP.out])
            | (at_builtin; refine own_app rfl _ _ _ rfl Try.underlying32 w.heap.size _ _ [s[k]] rfl (hown.alloc _) ⟨wr.heap.size, 0, none⟩ 1 _ rfl rfl (cells_new _ [s[k]] _ _ rfl) (by omega) (by simp; omega) ?_; intro v2 w2 h2 b2))
          go_roundw
          case rel => exact ⟨k + 1, by omega, by go_num, by rw [HT.out]; exact h2, hb.trans ((Below.refl _ _).alloc hr _ |>.trans b2)⟩
          case measure => simp [intOf]; omega
        | false =>
          have HM := Lib.hid hm
          have HP := Lib.hid hp
          rw [quo1_hex hm hp] at T
          have HT := Lib.hid T
          clear hm hp T
          go_wp2_with (first
            | (go_at_call 22; refine (marked_c _ _).mono ?_; rintro e w' ⟨rfl, rfl⟩; rw [HM.out])
            | (go_at_call 23; refine (printed_c _ _).mono ?_; rintro e w' ⟨rfl, rfl⟩; rw [HP.out]))
          have X1 := fun w => hex_run (s[k].toNat / 16) (by have := s[k].toNat_lt; omega) ((s[k].toNat : Int) / 16) (by omega) w
          have X2 := fun w => hex_run (s[k].toNat % 16) (by omega) ((s[k].toNat : Int) % 16) (by omega) w
          have A15 := and15 s[k]
          go_region_law (refine own_step rfl _ _ _ rfl Try.underlying32 w.heap.size _ _ [92, 120, hexN (s[k].toNat / 16), hexN (s[k].toNat % 16)] rfl (hown.drew.alloc _) ⟨wr.heap.size, 0, none⟩ 4 _ rfl rfl (cells_new _ [92, 120, hexN (s[k].toNat / 16), hexN (s[k].toNat % 16)] _ _ rfl) (by omega) (by simp; omega) ?_; intro v2 w2 h2 b2)
          all_goals
            go_wp2
            go_roundw
            case rel => exact ⟨k + 1, by omega, by go_num, by rw [HT.out]; exact h2, hb.trans ((((Below.refl _ _).alloc hr _).drew).trans b2)⟩
            case measure => simp [intOf]; omega
    · have HT : Hid (s.data.toList.take k = s.data.toList) := List.take_of_length_le (show s.size ≤ k by omega)
      have TL : (34 :: quoI (s.data.toList.take k)).length ≤ 1 + 4 * s.size := by have := quoI_take_len s.data.toList k; simp at *; omega
      go_wp2_with (first
        | (at_builtin; refine own_app rfl _ _ _ rfl Try.underlying32 w.heap.size _ _ [34] rfl (hown.alloc _) ⟨wr.heap.size, 0, none⟩ 1 _ rfl rfl (cells_new _ [34] _ _ rfl) (by omega) (by simp; omega) ?_; intro v2 w2 h2 b2; have C2 := own_conv h2))
      go_ret
      exact ⟨retS (by rw [HT.out]; rfl), Low.of_below (hb.trans (((Below.refl _ _).alloc hr _).trans b2))⟩
end Go.Proofs.Ytcckikaafjmolaa
