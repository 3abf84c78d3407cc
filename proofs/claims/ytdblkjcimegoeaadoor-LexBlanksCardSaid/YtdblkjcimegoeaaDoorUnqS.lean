/- The reference's Unquote: the text that stands in quotes. Condition: the text is shorter than 2^32. -/
import Derived.Test.YtdblkjcimegoeaaDoorUnqR
import Derived.Test.YtdblkjcimegoeaaDoorQuoteR
namespace Go.Proofs.YtdblkjcimegoeaaDoor
open Go.RowKit
theorem add_hex (a b : UInt8) (ha : hexV a < 16) (hb : hexV b < 16) : (16 * (hexV a : Int) + (hexV b : Int)) = ((hexB a b).toNat : Int) := by
  rw [hexB_nat ha hb]; omega
theorem refQuote_l (t : List UInt8) (hs : t.length ≤ 4294967295) (w : World) :
    Calls Tryd.prog 44 #[.string ⟨t.toArray⟩] w fun e w' => e = .returned (.string ⟨(quoteL t).toArray⟩) ∧ Low w w' := refQuote_c ⟨t.toArray⟩ hs w
/-- What is owned stays owned where nothing that was there turns. -/
theorem own_low {B : Nat} {a w w' : World} {v : Value} {l : List UInt8} (_ : Below B a w) (h : Own B w v l) (hl : Low w w') : Own B w' v l := by
  have hk := World.ownsRow.lt h
  obtain ⟨h1, h2⟩ := h
  refine ⟨h1, ?_⟩
  rcases h2 with h2 | ⟨g, cap, cur, hv, hg, hh, r⟩
  · exact .inl h2
  · refine .inr ⟨g, cap, cur, hv, hg, ?_, r⟩
    rw [hl.2.2.2 g (hk g (by rw [hv]; rfl)).2]; exact hh
theorem str_eq {l : List UInt8} {s : ByteArray} (h : l = s.data.toList) : (⟨l.toArray⟩ : ByteArray) = s := by subst h; rfl
theorem mk_inj {l : List UInt8} {s : ByteArray} (h : (⟨l.toArray⟩ : ByteArray) = s) : l = s.data.toList := by rw [← h]
set_option maxRecDepth 100000 in
set_option maxHeartbeats 6400000 in
theorem refUnq_c (s : ByteArray) (hs : s.size ≤ 4294967295) (w : World) :
    Calls Tryd.prog 32 #[.string s] w fun e w' => e = .returned (.tuple #[.string ⟨(unqT s.data.toList).toArray⟩, .int .i64 (unqE s.data.toList)]) ∧ Low w w' := by
  go_enter Tryd.func32, Tryd.ntmps32
  go_wp2_with fail
  go_loopw [4, 5] (fun v i wr => ∃ (k : Nat) (t : List UInt8), 1 ≤ k ∧ k ≤ s.size + 1 ∧ i = .int .i64 k ∧ Own w.heap.size wr v t ∧ Below w.heap.size w wr ∧ LAt (midL s.data.toList) t k) (fun _ i _ => s.size - (intOf i).toNat)
  case atStart => exact ⟨1, [], Nat.le_refl _, by omega, rfl, Own.nil _ _, Below.refl _ _, lat_start _⟩
  case round =>
    obtain ⟨k, t, hk1, hk, rfl, hown, hb, hl⟩ := hrel
    have hr := hb.size
    have htl := hl.2
    by_cases hlt : k + 1 < s.size
    · cases h92 : s[k] == 92 with
      | false =>
        have E92 : ((s[k].toNat : Int) == 92) = false := (eq_byte s[k] 92).trans h92
        have N := lat_plain hl hk1 hlt h92
        clear h92
        go_wp2_with (at_builtin; refine own_app rfl _ _ _ rfl Tryd.underlying32 w.heap.size _ t [s[k]] rfl (hown.alloc _) ⟨wr.heap.size, 0, none⟩ 1 _ rfl rfl (cells_new _ [s[k]] _ _ rfl) (by omega) (by simp; omega) ?_; intro v2 w2 h2 b2)
        go_roundw
        case rel => exact ⟨k + 1, _, by omega, by omega, by go_num, h2, hb.trans (((Below.refl _ _).alloc hr _).trans b2), N⟩
        case measure => simp [intOf]; omega
      | true =>
        have E92 : ((s[k].toNat : Int) == 92) = true := (eq_byte s[k] 92).trans h92
        by_cases hlt2 : k + 2 < s.size
        · cases hm : markB s[k + 1] with
          | true =>
            have N := lat_mark hl hk1 hlt2 h92 hm
            cases hq : s[k + 1] == 34 with
            | true =>
              have E34 : ((s[k + 1].toNat : Int) == 34) = true := (eq_byte s[k + 1] 34).trans hq
              clear h92 hm hq
              go_wp2_with (at_builtin; refine own_app rfl _ _ _ rfl Tryd.underlying32 w.heap.size _ t [s[k + 1]] rfl (hown.alloc _) ⟨wr.heap.size, 0, none⟩ 1 _ rfl rfl (cells_new _ [s[k + 1]] _ _ rfl) (by omega) (by simp; omega) ?_; intro v2 w2 h2 b2)
              go_roundw
              case rel => exact ⟨k + 2, _, by omega, by omega, by go_num, h2, hb.trans (((Below.refl _ _).alloc hr _).trans b2), N⟩
              case measure => simp [intOf]; omega
            | false =>
              have E34 : ((s[k + 1].toNat : Int) == 34) = false := (eq_byte s[k + 1] 34).trans hq
              have E92b : ((s[k + 1].toNat : Int) == 92) = true := (eq_byte s[k + 1] 92).trans (by unfold markB at hm; rw [hq] at hm; simpa using hm)
              clear h92 hm hq
              go_wp2_with (at_builtin; refine own_app rfl _ _ _ rfl Tryd.underlying32 w.heap.size _ t [s[k + 1]] rfl (hown.alloc _) ⟨wr.heap.size, 0, none⟩ 1 _ rfl rfl (cells_new _ [s[k + 1]] _ _ rfl) (by omega) (by simp; omega) ?_; intro v2 w2 h2 b2)
              go_roundw
              case rel => exact ⟨k + 2, _, by omega, by omega, by go_num, h2, hb.trans (((Below.refl _ _).alloc hr _).trans b2), N⟩
              case measure => simp [intOf]; omega
          | false =>
            have E34 : ((s[k + 1].toNat : Int) == 34) = false := (eq_byte s[k + 1] 34).trans (by unfold markB at hm; simp at hm; simpa using hm.1)
            have E92b : ((s[k + 1].toNat : Int) == 92) = false := (eq_byte s[k + 1] 92).trans (by unfold markB at hm; simp at hm; simpa using hm.2)
            by_cases hlt4 : k + 4 < s.size
            · cases hx : s[k + 1] == 120 with
              | false =>
                have E120 : ((s[k + 1].toNat : Int) == 120) = false := (eq_byte s[k + 1] 120).trans hx
                have N := lat_else hl hk1 hlt4 hm (.inl hx)
                clear h92 hm hx
                go_wp2_with (at_builtin; refine own_app rfl _ _ _ rfl Tryd.underlying32 w.heap.size _ t [s[k]] rfl (hown.alloc _) ⟨wr.heap.size, 0, none⟩ 1 _ rfl rfl (cells_new _ [s[k]] _ _ rfl) (by omega) (by simp; omega) ?_; intro v2 w2 h2 b2)
                go_roundw
                case rel => exact ⟨k + 1, _, by omega, by omega, by go_num, h2, hb.trans (((Below.refl _ _).alloc hr _).trans b2), N⟩
                case measure => simp [intOf]; omega
              | true =>
                have E120 : ((s[k + 1].toNat : Int) == 120) = true := (eq_byte s[k + 1] 120).trans hx
                have i2 : ((k : Int) + 2) < (s.size : Int) := by omega
                have i3 : ((k : Int) + 3) < (s.size : Int) := by omega
                by_cases ha : hexV s[k + 2] < 16
                · by_cases hbx : hexV s[k + 3] < 16
                  · have N := lat_hex hl hk1 hlt4 h92 hm hx ha hbx
                    have AH := Lib.hid (add_hex _ _ ha hbx)
                    have W1 : IntKind.i64.wrap (16 * (hexV s[k + 2] : Int)) = 16 * (hexV s[k + 2] : Int) := IntWalk.i64_in _ (by omega)
                    have W2 : IntKind.i64.wrap (16 * (hexV s[k + 2] : Int) + (hexV s[k + 3] : Int)) = 16 * (hexV s[k + 2] : Int) + (hexV s[k + 3] : Int) := IntWalk.i64_in _ (by omega)
                    clear h92 hm hx
                    go_wp2_with (go_at_call 43; refine (refDig_c _ _).mono ?_; rintro e w' ⟨rfl, rfl⟩)
                    go_quiet ((go_at_call 43; exact Calls.quiet_of_same (refDig_c _ _)))
                    rw [AH.out]
                    go_wp2_with (at_builtin; refine own_app rfl _ _ _ rfl Tryd.underlying32 w.heap.size _ t [hexB s[k + 2] s[k + 3]] rfl ((hown.drewN nq).alloc _) ⟨_, 0, none⟩ 1 _ rfl rfl (cells_new _ [hexB s[k + 2] s[k + 3]] _ _ rfl) (by omega) (by simp; omega) ?_; intro v2 w2 h2 b2)
                    go_roundw
                    case rel => exact ⟨k + 4, _, by omega, by omega, by go_num, h2, hb.trans (((below_drewN (Below.refl _ _) nq).alloc hr _).trans b2), N⟩
                    case measure => simp [intOf]; omega
                  · have N := lat_else hl hk1 hlt4 hm (.inr (.inr hbx))
                    have q1 : decide ((hexV s[k + 3] : Int) < 16) = false := decide_eq_false (by omega)
                    clear h92 hm hx
                    go_wp2_with (first | (go_at_call 43; refine (refDig_c _ _).mono ?_; rintro e w' ⟨rfl, rfl⟩) | (at_builtin; refine own_app rfl _ _ _ rfl Tryd.underlying32 w.heap.size _ t [s[k]] rfl (hown.alloc _) ⟨_, 0, none⟩ 1 _ rfl rfl (cells_new _ [s[k]] _ _ rfl) (by omega) (by simp; omega) ?_; intro v2 w2 h2 b2))
                    go_roundw
                    case rel => exact ⟨k + 1, _, by omega, by omega, by go_num, h2, hb.trans (((Below.refl _ _).alloc hr _).trans b2), N⟩
                    case measure => simp [intOf]; omega
                · have N := lat_else hl hk1 hlt4 hm (.inr (.inl ha))
                  have q1 : decide ((hexV s[k + 2] : Int) < 16) = false := decide_eq_false (by omega)
                  clear h92 hm hx
                  go_wp2_with (first | (go_at_call 43; refine (refDig_c _ _).mono ?_; rintro e w' ⟨rfl, rfl⟩) | (at_builtin; refine own_app rfl _ _ _ rfl Tryd.underlying32 w.heap.size _ t [s[k]] rfl (hown.alloc _) ⟨_, 0, none⟩ 1 _ rfl rfl (cells_new _ [s[k]] _ _ rfl) (by omega) (by simp; omega) ?_; intro v2 w2 h2 b2))
                  go_roundw
                  case rel => exact ⟨k + 1, _, by omega, by omega, by go_num, h2, hb.trans (((Below.refl _ _).alloc hr _).trans b2), N⟩
                  case measure => simp [intOf]; omega
            · have N := lat_short hl hk1 hlt2 hm (by omega)
              clear h92 hm
              go_wp2_with (at_builtin; refine own_app rfl _ _ _ rfl Tryd.underlying32 w.heap.size _ t [s[k]] rfl (hown.alloc _) ⟨wr.heap.size, 0, none⟩ 1 _ rfl rfl (cells_new _ [s[k]] _ _ rfl) (by omega) (by simp; omega) ?_; intro v2 w2 h2 b2)
              go_roundw
              case rel => exact ⟨k + 1, _, by omega, by omega, by go_num, h2, hb.trans (((Below.refl _ _).alloc hr _).trans b2), N⟩
              case measure => simp [intOf]; omega
        · have N := lat_three hl hk1 hlt (by omega)
          clear h92
          go_wp2_with (at_builtin; refine own_app rfl _ _ _ rfl Tryd.underlying32 w.heap.size _ t [s[k]] rfl (hown.alloc _) ⟨wr.heap.size, 0, none⟩ 1 _ rfl rfl (cells_new _ [s[k]] _ _ rfl) (by omega) (by simp; omega) ?_; intro v2 w2 h2 b2)
          go_roundw
          case rel => exact ⟨k + 1, _, by omega, by omega, by go_num, h2, hb.trans (((Below.refl _ _).alloc hr _).trans b2), N⟩
          case measure => simp [intOf]; omega
    · have T := lat_end hl (by rw [mid_len]; omega)
      have C2 := own_conv hown
      by_cases he : quoteL t = s.data.toList
      · have R := unqT_some he
        have F1 := Lib.hid R.1
        have F2 := Lib.hid R.2
        have HE := Lib.hid (str_eq he)
        clear R he T
        go_wp2_with fail
        refine (refQuote_l t (by omega) _).mono ?_
        rintro e w' ⟨rfl, hw⟩
        rw [HE.out]
        have C3 := own_conv (own_low hb hown hw)
        go_wp2_with fail
        go_ret2
        exact ⟨retST F1.out.symm F2.out.symm, (Low.of_below hb).trans hw⟩
      · have R := unqT_none (s := s.data.toList) (fun t' e => he (by rw [← T, ← e, mid_quote, loo_quo]))
        have F1 := Lib.hid R.1
        have F2 := Lib.hid R.2
        have HE : (!(quoteL t == s.toList)) = true := by rw [ByteArray.toList_eq]; simpa using he
        clear R he T
        go_wp2_with fail
        refine (refQuote_l t (by omega) _).mono ?_
        rintro e w' ⟨rfl, hw⟩
        go_wp2_with fail
        go_ret2
        exact ⟨retST F1.out.symm F2.out.symm, (Low.of_below hb).trans hw⟩
end Go.Proofs.YtdblkjcimegoeaaDoor
