/- texts.Unquote: the text that stands in quotes. Condition: the text is shorter than 2^32. -/
import Derived.Test.YtdblkjcimegoeaaDoorFirstW
import Derived.Test.YtdblkjcimegoeaaDoorUnqL
import Derived.Test.YtdblkjcimegoeaaDoorExt
import Derived.Test.YtdblkjcimegoeaaDoorNameW
import Derived.Test.YtdblkjcimegoeaaDoorQuoteW
namespace Go.Proofs.YtdblkjcimegoeaaDoor
open Go.RowKit
theorem retST {a b : List UInt8} {x y : Int} (h : a = b) (g : x = y) : Ending.returned (.tuple #[.string ⟨a.toArray⟩, .int .i64 x]) = .returned (.tuple #[.string ⟨b.toArray⟩, .int .i64 y]) := by rw [h, g]
theorem below_drewN {B : Nat} {a w : World} (h : Below B a w) (n : Nat) : Below B a (w.drewN n) := ⟨h.os, h.tape, h.output, h.size, h.block⟩
theorem ends_first {s : ByteArray} (h : 0 < s.size) : s.data.toList.head? = some s[0] := by rw [lst1 h]; rfl
theorem ends_last {s : ByteArray} (h : 0 < s.size) : s.data.toList.getLast? = some (s[s.size - 1]'(by omega)) := by
  rw [List.getLast?_eq_getElem?, List.getElem?_eq_getElem (by have : s.data.toList.length = s.size := rfl; omega)]; rfl
theorem unq_short {s : ByteArray} (h : s.size < 2) : unqT s.data.toList = [] ∧ unqE s.data.toList = 10 :=
  unqT_none fun t e => by have := (quote_ends t _ e).1; have : s.data.toList.length = s.size := rfl; omega
theorem unq_first {s : ByteArray} (h : 0 < s.size) (h1 : (s[0] == 34) = false) : unqT s.data.toList = [] ∧ unqE s.data.toList = 10 :=
  unqT_none fun t e => by have := (quote_ends t _ e).2.1; rw [ends_first h] at this; simp at this h1; exact h1 this
theorem unq_last {s : ByteArray} (h : 0 < s.size) (h1 : (s[s.size - 1]'(by omega) == 34) = false) : unqT s.data.toList = [] ∧ unqE s.data.toList = 10 :=
  unqT_none fun t e => by have := (quote_ends t _ e).2.2; rw [ends_last h] at this; simp at this h1; exact h1 this
theorem mid_is (s : ByteArray) : (s.extract 1 (s.size - 1)).data.toList = midL s.data.toList := by
  rw [ext_data]; unfold midL
  rw [List.dropLast_eq_take, List.length_drop]; rfl
theorem unq_parts {s : ByteArray} (h : 1 < s.size) (h1 : (s[0] == 34) = true) (h2 : (s[s.size - 1]'(by omega) == 34) = true) : s.data.toList = 34 :: (midL s.data.toList ++ [34]) := by
  refine quote_parts h ?_ ?_
  · rw [ends_first (by omega), beq_iff_eq.1 h1]
  · rw [ends_last (by omega), beq_iff_eq.1 h2]
theorem fstV_none {l : List UInt8} (h : fstL l = none) : fstV l = (0, 0) := by unfold fstV; rw [h]; rfl
theorem fstV_some {l : List UInt8} {c : UInt8} {n : Nat} (h : fstL l = some (c, n)) : fstV l = (c, n) := by unfold fstV; rw [h]; rfl
theorem first_none (x : ByteArray) (hs : x.size ≤ 9223372036854775807) (h0 : 0 < x.size) (h : fstL x.data.toList = none) (w : World) :
    Calls Tryd.prog 45 #[.string x] w fun e w' => e = .returned (.tuple #[.int .u8 0, .int .i64 0]) ∧ ∃ n, w' = w.drewN n := by
  have c := first_c x hs h0 w
  rw [fstV_none h] at c; exact c
theorem first_some (x : ByteArray) (hs : x.size ≤ 9223372036854775807) (h0 : 0 < x.size) (c : UInt8) (m : Nat) (h : fstL x.data.toList = some (c, m)) (w : World) :
    Calls Tryd.prog 45 #[.string x] w fun e w' => e = .returned (.tuple #[.int .u8 c.toNat, .int .i64 m]) ∧ ∃ n, w' = w.drewN n := by
  have k := first_c x hs h0 w
  rw [fstV_some h] at k; exact k
set_option maxHeartbeats 3200000 in
theorem unquote_c (s : ByteArray) (hs : s.size ≤ 4294967295) (w : World) :
    Calls Tryd.prog 36 #[.string s] w fun e w' => e = .returned (.tuple #[.string ⟨(unqT s.data.toList).toArray⟩, .int .i64 (unqE s.data.toList)]) ∧ Low w w' := by
  by_cases h2 : s.size < 2
  · have F1 := Lib.hid (unq_short h2).1
    have F2 := Lib.hid (unq_short h2).2
    have h3 : (s.size : Int) - 1 < 1 := by omega
    go_enter Tryd.func36, Tryd.ntmps36
    go_wp2_with fail
    go_ret2
    exact ⟨retST F1.out.symm F2.out.symm, Low.refl _⟩
  · have h1 : 1 < s.size := by omega
    have h0 : 0 < s.size := by omega
    have hl : s.size - 1 < s.size := by omega
    have N0 : ((s[0].toNat : Int) != 34) = !(s[0] == 34) := bne_byte s[0] 34
    cases hq : s[0] == 34 with
    | false =>
      have F1 := Lib.hid (unq_first h0 hq).1
      have F2 := Lib.hid (unq_first h0 hq).2
      rw [hq] at N0
      clear hq
      go_enter Tryd.func36, Tryd.ntmps36
      go_wp2_with fail
      go_ret2
      exact ⟨retST F1.out.symm F2.out.symm, Low.refl _⟩
    | true =>
      rw [hq] at N0
      have N1 : ((s[s.size - 1].toNat : Int) != 34) = !(s[s.size - 1] == 34) := bne_byte s[s.size - 1] 34
      cases hr : s[s.size - 1] == 34 with
      | false =>
        have F1 := Lib.hid (unq_last h0 hr).1
        have F2 := Lib.hid (unq_last h0 hr).2
        rw [hr] at N1
        clear hq hr
        go_enter Tryd.func36, Tryd.ntmps36
        go_wp2_with fail
        go_ret2
        exact ⟨retST F1.out.symm F2.out.symm, Low.refl _⟩
      | true =>
        rw [hr] at N1
        have UP := unq_parts h1 hq hr
        have MI := mid_is s
        have zi : (s.extract 1 (s.size - 1)).size ≤ s.size := ext_le s _ _
        have K1 := fun t => quote_iff UP t
        rw [← MI] at K1
        clear hq hr UP MI
        go_enter Tryd.func36, Tryd.ntmps36
        go_wp2_with (refine own_make rfl _ _ rfl w.heap.size (s.extract 1 (s.size - 1)).size _ rfl rfl (by simp) (by omega) (Nat.le_refl _) ?_; intro v0 w0 h0 b0; have hB := b0.size)
        have zm : (s.extract 1 (s.size - 1)).size = s.size - 1 - 1 := by rw [ByteArray.size_extract]; omega
        generalize s.extract 1 (s.size - 1) = I at *
        generalize s.size - 1 - 1 = m at *
        have zm1 : m ≤ I.size := by omega
        have zm2 : I.size ≤ m := by omega
        clear zm
        go_loopw [6, 7, 35] (fun v x i wr => ∃ (k p : Nat) (t : List UInt8), k ≤ p ∧ p ≤ m ∧ i = .int .i64 k ∧ x = .int .i64 p ∧ Own w.heap.size wr v t ∧ Below w.heap.size w wr ∧ UAt I.data.toList t p) (fun _ _ i _ => m - (intOf i).toNat)
        case atStart => exact ⟨0, 0, [], Nat.le_refl _, Nat.zero_le _, rfl, rfl, h0, b0, uat_start _⟩
        case round =>
          obtain ⟨k, p, t, hkp, hpm, rfl, rfl, hown, hb, hu⟩ := hrel
          have hr := hb.size
          clear h0 b0 hB
          by_cases hlt : k < m
          · by_cases hkp2 : k < p
            · go_wp2_with fail
              go_roundw
              case rel => exact ⟨k + 1, p, t, by omega, hpm, by go_num, rfl, hown, hb, hu⟩
              case measure => simp [intOf]; omega
            · have e : p = k := by omega
              subst e
              have X := ext_to I p
              have zx : (I.extract p I.size).size = I.size - p := by rw [ByteArray.size_extract]; omega
              have zx1 : (I.extract p I.size).size ≤ 9223372036854775807 := by omega
              have zx2 : 0 < (I.extract p I.size).size := by omega
              have tl := uat_len hu
              cases hf : fstL (I.data.toList.drop p) with
              | none =>
                have NO := unqT_none (s := s.data.toList) fun t' e => uat_none hu (show p < I.size by omega) hf t' ((K1 t').1 e)
                have F1 := Lib.hid NO.1
                have F2 := Lib.hid NO.2
                rw [← X] at hf
                have HF := Lib.hid hf
                clear hf X zx NO K1
                go_wp2_with fail
                refine (first_none _ zx1 zx2 HF.out _).mono ?_
                rintro e w' ⟨rfl, n, rfl⟩
                go_wp2_with fail
                go_ret2
                exact ⟨retST F1.out.symm F2.out.symm, Low.of_below (below_drewN hb n)⟩
              | some cn =>
                obtain ⟨c, n⟩ := cn
                obtain ⟨U2, g1, g2⟩ := uat_next hu hf
                have g2 : p + n ≤ I.size := g2
                rw [← X] at hf
                have HF := Lib.hid hf
                have nz : ((n : Int) == 0) = false := by rw [beq_eq_false_iff_ne]; omega
                clear hf X zx K1
                go_wp2_with fail
                refine (first_some _ zx1 zx2 c n HF.out _).mono ?_
                rintro e w' ⟨rfl, q, rfl⟩
                go_wp2_with (at_builtin; refine own_app rfl _ _ _ rfl Tryd.underlying32 w.heap.size _ t [c] rfl ((hown.drewN q).alloc _) ⟨wr.heap.size, 0, none⟩ 1 _ rfl rfl (cells_new _ [c] _ _ rfl) (by omega) (by simp; omega) ?_; intro v2 w2 h2 b2)
                go_roundw
                case rel => exact ⟨p + 1, p + n, t ++ [c], by omega, by omega, by go_num, by go_num, h2, hb.trans (((below_drewN (Below.refl _ _) q).alloc hr _).trans b2), U2⟩
                case measure => simp [intOf]; omega
          · have e : p = I.size := by omega
            have T := unqT_some (s := s.data.toList) ((K1 t).2 (uat_end (by rw [e] at hu; exact hu)))
            have F1 := Lib.hid T.1
            have F2 := Lib.hid T.2
            have C2 := own_conv hown
            clear T e K1
            go_wp2_with fail
            go_ret2
            exact ⟨retST F1.out.symm F2.out.symm, Low.of_below hb⟩
end Go.Proofs.YtdblkjcimegoeaaDoor
