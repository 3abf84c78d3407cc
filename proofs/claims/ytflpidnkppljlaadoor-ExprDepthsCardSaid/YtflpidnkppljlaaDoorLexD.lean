/- Package lex's words of slots and marks. Condition: the length that any string has; the table of marks is as it was laid. -/
import Derived.Test.YtflpidnkppljlaaDoorLexC
import Derived.Test.YtflpidnkppljlaaDoorLexM
import Derived.Deep.MidRow
set_option linter.unusedVariables false
set_option linter.unnecessarySimpa false
set_option linter.unusedSimpArgs false
namespace Go.Proofs.YtflpidnkppljlaaDoor
open Go.RowKit
theorem slo_bad {l : List UInt8} (h : nameN (l.drop 1) = 0) : sloW l = badW 10 := by unfold sloW; rw [if_pos h]
theorem slo_ok {l : List UInt8} {n : Nat} (h : nameN (l.drop 1) = n) (h0 : n ≠ 0) : sloW l = ⟨0, 4, (l.drop 1).take n, 0, n + 1⟩ := by unfold sloW; rw [h, if_neg h0]
set_option maxHeartbeats 800000 in
theorem slot_c (s : ByteArray) (hs : s.size ≤ 4294967294) (hp : 0 < s.size) (w : World) : Calls Tryd.prog 25 #[.string s] w fun e w' => e = .returned (fwV (sloW s.data.toList)) ∧ Low w w' := by
  have hz : s.data.toList.length = s.size := by simp
  have z1 : (1 : Int) ≤ (s.size : Int) := by omega
  obtain ⟨n, hn⟩ : ∃ n, nameN (s.extract 1 s.size).data.toList = n := ⟨_, rfl⟩
  have zn := nameN_le (s.extract 1 s.size).data.toList
  rw [hn] at zn
  have hx1 : (s.extract 1 s.size).size = s.size - 1 := by rw [ByteArray.size_extract]; omega
  have zn2 : n ≤ (s.extract 1 s.size).size := by simpa using zn
  have zn3 : (n : Int) ≤ ((s.extract 1 s.size).size : Int) := by omega
  have zn4 : (n : Int) + 1 ≤ (s.size : Int) := by omega
  have DL : Hid ((s.extract 1 s.size).size ≤ 9223372036854775807) := Lib.hid (by omega)
  have hn' := hn
  rw [ext_to] at hn'
  have F0 := slo_bad (l := s.data.toList)
  have F1 := slo_ok (l := s.data.toList) (n := n) hn'
  rw [hn'] at F0
  have HN := Lib.hid hn
  clear hn hn' zn hz zn2 hx1
  have ET : Hid ((s.extract 1 s.size).extract 0 n = ⟨((s.data.toList.drop 1).take n).toArray⟩) := Lib.hid (by rw [ext_mk0, ext_to])
  by_cases h0 : n = 0
  · subst h0
    have F := Lib.hid (F0 rfl)
    clear F0 F1
    rw [F.out]
    go_enter Tryd.func25, Tryd.ntmps25
    go_wp2_with fail
    refine (nameLength_c _ DL.out _).mono ?_
    rintro e w1 ⟨rfl, hw⟩
    rw [HN.out]
    have HW := Lib.hid hw
    obtain ⟨⟨c0, c1, c2, c3⟩, f0, f1, f2, f3⟩ := word_cells (b := w.heap.size) hw (alloc_at _ _)
    clear hw
    go_wp2_with fail
    obtain ⟨E0, E1, E2, E3⟩ := word_put c0 c1 c2 c3
    refine bodyPost_ret (v := .tuple #[.agg #[.int .i64 0, .string ⟨#[]⟩, .int .i64 0, .int .i64 0], .int .i64 0, .int .i64 10]) (by simp [results, Tryd.results25, go_sem, E0, E1, E2, E3]) rfl ?_
    exact ⟨rfl, by repeat (first | with_reducible exact (low_new (Low.refl _) _).trans HW.out | with_reducible refine low_put ?_ (by simp))⟩
  · have F := Lib.hid (F1 h0)
    have z0 : ((n : Int) == 0) = false := by simpa using h0
    clear F0 F1
    rw [F.out]
    go_enter Tryd.func25, Tryd.ntmps25
    go_wp2_with fail
    refine (nameLength_c _ DL.out _).mono ?_
    rintro e w1 ⟨rfl, hw⟩
    rw [HN.out]
    have HW := Lib.hid hw
    obtain ⟨⟨c0, c1, c2, c3⟩, f0, f1, f2, f3⟩ := word_cells (b := w.heap.size) hw (alloc_at _ _)
    clear hw
    go_wp2_with fail
    obtain ⟨E0, E1, E2, E3⟩ := word_put c0 c1 c2 c3
    refine bodyPost_ret (v := .tuple #[.agg #[.int .i64 4, .string ((s.extract 1 s.size).extract 0 n), .int .i64 0, .int .i64 0], .int .i64 (1 + (n : Int)), .int .i64 0]) (by simp [results, Tryd.results25, go_sem, E0, E1, E2, E3]) rfl ?_
    exact ⟨by rw [ET.out]; unfold fwV; simp only [Int.natCast_add, Int.natCast_one, Int.add_comm], by repeat (first | with_reducible exact (low_new (Low.refl _) _).trans HW.out | with_reducible refine low_put ?_ (by simp))⟩
/-- The table of marks holds what it was laid with. -/
def MkAt (w : World) : Prop := ∀ i, i < 24 → w.cell? ⟨0, i, none⟩ = some (.string (mkS i))
theorem MkAt.low {w w' : World} (h : MkAt w) (hl : Low w w') : MkAt w' := fun i hi => hl.keep (h i hi)
set_option maxRecDepth 100000 in
theorem mk_run : ∀ (i : Nat) (_ : i < 24) (w : World), (Instr.index 72 (.agg #[.string ⟨#[40]⟩, .string ⟨#[41]⟩, .string ⟨#[123]⟩, .string ⟨#[125]⟩, .string ⟨#[91]⟩, .string ⟨#[93]⟩, .string ⟨#[44]⟩, .string ⟨#[59]⟩, .string ⟨#[58]⟩, .string ⟨#[58, 58]⟩, .string ⟨#[46]⟩, .string ⟨#[61, 61]⟩, .string ⟨#[33, 61]⟩, .string ⟨#[60]⟩, .string ⟨#[60, 61]⟩, .string ⟨#[62]⟩, .string ⟨#[62, 61]⟩, .string ⟨#[38, 38]⟩, .string ⟨#[124, 124]⟩, .string ⟨#[33]⟩, .string ⟨#[43]⟩, .string ⟨#[45]⟩, .string ⟨#[42]⟩, .string ⟨#[64]⟩]) (.int .i64 (i : Int))).run Tryd.prog w = .ok (.string (mkS i)) w
  | 0, _, w => by go_simp; rfl
  | 1, _, w => by go_simp; rfl
  | 2, _, w => by go_simp; rfl
  | 3, _, w => by go_simp; rfl
  | 4, _, w => by go_simp; rfl
  | 5, _, w => by go_simp; rfl
  | 6, _, w => by go_simp; rfl
  | 7, _, w => by go_simp; rfl
  | 8, _, w => by go_simp; rfl
  | 9, _, w => by go_simp; rfl
  | 10, _, w => by go_simp; rfl
  | 11, _, w => by go_simp; rfl
  | 12, _, w => by go_simp; rfl
  | 13, _, w => by go_simp; rfl
  | 14, _, w => by go_simp; rfl
  | 15, _, w => by go_simp; rfl
  | 16, _, w => by go_simp; rfl
  | 17, _, w => by go_simp; rfl
  | 18, _, w => by go_simp; rfl
  | 19, _, w => by go_simp; rfl
  | 20, _, w => by go_simp; rfl
  | 21, _, w => by go_simp; rfl
  | 22, _, w => by go_simp; rfl
  | 23, _, w => by go_simp; rfl
  | n + 24, h, _ => absurd h (by omega)
def mkVs : List Value := marksL.map fun m => .string ⟨m.toArray⟩
theorem mkVs_run (i : Nat) (h : i < 24) (w : World) : (Instr.index 72 (.agg mkVs.toArray) (.int .i64 (i : Int))).run Tryd.prog w = .ok (.string (mkS i)) w := mk_run i h w
theorem MkAt.range {w : World} (h : MkAt w) : w.rangeAt 0 0 mkVs := by
  intro j v hv
  have hj : j < 24 := by have := (List.getElem?_eq_some_iff.1 hv).1; simpa [mkVs, marksL] using this
  rw [Nat.zero_add, h j hj, ← hv]
  unfold mkVs mkS mkL
  rw [List.getElem?_map, List.getD_eq_getElem?_getD]
  cases hm : marksL[j]? with
  | none => exact absurd hj (by have := List.getElem?_eq_none_iff.1 hm; simpa [marksL] using this)
  | some m => rfl
theorem bst_in {l : List UInt8} {i : Nat} (h1 : (bst l i).length < (mkL i).length) (h2 : Lib.hasPrefix l (mkL i) = true) : bst l (i + 1) = mkL i := by
  unfold Lib.hasPrefix at h2
  rw [bst, h2]; simp [h1]
theorem bst_out {l : List UInt8} {i : Nat} (h : ¬ ((bst l i).length < (mkL i).length) ∨ Lib.hasPrefix l (mkL i) = false) : bst l (i + 1) = bst l i := by
  unfold Lib.hasPrefix at h
  rw [bst]
  rcases h with h | h
  · rw [decide_eq_false h]; rfl
  · rw [h]; simp
theorem mrk_bad {l : List UInt8} (h : mrkN l = 0) : mrkW l = badW 10 := by unfold mrkW; rw [if_pos h]
theorem mrk_ok {l : List UInt8} (h : mrkN l ≠ 0) : mrkW l = ⟨0, 5, l.take (mrkN l), 0, mrkN l⟩ := by unfold mrkW; rw [if_neg h]
set_option maxRecDepth 100000 in
set_option maxHeartbeats 1600000 in
theorem mark_c (s : ByteArray) (_hs : s.size ≤ 4294967294) (w : World) (hm : MkAt w) : Calls Tryd.prog 29 #[.string s] w fun e w' => e = .returned (fwV (mrkW s.data.toList)) ∧ Low w w' := by
  obtain ⟨cs, hcs⟩ : ∃ cs, cs = mkVs := ⟨_, rfl⟩
  have hlen : some 24 = some cs.length := by rw [hcs]; rfl
  have HRG : ∀ X, Hid ((w.alloc X).rangeAt 0 0 cs) := fun X => Lib.hid (by rw [hcs]; exact (hm.low (low_new (Low.refl _) X)).range)
  have HRA : Hid (∀ (i : Nat) (_ : i < 24) (w : World), (Instr.index 72 (.agg cs.toArray) (.int .i64 (i : Int))).run Tryd.prog w = .ok (.string (mkS i)) w) := Lib.hid (by rw [hcs]; exact mkVs_run)
  have HLN := Lib.hid hlen
  clear hm hcs hlen
  go_enter Tryd.func29, Tryd.ntmps29
  go_wp2_with (refine wpList_load_mid rfl 72 _ rfl 0 0 rfl cs _ (HRG _).out Tryd.underlying72 rfl (Eq.trans (by kernel_rfl) HLN.out) ?_)
  go_loopg [5, 9] 24 (fun gk vl vi wr => ∃ (i : Nat) (B : ByteArray), vl = .string B ∧ vi = .int .i64 (i : Int) ∧ i ≤ 24 ∧ 24 - i ≤ gk ∧ Hid (B.data.toList = bst s.data.toList i) ∧ B.size ≤ 2 ∧ Hid (Low (w.alloc (.cells #[.int .i64 0, .string ⟨#[]⟩, .int .i64 0, .int .i64 0] 46)) wr))
  case atStart => exact ⟨0, ⟨#[]⟩, rfl, rfl, by omega, by omega, Lib.hid rfl, by decide, Lib.hid (Low.refl _)⟩
  case round =>
    obtain ⟨i, B, rfl, rfl, hi, hg, HB, hb2, G⟩ := hrel
    by_cases hlt : i < 24
    · have z1 : (i : Int) < 24 := by omega
      have HR := HRA.out i hlt
      obtain ⟨m, hm⟩ : ∃ m, mkS i = m := ⟨_, rfl⟩
      rw [hm] at HR
      have hml : m.data.toList = mkL i := by rw [← hm]; rfl
      have hms : m.size ≤ 2 := by
        have : ∀ j : Fin 24, (mkS j.val).size ≤ 2 := by decide
        rw [← hm]; exact this ⟨i, hlt⟩
      have hzb : B.size = (bst s.data.toList i).length := by rw [← HB.out]; simp
      have hzm : m.size = (mkL i).length := by rw [← hml]; simp
      by_cases hlen : B.size < m.size
      · have z2 : (B.size : Int) < (m.size : Int) := by omega
        obtain ⟨P, hP⟩ : ∃ P, Lib.hasPrefix s.data.toList m.data.toList = P := ⟨_, rfl⟩
        have hP2 := hP
        rw [hml] at hP2
        cases P with
        | true =>
          have NX : Hid (m.data.toList = bst s.data.toList (i + 1)) := Lib.hid (by rw [hml, bst_in (by omega) hP2])
          have HP := Lib.hid hP
          clear hP hP2 hml hm hzb hzm
          go_wp2_with fail
          refine (Tryd.strings_HasPrefix _ _ _).mono ?_
          rintro e w' ⟨rfl, hw⟩
          rw [hw]
          clear hw
          rw [HP.out]
          go_wp2_with fail
          go_roundg (24 - (i + 1))
          case measure => omega
          case rel => exact ⟨i + 1, m, rfl, by go_num, by omega, by omega, NX, hms, G⟩
        | false =>
          have NX : Hid (B.data.toList = bst s.data.toList (i + 1)) := Lib.hid (by rw [HB.out, bst_out (.inr hP2)])
          have HP := Lib.hid hP
          clear hP hP2 hml hm hzb hzm
          go_wp2_with fail
          refine (Tryd.strings_HasPrefix _ _ _).mono ?_
          rintro e w' ⟨rfl, hw⟩
          rw [hw]
          clear hw
          rw [HP.out]
          go_wp2_with fail
          go_roundg (24 - (i + 1))
          case measure => omega
          case rel => exact ⟨i + 1, B, rfl, by go_num, by omega, by omega, NX, hb2, G⟩
      · have z2 : ¬ (B.size : Int) < (m.size : Int) := by omega
        have NX : Hid (B.data.toList = bst s.data.toList (i + 1)) := Lib.hid (by rw [HB.out, bst_out (.inl (by omega))])
        clear hml hm hzb hzm
        go_wp2_with fail
        go_roundg (24 - (i + 1))
        case measure => omega
        case rel => exact ⟨i + 1, B, rfl, by go_num, by omega, by omega, NX, hb2, G⟩
    · have z1 : ¬ (i : Int) < 24 := by omega
      have hi24 : i = 24 := by omega
      have HL : B.data.toList = s.data.toList.take (mrkN s.data.toList) := by rw [HB.out, hi24, bst_all]
      have hzb : B.size = mrkN s.data.toList := by
        have := congrArg List.length HL
        rw [List.length_take] at this
        have h2 := mrkN_le s.data.toList
        have h3 : B.data.toList.length = B.size := by simp
        omega
      clear hi24
      obtain ⟨⟨c0, c1, c2, c3⟩, f0, f1, f2, f3⟩ := word_cells (b := w.heap.size) G.out (alloc_at _ _)
      obtain ⟨E0, E1, E2, E3⟩ := word_put c0 c1 c2 c3
      by_cases h0 : mrkN s.data.toList = 0
      · have F := Lib.hid (mrk_bad h0)
        rw [h0] at hzb
        have hB : B = ⟨#[]⟩ := by
          have : B.data = #[] := Array.eq_empty_of_size_eq_zero hzb
          cases B; simp at this; rw [this]
        subst hB
        clear HL hzb
        go_wp2_with fail
        refine bodyPost_ret (v := .tuple #[.agg #[.int .i64 0, .string ⟨#[]⟩, .int .i64 0, .int .i64 0], .int .i64 0, .int .i64 10]) (by simp [results, Tryd.results29, go_sem, E0, E1, E2, E3]) rfl ?_
        exact ⟨by rw [F.out]; rfl, by repeat (first | with_reducible exact (low_new (Low.refl _) _).trans G.out | with_reducible refine low_put ?_ (by simp))⟩
      · have F := Lib.hid (mrk_ok h0)
        have hpos : 0 < B.size := by omega
        obtain ⟨g1, g2⟩ := ne_list hpos
        have HZ := Lib.hid hzb
        have HLL := Lib.hid HL
        clear HL hzb
        go_wp2_with fail
        refine bodyPost_ret (v := .tuple #[.agg #[.int .i64 5, .string B, .int .i64 0, .int .i64 0], .int .i64 (B.size : Int), .int .i64 0]) (by simp [results, Tryd.results29, go_sem, E0, E1, E2, E3]) rfl ?_
        exact ⟨by rw [F.out]; unfold fwV; rw [← HLL.out, HZ.out], by repeat (first | with_reducible exact (low_new (Low.refl _) _).trans G.out | with_reducible refine low_put ?_ (by simp))⟩
end Go.Proofs.YtflpidnkppljlaaDoor
