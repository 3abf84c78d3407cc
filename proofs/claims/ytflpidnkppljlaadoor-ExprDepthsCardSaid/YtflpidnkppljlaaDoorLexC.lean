/- Package lex's words of digits, in quotes, of slots. Condition: the text is shorter than 2^32. -/
import Derived.Test.YtflpidnkppljlaaDoorLxB
import Derived.Test.YtflpidnkppljlaaDoorRdi
import Derived.Test.YtflpidnkppljlaaDoorQtw
import Derived.Handy
set_option linter.unusedVariables false
set_option linter.unnecessarySimpa false
set_option linter.unusedSimpArgs false
namespace Go.Proofs.YtflpidnkppljlaaDoor
open Go.RowKit
/-- What package lex tells of one word. -/
def fwV (f : Fw) : Value := .tuple #[.agg #[.int .i64 f.k, .string ⟨f.t.toArray⟩, .int .i64 f.n, .int .i64 0], .int .i64 (f.w : Int), .int .i64 f.e]
theorem ext_mk (s : ByteArray) (a b : Nat) : s.extract a b = ⟨((s.data.toList.drop a).take (b - a)).toArray⟩ := by
  have h := ext_data s a b
  rw [← h]
theorem ext_mk0 (s : ByteArray) (b : Nat) : s.extract 0 b = ⟨(s.data.toList.take b).toArray⟩ := by rw [ext_mk]; rfl
theorem ext_d0 (s : ByteArray) (b : Nat) : (s.extract 0 b).data.toList = s.data.toList.take b := by rw [ext_data]; rfl
theorem low_two {w : World} (o1 o2 : Obj) : Low w ((w.alloc o1).alloc o2) := low_new (low_new (Low.refl _) _) _
theorem num_bad {l : List UInt8} {e : Int} (h : readE (l.take (spanN digB l)) = e) (h0 : e ≠ 0) : numW l = badW e := by unfold numW; rw [h, if_neg h0]
theorem num_ok {l : List UInt8} (h : readE (l.take (spanN digB l)) = 0) : numW l = ⟨0, 2, l.take (spanN digB l), readV (l.take (spanN digB l)), spanN digB l⟩ := by unfold numW; rw [if_pos h]
set_option maxHeartbeats 800000 in
theorem number_c (s : ByteArray) (hs : s.size ≤ 9223372036854775807) (w : World) : Calls Tryd.prog 27 #[.string s] w fun e w' => e = .returned (fwV (numW s.data.toList)) ∧ Low w w' := by
  have za := spanN_le digB s.data.toList
  have hz : s.data.toList.length = s.size := by simp
  have F0 := num_ok (l := s.data.toList)
  have F1 := fun e => num_bad (l := s.data.toList) (e := e)
  obtain ⟨a, ha⟩ : ∃ a, spanN digB s.data.toList = a := ⟨_, rfl⟩
  rw [ha] at za F0 F1
  rw [← ext_d0] at F0 F1
  rw [hz] at za
  have zi : (a : Int) ≤ (s.size : Int) := by omega
  have HA := Lib.hid ha
  have HX : Hid ((s.extract 0 a).size ≤ 9223372036854775807) := Lib.hid (Nat.le_trans (ext_le _ _ _) hs)
  obtain ⟨rv, hv⟩ : ∃ rv, readV (s.extract 0 a).data.toList = rv := ⟨_, rfl⟩
  obtain ⟨re, he⟩ : ∃ re, readE (s.extract 0 a).data.toList = re := ⟨_, rfl⟩
  rw [hv, he] at F0
  rw [he] at F1
  have HV := Lib.hid hv
  have HE := Lib.hid he
  clear ha hv he hz
  by_cases h0 : re = 0
  · subst h0
    have F := Lib.hid (F0 rfl)
    clear F0 F1
    rw [F.out]
    go_enter Tryd.func27, Tryd.ntmps27
    go_wp2_with fail
    refine (spanD_c _ hs _ _ ((low_new (Low.refl _) _).keep (cell_one _ _ _))).mono ?_
    rintro e w' ⟨rfl, rfl⟩
    rw [HA.out]
    go_wp2_with fail
    refine (read_c _ HX.out _).mono ?_
    rintro e w' ⟨rfl, rfl⟩
    rw [HV.out, HE.out]
    go_wp2_with fail
    go_returns
    exact ⟨by rw [ext_mk0]; rfl, by repeat (first | with_reducible exact low_two _ _ | with_reducible refine low_put ?_ (by simp))⟩
  · have F := Lib.hid (F1 re rfl h0)
    have z0 : (re != 0) = true := by simpa using h0
    clear F0 F1
    rw [F.out]
    go_enter Tryd.func27, Tryd.ntmps27
    go_wp2_with fail
    refine (spanD_c _ hs _ _ ((low_new (Low.refl _) _).keep (cell_one _ _ _))).mono ?_
    rintro e w' ⟨rfl, rfl⟩
    rw [HA.out]
    go_wp2_with fail
    refine (read_c _ HX.out _).mono ?_
    rintro e w' ⟨rfl, rfl⟩
    rw [HV.out, HE.out]
    go_wp2_with fail
    go_returns
    exact ⟨rfl, by repeat (first | with_reducible exact low_two _ _ | with_reducible refine low_put ?_ (by simp))⟩
theorem quo_far {l : List UInt8} {n : Nat} (h : endQ false (l.drop 1) + 1 = n) (hn : ¬ n < l.length) : quoW l = badW 10 := by unfold quoW; rw [h, if_neg hn]
theorem quo_bad {l : List UInt8} {n : Nat} {e : Int} (h : endQ false (l.drop 1) + 1 = n) (hn : n < l.length) (he : unqE (l.take (n + 1)) = e) (h0 : e ≠ 0) : quoW l = badW e := by
  unfold quoW
  rw [h, if_pos hn, show endQ false (l.drop 1) + 2 = n + 1 from by omega, he, if_neg h0]
theorem quo_ok {l : List UInt8} {n : Nat} (h : endQ false (l.drop 1) + 1 = n) (hn : n < l.length) (he : unqE (l.take (n + 1)) = 0) : quoW l = ⟨0, 3, unqT (l.take (n + 1)), 0, n + 1⟩ := by
  unfold quoW
  rw [h, if_pos hn, show endQ false (l.drop 1) + 2 = n + 1 from by omega, he, if_pos rfl]
theorem alloc_at (w : World) (o : Obj) : (w.alloc o).heap[w.heap.size]? = some o := by
  show (w.heap.push o)[w.heap.size]? = _
  simp
theorem alloc_at1 (w : World) (a o : Obj) : ((w.alloc a).alloc o).heap[w.heap.size + 1]? = some o := by
  have := alloc_at (w.alloc a) o
  rwa [show (w.alloc a).heap.size = w.heap.size + 1 from by simp] at this
theorem frozen_new (w : World) (C : Array Value) (t : TypeId) (j : Nat) : (w.alloc (.cells C t)).frozen? ⟨w.heap.size, j, none⟩ = false := by
  have e := alloc_at w (.cells C t)
  unfold World.frozen?
  rw [e]; simp
/-- The result's four cells, still as they were laid. -/
theorem word_cells {w0 w' : World} {b : Nat} {x0 x1 x2 x3 : Value} {t : TypeId} (h : Low w0 w') (hb : w0.heap[b]? = some (.cells #[x0, x1, x2, x3] t (0, 0))) :
    (w'.cell? ⟨b, 0, none⟩ = some x0 ∧ w'.cell? ⟨b, 1, none⟩ = some x1 ∧ w'.cell? ⟨b, 2, none⟩ = some x2 ∧ w'.cell? ⟨b, 3, none⟩ = some x3) ∧
    (w'.frozen? ⟨b, 0, none⟩ = false ∧ w'.frozen? ⟨b, 1, none⟩ = false ∧ w'.frozen? ⟨b, 2, none⟩ = false ∧ w'.frozen? ⟨b, 3, none⟩ = false) := by
  have hlt : b < w0.heap.size := by
    rcases Nat.lt_or_ge b w0.heap.size with k | k
    · exact k
    · rw [Array.getElem?_eq_none k] at hb; simp at hb
  have e := (h.2.2.2 b hlt).trans hb
  refine ⟨⟨?_, ?_, ?_, ?_⟩, ⟨?_, ?_, ?_, ?_⟩⟩ <;> simp [World.cell?, World.frozen?, e]
theorem word_put {W : World} {b : Nat} {x0 x1 x2 x3 : Value} (c0 : W.cell? ⟨b, 0, none⟩ = some x0) (c1 : W.cell? ⟨b, 1, none⟩ = some x1) (c2 : W.cell? ⟨b, 2, none⟩ = some x2) (c3 : W.cell? ⟨b, 3, none⟩ = some x3) :
    (∀ u, (W.setCell ⟨b, 0, none⟩ u).cell? ⟨b, 0, none⟩ = some u) ∧ (∀ u v, ((W.setCell ⟨b, 0, none⟩ u).setCell ⟨b, 1, none⟩ v).cell? ⟨b, 1, none⟩ = some v) ∧ (∀ u v x, (((W.setCell ⟨b, 0, none⟩ u).setCell ⟨b, 1, none⟩ v).setCell ⟨b, 2, none⟩ x).cell? ⟨b, 2, none⟩ = some x) ∧
    (∀ u v x y, ((((W.setCell ⟨b, 0, none⟩ u).setCell ⟨b, 1, none⟩ v).setCell ⟨b, 2, none⟩ x).setCell ⟨b, 3, none⟩ y).cell? ⟨b, 3, none⟩ = some y) := by
  have d1 : ∀ u, (W.setCell ⟨b, 0, none⟩ u).cell? ⟨b, 1, none⟩ = some x1 := fun u => by rw [World.cell?_setCell_other]; exact c1; simp
  have d2 : ∀ u, (W.setCell ⟨b, 0, none⟩ u).cell? ⟨b, 2, none⟩ = some x2 := fun u => by rw [World.cell?_setCell_other]; exact c2; simp
  have d3 : ∀ u, (W.setCell ⟨b, 0, none⟩ u).cell? ⟨b, 3, none⟩ = some x3 := fun u => by rw [World.cell?_setCell_other]; exact c3; simp
  have g2 : ∀ u v, ((W.setCell ⟨b, 0, none⟩ u).setCell ⟨b, 1, none⟩ v).cell? ⟨b, 2, none⟩ = some x2 := fun u v => by rw [World.cell?_setCell_other]; exact d2 u; simp
  have g3 : ∀ u v, ((W.setCell ⟨b, 0, none⟩ u).setCell ⟨b, 1, none⟩ v).cell? ⟨b, 3, none⟩ = some x3 := fun u v => by rw [World.cell?_setCell_other]; exact d3 u; simp
  have k3 : ∀ u v x, (((W.setCell ⟨b, 0, none⟩ u).setCell ⟨b, 1, none⟩ v).setCell ⟨b, 2, none⟩ x).cell? ⟨b, 3, none⟩ = some x3 := fun u v x => by rw [World.cell?_setCell_other]; exact g3 u v; simp
  exact ⟨fun u => World.cell?_setCell_same' _ _ _ (by rw [c0]; rfl), fun u v => World.cell?_setCell_same' _ _ _ (by rw [d1]; rfl), fun u v x => World.cell?_setCell_same' _ _ _ (by rw [g2]; rfl), fun u v x y => World.cell?_setCell_same' _ _ _ (by rw [k3]; rfl)⟩
set_option maxHeartbeats 1600000 in
theorem quoted_c (s : ByteArray) (hs : s.size ≤ 4294967294) (h34 : s.data.toList.head? = some 34) (w : World) : Calls Tryd.prog 24 #[.string s] w fun e w' => e = .returned (fwV (quoW s.data.toList)) ∧ Low w w' := by
  have zm := endQ_le false (s.data.toList.drop 1)
  have hz : s.data.toList.length = s.size := by simp
  have zp : 0 < s.size := by
    rcases Nat.lt_or_ge 0 s.size with h | h
    · exact h
    · rw [List.eq_nil_of_length_eq_zero (show s.data.toList.length = 0 by omega)] at h34; simp at h34
  obtain ⟨n, hn⟩ : ∃ n, endQ false (s.data.toList.drop 1) + 1 = n := ⟨_, rfl⟩
  rw [List.length_drop, hz] at zm
  have zn : n ≤ s.size := by omega
  have F0 := quo_far (l := s.data.toList) hn
  have F1 := fun e => quo_bad (l := s.data.toList) (e := e) hn
  have F2 := quo_ok (l := s.data.toList) hn
  rw [hz] at F0 F2
  simp only [hz] at F1
  have HN := Lib.hid hn
  have H34 := Lib.hid h34
  clear hn h34 hz
  have HX : Hid ((s.extract 0 (n + 1)).size ≤ 4294967295) := Lib.hid (Nat.le_trans (ext_le _ _ _) (by omega))
  rw [← ext_d0] at F2
  simp only [← ext_d0] at F1
  have OS : ∀ o2 : Obj, Hid (OddSt ((w.alloc (.cells #[.string s] 9)).alloc o2) s w.heap.size (w.heap.size + 1 + 1) false (((w.alloc (.cells #[.string s] 9)).alloc o2).alloc (.cells #[.bool false] 4))) := fun o2 => Lib.hid
    ⟨(low_new (low_new (Low.refl _) _) _).keep (cell_one _ _ _), by have := cell_one ((w.alloc (.cells #[.string s] 9)).alloc o2) (.bool false) 4; rwa [show ((w.alloc (.cells #[.string s] 9)).alloc o2).heap.size = w.heap.size + 1 + 1 from by simp] at this, by have := frozen_new ((w.alloc (.cells #[.string s] 9)).alloc o2) #[.bool false] 4 0; rwa [show ((w.alloc (.cells #[.string s] 9)).alloc o2).heap.size = w.heap.size + 1 + 1 from by simp] at this, low_new (Low.refl _) _, by omega, by simp⟩
  by_cases hl : n < s.size
  · obtain ⟨ut, hut⟩ : ∃ ut, unqT (s.extract 0 (n + 1)).data.toList = ut := ⟨_, rfl⟩
    obtain ⟨ue, hue⟩ : ∃ ue, unqE (s.extract 0 (n + 1)).data.toList = ue := ⟨_, rfl⟩
    rw [hue, hut] at F2
    simp only [hue] at F1
    have HT := Lib.hid hut
    have HE := Lib.hid hue
    clear hut hue
    have zl : (n : Int) < (s.size : Int) := by omega
    by_cases h0 : ue = 0
    · subst h0
      have F := Lib.hid (F2 hl rfl)
      clear F0 F1 F2
      rw [F.out]
      go_enter Tryd.func24, Tryd.ntmps24
      go_wp2_with fail
      refine (spanQ_c _ s H34.out (by omega) _ _ _ (OS _).out).mono ?_
      rintro e w1 ⟨rfl, hc, hw⟩
      rw [HN.out]
      have HW := Lib.hid hw
      obtain ⟨⟨c0, c1, c2, c3⟩, f0, f1, f2, f3⟩ := word_cells (b := w.heap.size + 1) hw (alloc_at1 _ _ _)
      clear hw
      go_wp2_with fail
      refine (unquote_c _ HX.out _).mono ?_
      rintro e w2 ⟨rfl, hw2⟩
      rw [HT.out, HE.out]
      have HW2 := Lib.hid (HW.out.trans hw2)
      clear c0 c1 c2 c3 f0 f1 f2 f3 hc
      obtain ⟨⟨c0, c1, c2, c3⟩, f0, f1, f2, f3⟩ := word_cells (b := w.heap.size + 1) HW2.out (alloc_at1 _ _ _)
      clear hw2
      go_wp2_with fail
      obtain ⟨E0, E1, E2, E3⟩ := word_put c0 c1 c2 c3
      refine bodyPost_ret (v := .tuple #[.agg #[.int .i64 3, .string ⟨ut.toArray⟩, .int .i64 0, .int .i64 0], .int .i64 ((n : Int) + 1), .int .i64 0]) (by simp [results, Tryd.results24, go_sem, E0, E1, E2, E3]) rfl ?_
      exact ⟨rfl, by repeat (first | with_reducible exact (low_two _ _).trans (HW2.out) | with_reducible refine low_put ?_ (by simp))⟩
    · have F := Lib.hid (F1 ue hl rfl h0)
      have z0 : (ue != 0) = true := by simpa using h0
      clear F0 F1 F2
      rw [F.out]
      go_enter Tryd.func24, Tryd.ntmps24
      go_wp2_with fail
      refine (spanQ_c _ s H34.out (by omega) _ _ _ (OS _).out).mono ?_
      rintro e w1 ⟨rfl, hc, hw⟩
      rw [HN.out]
      have HW := Lib.hid hw
      clear hw
      go_wp2_with fail
      refine (unquote_c _ HX.out _).mono ?_
      rintro e w2 ⟨rfl, hw2⟩
      rw [HT.out, HE.out]
      have HW2 := Lib.hid (HW.out.trans hw2)
      clear hc hw2
      obtain ⟨⟨c0, c1, c2, c3⟩, f0, f1, f2, f3⟩ := word_cells (b := w.heap.size + 1) HW2.out (alloc_at1 _ _ _)
      go_wp2_with fail
      obtain ⟨E0, E1, E2, E3⟩ := word_put c0 c1 c2 c3
      refine bodyPost_ret (v := .tuple #[.agg #[.int .i64 0, .string ⟨#[]⟩, .int .i64 0, .int .i64 0], .int .i64 0, .int .i64 ue]) (by simp [results, Tryd.results24, go_sem, E0, E1, E2, E3]) rfl ?_
      exact ⟨rfl, by repeat (first | with_reducible exact (low_two _ _).trans (HW2.out) | with_reducible refine low_put ?_ (by simp))⟩
  · have F := Lib.hid (F0 hl)
    have zl : (n : Int) = (s.size : Int) := by omega
    have zl2 : ((n : Int) == (s.size : Int)) = true := by simpa using zl
    clear F0 F1 F2 zl
    rw [F.out]
    go_enter Tryd.func24, Tryd.ntmps24
    go_wp2_with fail
    refine (spanQ_c _ s H34.out (by omega) _ _ _ (OS _).out).mono ?_
    rintro e w1 ⟨rfl, hc, hw⟩
    rw [HN.out]
    have HW := Lib.hid hw
    obtain ⟨⟨c0, c1, c2, c3⟩, f0, f1, f2, f3⟩ := word_cells (b := w.heap.size + 1) hw (alloc_at1 _ _ _)
    clear hw
    go_wp2_with fail
    obtain ⟨E0, E1, E2, E3⟩ := word_put c0 c1 c2 c3
    refine bodyPost_ret (v := .tuple #[.agg #[.int .i64 0, .string ⟨#[]⟩, .int .i64 0, .int .i64 0], .int .i64 0, .int .i64 10]) (by simp [results, Tryd.results24, go_sem, E0, E1, E2, E3]) rfl ?_
    exact ⟨rfl, by repeat (first | with_reducible exact (low_two _ _).trans (HW.out) | with_reducible refine low_put ?_ (by simp))⟩
end Go.Proofs.YtflpidnkppljlaaDoor
