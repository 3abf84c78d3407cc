/- schema.stepsTo: how many steps lead to each name. Condition: not too many names. -/
import Derived.Test.YtijjbfdbhfjfmaaScL
import Derived.Test.YtijjbfdbhfjfmaaGrA
namespace Go.Proofs.Ytijjbfdbhfjfmaa
open Go.RowKit Go.Maps
set_option linter.unusedVariables false
/-- The counts as a map has them: none is nought. -/
def Cnt (w : World) (b n : Nat) (c : Nm → Int) : Prop := ∃ fc, MapAt keyNm w b n fc ∧ ∀ x, (fc x).getD (.int .i64 0) = .int .i64 (c x)
theorem Cnt.block {w w' : World} {b n : Nat} {c : Nm → Int} (h : Cnt w b n c) (e : w'.heap[b]? = w.heap[b]?) : Cnt w' b n c := by
  obtain ⟨fc, h1, h2⟩ := h
  exact ⟨fc, h1.block e, h2⟩
theorem Cnt.lt {w : World} {b n : Nat} {c : Nm → Int} (h : Cnt w b n c) : b < w.heap.size := by
  obtain ⟨fc, h1, h2⟩ := h
  exact h1.lt
theorem zeroI (w : World) : (zeroValue 3).run Try.prog w = .ok (.int .i64 0) w := by kernel_rfl
def cntN (L : List Nm) (x : Nm) : Int := (L.count x : Int)
theorem Cnt.store {w : World} {b n : Nat} {c c' : Nm → Int} {y : Nm} {fc : Nm → Option Value} {v : Int} (h2 : ∀ x, (fc x).getD (.int .i64 0) = .int .i64 (c x)) (hM : MapAt keyNm w b n (updF fc y (some (.int .i64 v)))) (hc : ∀ x, c' x = if x = y then v else c x) : Cnt w b n c' := by
  refine ⟨_, hM, fun x => ?_⟩
  rw [hc]
  unfold updF
  by_cases e : x = y
  · rw [if_pos e, if_pos e]; rfl
  · rw [if_neg e, if_neg e]; exact h2 x
theorem RangeAt.block {P : Program} {k : TypeId} {α : Type} {F : KeyF P k α} {w w' : World} {b r n : Nat} {f : α → Option Value} {seen : List α} {cnt : Nat} (h : RangeAt F w b r n f seen cnt) (eb : w'.heap[b]? = w.heap[b]?) (er : w'.heap[r]? = w.heap[r]?) : RangeAt F w' b r n f seen cnt := by
  obtain ⟨D, left, hD, hr, rest⟩ := h
  obtain ⟨es, clock, hb, q⟩ := hD.owns
  obtain ⟨es2, clock2, since, sn, c0, hb2, F2, hs2, hD2, hr2, rest2⟩ := hr
  exact ⟨D, left, ⟨⟨es, clock, eb.trans hb, q⟩, hD.has, hD.at', hD.key, hD.num⟩, ⟨es2, clock2, since, sn, c0, eb.trans hb2, F2, hs2, hD2, er.trans hr2, rest2⟩, rest⟩
/-- All blocks but one are as they were. -/
def But (w w' : World) (m : Nat) : Prop := ∀ k, k < w.heap.size → k ≠ m → w'.heap[k]? = w.heap[k]?
theorem But.of_grown {w b : World} {m : Nat} (ht : w.grownBy b (some m)) : But w b m := fun k hk hne => ht.block k hk (by simpa using hne)
theorem Low.of_range {w a b : World} {m : Nat} (h : Low w a) (ht : a.grownBy b (some m)) (hm : w.heap.size ≤ m) : Low w b :=
  ⟨ht.os.trans h.1, ht.output.trans h.2.1, Nat.le_trans h.2.2.1 ht.size, fun k hk => (ht.block k (Nat.lt_of_lt_of_le hk h.2.2.1) (by simp; omega)).trans (h.2.2.2 k hk)⟩
/-- What stepsTo answers. -/
def StepP (g : Gra) (w : World) (e : Ending) (w' : World) : Prop := ∃ (b n : Nat) (ks : List Nm), e = .returned (.map (some b)) ∧ w.heap.size ≤ b ∧ ks.Nodup ∧ (∀ a, a ∈ ks ↔ (look g a).isSome = true) ∧ n ≤ 10000 ∧ Cnt w' b n (cntN (ks.flatMap (nxt g))) ∧ Low w w'
theorem seen_fl {g : Gra} {f : Nm → Option Value} {w : World} {b r n cnt : Nat} {seen : List Nm} (hg : FewG g) (hs : ∀ x, (f x).isSome = (look g x).isSome) (h : RangeAt keyNm w b r n f seen cnt) : seen.Nodup ∧ (∀ a ∈ seen, (look g a).isSome = true) ∧ (seen.flatMap (nxt g)).length ≤ 10000 := by
  obtain ⟨_, _, _, _, h1, h2, _⟩ := h
  have h3 : ∀ a ∈ seen, (look g a).isSome = true := fun a ha => by rw [← hs]; exact h2 a ha
  exact ⟨h1, h3, flat_len2 hg h1 h3⟩
set_option maxRecDepth 100000 in
set_option maxHeartbeats 1600000 in
theorem step_c (g : Gra) (w : World) (b n : Nat) (hg : FewG g) (h : InsAt w b n g) : Calls Try.prog 46 #[.map (some b)] w (StepP g w) := by
  have hmm := @run_makeMap Try.prog
  obtain ⟨f, h1, h2, h3⟩ := h
  have HM := Lib.hid h1
  have HS := Lib.hid h2
  have HR := Lib.hid h3
  have HG := Lib.hid hg
  have hbw := h1.lt
  clear h1 h2 h3 hg
  go_enter Try.func46, Try.ntmps46
  go_wp2_with (first
    | (at_range; refine at_rangeM rfl _ _ rfl keyedNm Try.underlying59 rfl (HM.out.block ((low_new (Low.refl w) _).2.2.2 _ HM.out.lt)) ?_; intro w1 cnt0 R1 G1 S1))
  have hsz : (w.alloc (Obj.map #[] 0)).heap.size = w.heap.size + 1 := by simp
  rw [hsz] at R1
  have HR1 := Lib.hid R1
  have HM1 := Lib.hid (show Cnt w1 w.heap.size 0 (cntN []) from ⟨_, (MapAt.made keyNm w).block (G1.block _ (by simp) (by simp)), fun x => rfl⟩)
  have HL1 := Lib.hid (show Low w w1 from by
    have := low_new (Low.refl w) (.map #[] 0)
    exact ⟨G1.os.trans this.1, G1.output.trans this.2.1, Nat.le_trans this.2.2.1 G1.size, fun k hk => (G1.block k (Nat.lt_of_lt_of_le hk this.2.2.1) (by simp)).trans (this.2.2.2 k hk)⟩)
  clear R1 G1 S1 hmm
  go_frame
  rw [hsz]
  clear hsz
  go_loopg [11] cnt0 (fun gk _ wr => ∃ (seen : List Nm) (cnt m : Nat), cnt ≤ gk ∧ Hid (RangeAt keyNm wr b (w.heap.size + 1) n f seen cnt) ∧ Hid (Low w wr) ∧ m ≤ (seen.flatMap (nxt g)).length ∧ Hid (Cnt wr w.heap.size m (cntN (seen.flatMap (nxt g)))))
  case atStart => exact ⟨[], cnt0, 0, Nat.le_refl _, HR1, HL1, Nat.le_refl _, HM1⟩
  case round =>
    clear HR1 HL1 HM1
    obtain ⟨seen, cnt, m, hck, RR, LL, hm, MM⟩ := hrel
    go_wp2_with (at_next; go_loud (refine at_nextM rfl _ rfl keyedNm (fun c : Option Addr × Nat × Nat => .slice c.1 c.2.1 c.2.2) (fun u v hv => by obtain ⟨ao, c, rfl, _⟩ := RowB.sl (HR.out u v hv); exact ⟨(ao, _, c), rfl⟩) rfl RR.out ?_ ?_))
    · intro hall
      go_wp2_with fail
      go_ret
      obtain ⟨h1, h2, h3⟩ := seen_fl HG.out HS.out RR.out
      exact ⟨_, m, seen, rfl, Nat.le_refl _, h1, fun a => ⟨h2 a, fun ha => hall a (by rw [HS.out]; exact ha)⟩, Nat.le_trans hm h3, MM.out, LL.out⟩
    · intro u ao ln cp w2 cnt2 hfu hns R2 hlt2 G2 S2 hen
      have hW := HR.out u _ hfu
      obtain ⟨ao', cp', hv, hl1, hl2⟩ := RowB.sl hW
      injection hv with hv1 hv2 hv3
      subst hv1 hv2 hv3
      have HX := Lib.hid hW
      have HR2 := Lib.hid R2
      have HL2 := Lib.hid (LL.out.of_range G2 (by simp))
      have HM2 := Lib.hid (MM.out.block (But.of_grown G2 _ MM.out.lt (by simp)))
      clear hns hfu R2 G2 S2 hW
      go_wp2_with fail
      go_loopg [17] (nxt g u).length (fun gj vj wr => ∃ (j m' : Nat), vj = .int .i64 (j : Int) ∧ j ≤ (nxt g u).length ∧ (nxt g u).length - j ≤ gj ∧ Hid (RangeAt keyNm wr b (w.heap.size + 1) n f (seen ++ [u]) cnt2) ∧ Hid (Low w wr) ∧ m' ≤ (seen.flatMap (nxt g)).length + j ∧ Hid (Cnt wr w.heap.size m' (cntN (seen.flatMap (nxt g) ++ (nxt g u).take j))))
      case atStart => exact ⟨0, m, rfl, Nat.zero_le _, Nat.le_refl _, HR2, HL2, by omega, Lib.hid (by rw [List.take_zero, List.append_nil]; exact HM2.out)⟩
      case round =>
        clear HR2 HL2 HM2
        obtain ⟨j, m', rfl, hj, hgj, RJ, LJ, hm', MJ0⟩ := hrel
        obtain ⟨L, hL⟩ : ∃ L, Hid (L = seen.flatMap (nxt g) ++ (nxt g u).take j) := ⟨_, Lib.hid rfl⟩
        have MJ := Lib.hid (show Cnt wr w.heap.size m' (cntN L) by rw [hL.out]; exact MJ0.out)
        clear MJ0
        have hfew := (seen_fl HG.out HS.out RJ.out).2.2
        rw [List.flatMap_append, List.length_append] at hfew
        simp only [List.flatMap_cons, List.flatMap_nil, List.append_nil] at hfew
        have hLl : L.length ≤ 10000 := by rw [hL.out, List.length_append, List.length_take]; omega
        by_cases hlt : j < (nxt g u).length
        · have zl : (j : Int) < ((nxt g u).length : Int) := by omega
          obtain ⟨pb, po, rfl, e0⟩ := (HX.out.low LJ.out).at hlt
          obtain ⟨p, hp⟩ : ∃ p, p = (nxt g u)[j] := ⟨_, rfl⟩
          have HT := Lib.hid (show (nxt g u).take (j + 1) = (nxt g u).take j ++ [p] by rw [hp, List.take_succ_eq_append_getElem hlt])
          rw [← hp] at e0
          clear hp
          obtain ⟨fc, hfc, hfv⟩ := MJ.out
          have HFC := Lib.hid hfc
          have HFV := Lib.hid hfv
          obtain ⟨q, hq⟩ : ∃ q, q = L.count p := ⟨_, rfl⟩
          have hval : (fc p).getD (.int .i64 0) = .int .i64 (q : Int) := by rw [hfv, hq]; rfl
          have HVL := Lib.hid hval
          have HQ := Lib.hid hq
          have hql : q ≤ 10000 := by rw [hq]; exact Nat.le_trans List.count_le_length hLl
          have hqw : IntKind.wrap .i64 ((q : Int) + 1) = (q : Int) + 1 := by rw [IntKind.wrap_i64]; omega
          clear hfc hfv hval hq
          go_wp2_with (first
            | (at_lookup; refine at_look rfl _ _ _ rfl keyedNm Try.underlying80 (zeroI _) rfl HFC.out p rfl _ HVL.out ?_)
            | (at_mapUpdate; refine at_store rfl _ _ _ _ rfl keyedNm Try.underlying80 rfl HFC.out (by unfold maxLen; omega) p rfl _ rfl ?_; intro w4 M4 T4
               have HM4 := Lib.hid M4
               have HT4 := Lib.hid T4
               clear M4 T4))
          go_roundg ((nxt g u).length - (j + 1))
          case measure => omega
          case rel =>
            have hb3 := turned_block HT4.out
            refine ⟨j + 1, m' + 1, by go_num, by omega, by omega, Lib.hid (RJ.out.block (hb3 _ (by omega)) (hb3 _ (by omega))), Lib.hid (LJ.out.turned HT4.out (Nat.le_refl _)), by omega, Lib.hid ?_⟩
            have hLL : seen.flatMap (nxt g) ++ (nxt g u).take (j + 1) = L ++ [p] := by rw [HT.out, hL.out, List.append_assoc]
            rw [hLL]
            refine Cnt.store HFV.out HM4.out fun x => ?_
            unfold cntN
            rw [List.count_append, List.count_singleton]
            by_cases e : x = p
            · rw [if_pos e, HQ.out, e]; simp
            · have : (p == x) = false := by simpa using fun h => e h.symm
              rw [if_neg e, this]; simp
        · have zl : ¬ (j : Int) < ((nxt g u).length : Int) := by omega
          go_wp2_with fail
          go_roundg cnt2
          case measure => omega
          case rel =>
            have hjl : j = (nxt g u).length := by omega
            refine ⟨seen ++ [u], cnt2, m', Nat.le_refl _, RJ, LJ, ?_, Lib.hid ?_⟩
            · rw [List.flatMap_append, List.length_append]; simp only [List.flatMap_cons, List.flatMap_nil, List.append_nil]; omega
            · have hLL : (seen ++ [u]).flatMap (nxt g) = L := by rw [hL.out, hjl, List.take_length]; simp [List.flatMap_append]
              rw [hLL]; exact MJ.out
end Go.Proofs.Ytijjbfdbhfjfmaa
