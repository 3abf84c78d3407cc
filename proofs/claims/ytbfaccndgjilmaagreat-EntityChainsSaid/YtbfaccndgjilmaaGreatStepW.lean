/- entity.stepsTo: how many steps lead to each name. Condition: no more than 100000 steps in all. -/
import Derived.Test.YtbfaccndgjilmaaGreatParW
import Derived.Test.YtbfaccndgjilmaaGreatMapE
import Derived.Test.YtbfaccndgjilmaaGreatCycs
namespace Go.Proofs.YtbfaccndgjilmaaGreat
open Go.RowKit Go.Maps Go.Sort
def Us.cs (u : Us) : List Value := [.string u.t, .string u.i]
/-- A slice of names. -/
def UsAt (w : World) (r : Value) (l : List Us) : Prop :=
  ∃ ao c, r = .slice ao l.length c ∧ (l.length ≤ c ∧ c ≤ 9223372036854775807) ∧ ∀ j (hj : j < l.length), ∃ b o, ao = some ⟨b, o, none⟩ ∧ CellsAt w b (o + j * 2) l[j].cs
theorem UsAt.low {w w' : World} {r : Value} {l : List Us} (h : UsAt w r l) (hl : Low w w') : UsAt w' r l := by
  obtain ⟨ao, c, rfl, hc, hx⟩ := h
  refine ⟨ao, c, rfl, hc, fun j hj => ?_⟩
  obtain ⟨b, o, rfl, hs⟩ := hx j hj
  exact ⟨b, o, rfl, hl.cells hs⟩
theorem cells2 {w : World} {b o : Nat} {u : Us} (hc : CellsAt w b o u.cs) : w.cell? ⟨b, o, none⟩ = some (.string u.t) ∧ w.cell? ⟨b, o + 1, none⟩ = some (.string u.i) := ⟨hc 0 _ rfl, hc 1 _ rfl⟩
/-- A count as an entry: none where it is nought. -/
def cntV (l : List Us) (x : Us) : Option Value := if l.count x = 0 then none else some (.int .i64 (l.count x : Int))
theorem cntV_get (l : List Us) (x : Us) : (cntV l x).getD (.int .i64 0) = .int .i64 (l.count x : Int) := by
  unfold cntV
  split
  · rename_i h; rw [h]; rfl
  · rfl
theorem cntV_more (l : List Us) (u : Us) : cntV (l ++ [u]) = updF (cntV l) u (some (.int .i64 ((l.count u : Int) + 1))) := by
  funext x
  unfold updF cntV
  rw [List.count_append, List.count_singleton]
  by_cases e : x = u
  · rw [if_pos e, e]; simp
  · have : (u == x) = false := by simpa using fun h => e h.symm
    rw [if_neg e, this]; simp
theorem zeroI (w : World) : (zeroValue 3).run Tryz.prog w = .ok (.int .i64 0) w := by kernel_rfl
/-- The rows under the names of a map. -/
structure RowsAt (w : World) (f : Us → Option Value) (g : Us → List Us) : Prop where
  row : ∀ u v, f u = some v → UsAt w v (g u)
  few : ∀ seen : List Us, seen.Nodup → (∀ a ∈ seen, (f a).isSome = true) → (seen.flatMap g).length ≤ 100000
/-- What stepsTo answers. -/
def StepP (f : Us → Option Value) (g : Us → List Us) (w : World) (e : Ending) (w' : World) : Prop := ∃ (b n : Nat) (ks : List Us), e = .returned (.map (some b)) ∧ w.heap.size ≤ b ∧ ks.Nodup ∧ (∀ a, a ∈ ks ↔ (f a).isSome = true) ∧ n ≤ 100000 ∧ MapAt keyUs w' b n (cntV (ks.flatMap g)) ∧ Low w w'
theorem RangeAt.block {P : Program} {k : TypeId} {α : Type} {F : KeyF P k α} {w w' : World} {b r n : Nat} {f : α → Option Value} {seen : List α} {cnt : Nat} (h : RangeAt F w b r n f seen cnt) (eb : w'.heap[b]? = w.heap[b]?) (er : w'.heap[r]? = w.heap[r]?) : RangeAt F w' b r n f seen cnt := by
  obtain ⟨D, left, hD, hr, rest⟩ := h
  obtain ⟨es, clock, hb, q⟩ := hD.owns
  obtain ⟨es2, clock2, since, sn, c0, hb2, F2, hs2, hD2, hr2, rest2⟩ := hr
  exact ⟨D, left, ⟨⟨es, clock, eb.trans hb, q⟩, hD.has, hD.at', hD.key, hD.num⟩, ⟨es2, clock2, since, sn, c0, eb.trans hb2, F2, hs2, hD2, er.trans hr2, rest2⟩, rest⟩
/-- All blocks but one are as they were. -/
def But (w w' : World) (m : Nat) : Prop := ∀ k, k < w.heap.size → k ≠ m → w'.heap[k]? = w.heap[k]?
theorem But.of {w a b : World} {m : Nat} (h : Low w a) (ht : a.mapTurned b m) : But w b m := by
  obtain ⟨es, cl, es', cl', hb, rfl⟩ := ht
  intro k hk hne
  rw [← h.2.2.2 k hk]
  exact ChangeMaps.heap_setBlock_other hb _ hne
theorem But.of_grown {w b : World} {m : Nat} (ht : w.grownBy b (some m)) : But w b m := fun k hk hne => ht.block k hk (by simpa using hne)
theorem Low.of_range {w a b : World} {m : Nat} (h : Low w a) (ht : a.grownBy b (some m)) (hm : w.heap.size ≤ m) : Low w b :=
  ⟨ht.os.trans h.1, ht.output.trans h.2.1, Nat.le_trans h.2.2.1 ht.size, fun k hk => (ht.block k (Nat.lt_of_lt_of_le hk h.2.2.1) (by simp; omega)).trans (h.2.2.2 k hk)⟩
set_option maxHeartbeats 1600000 in
theorem step_c (f : Us → Option Value) (g : Us → List Us) (w : World) (b n : Nat) (hM : MapAt keyUs w b n f) (hR : RowsAt w f g) : Calls Tryz.prog 39 #[.map (some b)] w (StepP f g w) := by
  have hmm := @run_makeMap Tryz.prog
  have HM := Lib.hid hM
  have HR := Lib.hid hR
  clear hM hR
  go_enter Tryz.func39, Tryz.ntmps39
  go_wp2_with (first
    | (at_range; refine at_rangeM rfl _ _ rfl keyedUs Tryz.underlying58 rfl (HM.out.block ((Gr.alloc (Gr.refl w) _).low.2.2.2 _ HM.out.lt)) ?_; intro w1 cnt0 R1 G1 S1))
  have hsz : (w.alloc (Obj.map #[] 0)).heap.size = w.heap.size + 1 := by simp
  rw [hsz] at R1
  have HR1 := Lib.hid R1
  have M1 : MapAt keyUs w1 w.heap.size 0 (cntV []) := ((MapAt.made keyUs w).block (G1.block _ (by simp) (by simp))).congr fun _ => rfl
  have HM1 := Lib.hid M1
  have HL1 := Lib.hid (show Low w w1 from by
    have := (Gr.alloc (Gr.refl w) (.map #[] 0)).low
    exact ⟨G1.os.trans this.1, G1.output.trans this.2.1, Nat.le_trans this.2.2.1 G1.size, fun k hk => (G1.block k (Nat.lt_of_lt_of_le hk this.2.2.1) (by simp)).trans (this.2.2.2 k hk)⟩)
  have hbw := HM.out.lt
  clear R1 M1 G1 S1
  go_frame
  rw [hsz]
  clear hsz
  go_loopg [11] cnt0 (fun gk _ wr => ∃ (seen : List Us) (cnt m : Nat), cnt ≤ gk ∧ Hid (RangeAt keyUs wr b (w.heap.size + 1) n f seen cnt) ∧ Hid (Low w wr) ∧ m ≤ (seen.flatMap g).length ∧ Hid (MapAt keyUs wr w.heap.size m (cntV (seen.flatMap g))))
  case atStart => exact ⟨[], cnt0, 0, Nat.le_refl _, HR1, HL1, Nat.le_refl _, HM1⟩
  case round =>
    clear HR1 HL1 HM1
    obtain ⟨seen, cnt, m, hck, RR, LL, hm, MM⟩ := hrel
    go_wp2_with (at_next; go_loud (refine at_nextM rfl _ rfl keyedUs (fun c : Option Addr × Nat × Nat => .slice c.1 c.2.1 c.2.2) (fun u v hv => by obtain ⟨ao, c, rfl, _⟩ := HR.out.row u v hv; exact ⟨(ao, _, c), rfl⟩) rfl RR.out ?_ ?_))
    · intro hall
      go_wp2_with fail
      go_ret
      obtain ⟨_, _, _, _, h1, h2, _⟩ := RR.out
      exact ⟨_, m, seen, rfl, Nat.le_refl _, h1, fun a => ⟨h2 a, hall a⟩, Nat.le_trans hm (HR.out.few seen h1 h2), MM.out, LL.out⟩
    · intro u ao ln cp w2 cnt2 hfu hns R2 hlt2 G2 S2 hen
      have hW := HR.out.row u _ hfu
      obtain ⟨ao', cp', hv, ⟨hl1, hl2⟩, hx⟩ := hW
      injection hv with hv1 hv2 hv3
      subst hv1 hv2 hv3
      have HX := Lib.hid hx
      have HN := Lib.hid hns
      have HF := Lib.hid hfu
      have HR2 := Lib.hid R2
      have HL2 := Lib.hid (LL.out.of_range G2 (by simp))
      have HM2 := Lib.hid (MM.out.block (But.of_grown G2 _ MM.out.lt (by simp)))
      clear hx hns hfu R2 G2 S2
      go_wp2_with fail
      go_loopg [17] (g u).length (fun gj vj wr => ∃ (j m' : Nat), vj = .int .i64 (j : Int) ∧ j ≤ (g u).length ∧ (g u).length - j ≤ gj ∧ Hid (RangeAt keyUs wr b (w.heap.size + 1) n f (seen ++ [u]) cnt2) ∧ Hid (Low w wr) ∧ m' ≤ (seen.flatMap g).length + j ∧ Hid (MapAt keyUs wr w.heap.size m' (cntV (seen.flatMap g ++ (g u).take j))))
      case atStart => exact ⟨0, m, rfl, Nat.zero_le _, Nat.le_refl _, HR2, HL2, by omega, Lib.hid (by rw [List.take_zero, List.append_nil]; exact HM2.out)⟩
      case round =>
        clear HR2 HL2 HM2
        obtain ⟨j, m', rfl, hj, hgj, RJ, LJ, hm', MJ0⟩ := hrel
        obtain ⟨L, hL⟩ : ∃ L, Hid (L = seen.flatMap g ++ (g u).take j) := ⟨_, Lib.hid rfl⟩
        have MJ := Lib.hid (show MapAt keyUs wr w.heap.size m' (cntV L) by rw [hL.out]; exact MJ0.out)
        clear MJ0
        by_cases hlt : j < (g u).length
        · have zl : (j : Int) < ((g u).length : Int) := by omega
          obtain ⟨pb, po, rfl, hcs⟩ := HX.out j hlt
          obtain ⟨e0, e1⟩ := cells2 (LJ.out.cells hcs)
          clear hcs
          obtain ⟨p, hp⟩ : ∃ p, p = (g u)[j] := ⟨_, rfl⟩
          have HT := Lib.hid (show (g u).take (j + 1) = (g u).take j ++ [p] by rw [hp, List.take_succ_eq_append_getElem hlt])
          rw [← hp] at e0 e1
          clear hp
          have LW : Low wr (wr.alloc (.cells #[.string p.t, .string p.i] 31)).drew := (Gr.drew (Gr.alloc (Gr.refl wr) _)).low
          have M0 : MapAt keyUs (wr.alloc (.cells #[.string p.t, .string p.i] 31)).drew w.heap.size m' (cntV L) := MJ.out.block (LW.2.2.2 _ MJ.out.lt)
          have hnd : (seen ++ [u]).Nodup ∧ ∀ a ∈ seen ++ [u], (f a).isSome = true := by
            obtain ⟨_, _, _, _, h1, h2, _⟩ := RJ.out
            exact ⟨h1, h2⟩
          have hfew := HR.out.few (seen ++ [u]) hnd.1 hnd.2
          rw [List.flatMap_append, List.length_append] at hfew
          simp only [List.flatMap_cons, List.flatMap_nil, List.append_nil] at hfew
          have hLl : L.length ≤ 100000 := by rw [hL.out, List.length_append, List.length_take]; omega
          clear hnd
          obtain ⟨v0, st, w3, hent, hlk3, ht3, hst⟩ := M0.entry lawUs Tryz.underlying66 zeroI (by unfold maxLen; omega) p
          have hlk0 := M0.look keyedUs Tryz.underlying66 (zeroI _) p
          rw [cntV_get] at hlk0 hlk3
          obtain ⟨q, hq⟩ : ∃ q, q = L.count p := ⟨_, rfl⟩
          rw [← hq] at hlk0 hlk3
          have HQ := Lib.hid hq
          have hql : q ≤ 100000 := by rw [hq]; exact Nat.le_trans List.count_le_length hLl
          clear hq
          obtain ⟨w4, hst4, M4, ht4⟩ := hst (.int .i64 ((q : Int) + 1))
          have hqw : IntKind.wrap .i64 ((q : Int) + 1) = (q : Int) + 1 := by rw [IntKind.wrap_i64]; omega
          have HM4 := Lib.hid M4
          have HT4 := Lib.hid ht4
          clear M4 ht4 hst M0 ht3
          simp only [keyUs, usV] at hent hlk3 hlk0
          simp only [goInt] at hst4 hent
          go_wp2_with fail
          go_region
          all_goals
            go_wp2_with fail
            go_roundg ((g u).length - (j + 1))
            case measure => omega
            case rel =>
              have hb3 := But.of (Gr.refl (wr.alloc (.cells #[.string p.t, .string p.i] 31)).drew).low HT4.out
              refine ⟨j + 1, m' + 1, by go_num, by omega, by omega, Lib.hid (RJ.out.block ?_ ?_), Lib.hid ((LJ.out.trans LW).turned HT4.out (Nat.le_refl _)), by omega, Lib.hid ?_⟩
              · rw [hb3 _ (Nat.lt_of_lt_of_le RJ.out.lt.2.1 LW.2.2.1) (by omega), LW.2.2.2 _ RJ.out.lt.2.1]
              · rw [hb3 _ (Nat.lt_of_lt_of_le RJ.out.lt.1 LW.2.2.1) (by omega), LW.2.2.2 _ RJ.out.lt.1]
              · have hLL : seen.flatMap g ++ (g u).take (j + 1) = L ++ [p] := by rw [HT.out, hL.out, List.append_assoc]
                rw [hLL, cntV_more, ← HQ.out]
                exact HM4.out
        · have zl : ¬ (j : Int) < ((g u).length : Int) := by omega
          go_wp2_with fail
          go_roundg cnt2
          case measure => omega
          case rel =>
            have hjl : j = (g u).length := by omega
            refine ⟨seen ++ [u], cnt2, m', Nat.le_refl _, RJ, LJ, ?_, Lib.hid ?_⟩
            · rw [List.flatMap_append, List.length_append]; simp only [List.flatMap_cons, List.flatMap_nil, List.append_nil]; omega
            · have hLL : (seen ++ [u]).flatMap g = L := by rw [hL.out, hjl, List.take_length]; simp [List.flatMap_append]
              rw [hLL]; exact MJ.out
end Go.Proofs.YtbfaccndgjilmaaGreat
