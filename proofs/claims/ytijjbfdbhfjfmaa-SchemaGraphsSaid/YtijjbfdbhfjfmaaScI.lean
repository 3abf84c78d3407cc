/- The maps of a schema's names: has, lay, insOfTypes, insOfActions. No condition. -/
import Derived.Test.YtijjbfdbhfjfmaaScM
namespace Go.Proofs.Ytijjbfdbhfjfmaa
open Go.RowKit Go.Maps
set_option linter.unusedVariables false
theorem has_c (w : World) (b n : Nat) (g : Gra) (x : Nm) (h : InsAt w b n g) : Calls Try.prog 50 #[.map (some b), .string x.s] w fun e w' => e = .returned (.bool (look g x).isSome) ∧ w' = w := by
  obtain ⟨f, p, c, hm, hv, -, hs, -⟩ := h.get x
  have HM := Lib.hid hm
  have HV := Lib.hid hv
  obtain ⟨q, hq⟩ : ∃ q, q = (look g x).isSome := ⟨_, rfl⟩
  rw [← hq]
  have HQ := Lib.hid (hs.trans hq.symm)
  clear hm hv hs hq h
  go_enter Try.func50, Try.ntmps50
  go_wp2_with (at_lookup; refine at_lookOk rfl _ _ _ rfl keyedNm Try.underlying59 (zeroNs _) rfl HM.out x rfl _ q HV.out HQ.out ?_)
  go_ret
  exact ⟨rfl, rfl⟩
/-- What lay leaves. -/
def LayP (w : World) (b n : Nat) (g : Gra) (e : Ending) (w' : World) : Prop := e = .returned (.tuple #[]) ∧ InsAt w' b n g ∧ (w' = w ∨ w.mapTurned w' b)
theorem lay_c (w : World) (b n : Nat) (g : Gra) (x : Nm) (l : List Nm) (v : Value) (hn : n ≤ 1000000) (h : InsAt w b n g) (hv : NsAt w l v) : Calls Try.prog 42 #[.map (some b), .string x.s, v] w (LayP w b (n + 1) (g ++ [(x, l)])) := by
  obtain ⟨p, c, rfl, z1, z2⟩ := RowB.sl hv
  have HC := Lib.hid (has_c w b n g x h)
  have HI := Lib.hid h
  have HV := Lib.hid hv
  clear h hv
  cases hq : (look g x).isSome with
  | true =>
    have HQ := Lib.hid hq
    rw [hq] at HC
    clear hq
    go_enter Try.func42, Try.ntmps42
    go_wp2_with fail
    refine HC.out.mono ?_
    rintro e w' ⟨rfl, rfl⟩
    go_wp2_with fail
    refine bodyPost_ret (v := .tuple #[]) (by simp [results, Try.results42]) rfl ?_
    refine ⟨rfl, ?_, .inl rfl⟩
    obtain ⟨f, h1, h2, h3⟩ := HI.out
    have hl := look_there (g := g) (p := (x, l)) HQ.out
    refine ⟨f, h1.mono (Nat.le_succ _), fun y => by rw [hl]; exact h2 y, fun y u hu => ?_⟩
    have := h3 y u hu
    unfold nxt at this ⊢
    rw [hl]; exact this
  | false =>
    have HQ := Lib.hid hq
    rw [hq] at HC
    clear hq
    obtain ⟨f, h1, h2, h3⟩ := HI.out
    have H1 := Lib.hid h1
    have H2 := Lib.hid h2
    have H3 := Lib.hid h3
    clear h1 h2 h3
    go_enter Try.func42, Try.ntmps42
    go_wp2_with fail
    refine HC.out.mono ?_
    rintro e w' ⟨rfl, rfl⟩
    go_wp2_with (at_mapUpdate; refine at_store rfl _ _ _ _ rfl keyedNm Try.underlying59 rfl H1.out (by unfold maxLen; omega) x rfl _ rfl ?_; intro w1 M3 T3)
    have HM3 := Lib.hid M3
    have HT3 := Lib.hid T3
    clear M3 T3
    go_wp2_with fail
    refine bodyPost_ret (v := .tuple #[]) (by simp [results, Try.results42]) rfl ?_
    refine ⟨rfl, ⟨_, HM3.out, fun y => ?_, fun y u hu => ?_⟩, .inr HT3.out⟩
    · rw [look_new HQ.out]
      unfold updF
      by_cases e : y = x
      · rw [if_pos e, if_pos e]; rfl
      · rw [if_neg e, if_neg e]; exact H2.out y
    · obtain ⟨es, cl, es', cl', hb, rfl⟩ := HT3.out
      have hblk : ∀ k, k < w'.heap.size → k ≠ b → (ChangeMaps.setBlock w' b (.map es' cl')).heap[k]? = w'.heap[k]? := fun k _ hk => ChangeMaps.heap_setBlock_other hb _ hk
      have hnx : nxt (g ++ [(x, l)]) y = if y = x then l else nxt g y := by
        unfold nxt
        rw [look_new HQ.out]
        by_cases e : y = x
        · rw [if_pos e, if_pos e]; rfl
        · rw [if_neg e, if_neg e]
      rw [hnx]
      unfold updF at hu
      by_cases e : y = x
      · rw [if_pos e] at hu ⊢
        cases hu
        exact HV.out.blk hblk ⟨es, cl, hb⟩
      · rw [if_neg e] at hu ⊢
        exact (H3.out y u hu).blk hblk ⟨es, cl, hb⟩
/-- What insOfTypes and insOfActions answer. -/
def InsP (g : Gra) (w : World) (e : Ending) (w' : World) : Prop := ∃ b, e = .returned (.map (some b)) ∧ w.heap.size ≤ b ∧ InsAt w' b g.length g ∧ Low w w'
theorem box2 {w wr : World} {c0 c1 : Value} {t : TypeId} (h : Low (w.alloc (.cells #[c0, c1] t)) wr) : wr.cell? ⟨w.heap.size, 0, none⟩ = some c0 ∧ wr.cell? ⟨w.heap.size, 1, none⟩ = some c1 :=
  ⟨h.keep (by rw [World.cell?_alloc_mark]; rfl), h.keep (by rw [World.cell?_alloc_mark]; rfl)⟩
set_option maxHeartbeats 1600000 in
theorem insT_c (n : Nat) (l : List Et) (w : World) (vt va : Value) (hl : l.length ≤ 100000) (h : EtsAt n w l vt) : Calls Try.prog 23 #[.agg #[vt, va]] w (InsP (l.map Et.r) w) := by
  obtain ⟨p, c, rfl, z1, z2⟩ := RowB.sl h
  have hmm := @run_makeMap Try.prog
  have HH := Lib.hid h
  have HLn := Lib.hid hl
  clear h hl
  go_enter Try.func23, Try.ntmps23
  go_wp2_with fail
  clear hmm
  go_loopg [10] l.length (fun gk vi wr => ∃ i : Nat, vi = .int .i64 (i : Int) ∧ i ≤ l.length ∧ l.length - i ≤ gk ∧ Hid (Low w wr) ∧ Hid (InsAt wr (w.heap.size + 1) i ((l.take i).map Et.r)))
  case atStart =>
    obtain ⟨W, hW⟩ : ∃ W, W = w.alloc (.cells #[.slice p l.length c, va] 25) := ⟨_, rfl⟩
    have hs : w.heap.size + 1 = W.heap.size := by rw [hW]; simp
    refine ⟨0, rfl, Nat.zero_le _, Nat.le_refl _, Lib.hid ?_, Lib.hid ?_⟩
    · exact low_new (low_new (Low.refl w) _) _
    · rw [← hW, hs]; exact InsAt.made W
  case round =>
    obtain ⟨i, rfl, hi, hg, L, M⟩ := hrel
    by_cases hlt : i < l.length
    · have zl : (i : Int) < (l.length : Int) := by omega
      obtain ⟨b, o, pi, ci, pa, ca, rfl, e0, e1, e2, hns, -, y1, y2, y3, y4⟩ := EtsAt.at (EtsAt.low HH.out L.out) hlt
      have HT := Lib.hid (show (l.take (i + 1)).map Et.r = (l.take i).map Et.r ++ [(l[i].nm, l[i].ins)] by rw [List.take_succ_eq_append_getElem hlt, List.map_append]; rfl)
      have LB := Lib.hid (low_new (Low.refl wr) (.cells #[.string l[i].nm.s, .slice pi l[i].ins.length ci, .slice pa l[i].ats.length ca] 33))
      have HC := Lib.hid (lay_c (wr.alloc (.cells #[.string l[i].nm.s, .slice pi l[i].ins.length ci, .slice pa l[i].ats.length ca] 33)) (w.heap.size + 1) i ((l.take i).map Et.r) l[i].nm l[i].ins (.slice pi l[i].ins.length ci) (by have := HLn.out; omega) (M.out.low LB.out) (hns.low LB.out))
      clear hns
      go_wp2_with fail
      refine HC.out.mono ?_
      rintro e w' ⟨rfl, M2, T2⟩
      have L2 := Lib.hid (show Low w w' from by
        rcases T2 with rfl | T2
        · exact L.out.trans LB.out
        · exact (L.out.trans LB.out).turned T2 (Nat.le_succ _))
      have HM2 := Lib.hid M2
      clear M2 T2 HC
      go_wp2_with fail
      go_roundg (l.length - (i + 1))
      case measure => omega
      case rel => exact ⟨i + 1, by go_num, by omega, by omega, L2, Lib.hid (by rw [HT.out]; exact HM2.out)⟩
    · have zl : ¬ (i : Int) < (l.length : Int) := by omega
      obtain rfl : i = l.length := by omega
      go_wp2_with fail
      go_ret
      refine ⟨_, rfl, Nat.le_succ _, ?_, L.out⟩
      have := M.out
      rw [List.take_length] at this
      simpa using this
set_option maxHeartbeats 1600000 in
theorem insA_c (n : Nat) (l : List Ac) (w : World) (vt va : Value) (hl : l.length ≤ 100000) (h : AcsAt n w l va) : Calls Try.prog 24 #[.agg #[vt, va]] w (InsP (l.map Ac.r) w) := by
  obtain ⟨p, c, rfl, z1, z2⟩ := RowB.sl h
  have hmm := @run_makeMap Try.prog
  have HH := Lib.hid h
  have HLn := Lib.hid hl
  clear h hl
  go_enter Try.func24, Try.ntmps24
  go_wp2_with fail
  clear hmm
  go_loopg [10] l.length (fun gk vi wr => ∃ i : Nat, vi = .int .i64 (i : Int) ∧ i ≤ l.length ∧ l.length - i ≤ gk ∧ Hid (Low w wr) ∧ Hid (InsAt wr (w.heap.size + 1) i ((l.take i).map Ac.r)))
  case atStart =>
    obtain ⟨W, hW⟩ : ∃ W, W = w.alloc (.cells #[vt, .slice p l.length c] 25) := ⟨_, rfl⟩
    have hs : w.heap.size + 1 = W.heap.size := by rw [hW]; simp
    refine ⟨0, rfl, Nat.zero_le _, Nat.le_refl _, Lib.hid ?_, Lib.hid ?_⟩
    · exact low_new (low_new (Low.refl w) _) _
    · rw [← hW, hs]; exact InsAt.made W
  case round =>
    obtain ⟨i, rfl, hi, hg, L, M⟩ := hrel
    by_cases hlt : i < l.length
    · have zl : (i : Int) < (l.length : Int) := by omega
      obtain ⟨b, o, pi, ci, pp, cp, pr, cr, pa, ca, rfl, e0, e1, e2, e3, e4, hns, -, -, -, ⟨y1, y2⟩, ⟨y3, y4⟩, ⟨y5, y6⟩, ⟨y7, y8⟩⟩ := AcsAt.at (AcsAt.low HH.out L.out) hlt
      have HT := Lib.hid (show (l.take (i + 1)).map Ac.r = (l.take i).map Ac.r ++ [(l[i].nm, l[i].ins)] by rw [List.take_succ_eq_append_getElem hlt, List.map_append]; rfl)
      have LB := Lib.hid (low_new (Low.refl wr) (.cells #[.string l[i].nm.s, .slice pi l[i].ins.length ci, .slice pp l[i].ps.length cp, .slice pr l[i].rs.length cr, .slice pa l[i].ats.length ca] 37))
      have HC := Lib.hid (lay_c (wr.alloc (.cells #[.string l[i].nm.s, .slice pi l[i].ins.length ci, .slice pp l[i].ps.length cp, .slice pr l[i].rs.length cr, .slice pa l[i].ats.length ca] 37)) (w.heap.size + 1) i ((l.take i).map Ac.r) l[i].nm l[i].ins (.slice pi l[i].ins.length ci) (by have := HLn.out; omega) (M.out.low LB.out) (hns.low LB.out))
      clear hns
      go_wp2_with fail
      refine HC.out.mono ?_
      rintro e w' ⟨rfl, M2, T2⟩
      have L2 := Lib.hid (show Low w w' from by
        rcases T2 with rfl | T2
        · exact L.out.trans LB.out
        · exact (L.out.trans LB.out).turned T2 (Nat.le_succ _))
      have HM2 := Lib.hid M2
      clear M2 T2 HC
      go_wp2_with fail
      go_roundg (l.length - (i + 1))
      case measure => omega
      case rel => exact ⟨i + 1, by go_num, by omega, by omega, L2, Lib.hid (by rw [HT.out]; exact HM2.out)⟩
    · have zl : ¬ (i : Int) < (l.length : Int) := by omega
      obtain rfl : i = l.length := by omega
      go_wp2_with fail
      go_ret
      refine ⟨_, rfl, Nat.le_succ _, ?_, L.out⟩
      have := M.out
      rw [List.take_length] at this
      simpa using this
end Go.Proofs.Ytijjbfdbhfjfmaa
