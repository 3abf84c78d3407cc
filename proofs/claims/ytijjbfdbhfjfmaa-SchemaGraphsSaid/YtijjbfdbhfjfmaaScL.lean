/- schema.leads: does a way of at least one step lead from a name to another one? Condition: not too many names. -/
import Derived.Test.YtijjbfdbhfjfmaaScI
import Derived.Test.YtijjbfdbhfjfmaaOwnG
namespace Go.Proofs.Ytijjbfdbhfjfmaa
open Go.RowKit Go.Maps
set_option linter.unusedVariables false
theorem s_info : (Try.prog.info? 9).map (fun i => (i.zero, i.size, i.bytes)) = some (some (.string ⟨#[]⟩), 1, 16) := by kernel_rfl
def encS (x : Nm) : List Value := [.string x.s]
theorem encS_len (x : Nm) : (encS x).length = 1 := rfl
theorem encS_one (x : Nm) : ∀ u ∈ encS x, u.oneCell' = true := by
  intro u hu
  simp [encS] at hu
  rw [hu]; rfl
abbrev OwnN (B : Nat) (w : World) (v : Value) (l : List Nm) : Prop := OwnR 9 1 encS B w v l
theorem own_one {B n : Nat} {w : World} {u : Nm} (h : w.heap[n]? = some (.cells #[.string u.s] 9 (0, 0))) (hB : B ≤ n) : OwnN B w (.slice (some ⟨n, 0, none⟩) 1 1) [u] :=
  ⟨rfl, .inr ⟨n, 1, #[.string u.s], rfl, hB, h, Nat.le_refl _, by decide, rfl, rfl⟩⟩
theorem alloc_at (w : World) (o : Obj) : (w.alloc o).heap[w.heap.size]? = some o := by
  show (w.heap.push o)[w.heap.size]? = _
  simp
/-- Keys of a map that are a list's. -/
def setF (R : List Nm) (x : Nm) : Option Value := if x ∈ R then some (.agg #[]) else none
theorem setF_some (R : List Nm) (x : Nm) : (setF R x).isSome = decide (x ∈ R) := by
  unfold setF
  by_cases h : x ∈ R
  · rw [if_pos h, decide_eq_true h]; rfl
  · rw [if_neg h, decide_eq_false h]; rfl
theorem setF_get (R : List Nm) (x : Nm) : (setF R x).getD (.agg #[]) = .agg #[] := by
  unfold setF
  split <;> rfl
theorem setF_more (R : List Nm) (y : Nm) : ∀ x, updF (setF R) y (some (.agg #[])) x = setF (R ++ [y]) x := fun x => by
  unfold updF setF
  by_cases e : x = y
  · rw [if_pos e, if_pos (by simp [e])]
  · rw [if_neg e]
    by_cases h : x ∈ R
    · rw [if_pos h, if_pos (by simp [h])]
    · rw [if_neg h, if_neg (by simp [h, e])]
theorem zeroSt (w : World) : (zeroValue 85).run Try.prog w = .ok (.agg #[]) w := by kernel_rfl
theorem low_setN {B : Nat} {w a b : World} (h : Low w a) (k : RowKit.Below B a b) (hB : w.heap.size ≤ B) : Low w b :=
  ⟨k.os.trans h.1, k.output.trans h.2.1, Nat.le_trans h.2.2.1 k.size, fun i hi => (k.block i (Nat.lt_of_lt_of_le hi hB)).trans (h.2.2.2 i hi)⟩
theorem turned_block {w w' : World} {b : Nat} (h : w.mapTurned w' b) : ∀ k, k ≠ b → w'.heap[k]? = w.heap[k]? := fun k hk => by
  obtain ⟨es, cl, es', cl', hb, rfl⟩ := h
  exact ChangeMaps.heap_setBlock_other hb _ hk
set_option maxRecDepth 100000 in
set_option maxHeartbeats 3200000 in
theorem leads_c (w : World) (b n : Nat) (g : Gra) (low high : Nm) (hg : FewG g) (h : InsAt w b n g) : Calls Try.prog 39 #[.map (some b), .string low.s, .string high.s] w fun e w' => e = .returned (.bool (ways g low high)) ∧ Low w w' := by
  have hmm := @run_makeMap Try.prog
  have HI := Lib.hid h
  have HG := Lib.hid hg
  have hb0 := h.lt
  clear h hg
  go_enter Try.func39, Try.ntmps39
  go_wp2_with fail
  clear hmm
  obtain ⟨W, hW⟩ : ∃ W, W = w.alloc (.map #[] 0) := ⟨_, rfl⟩
  have hs : w.heap.size + 1 = W.heap.size := by rw [hW]; simp
  obtain ⟨W2, hW2⟩ : ∃ W2, W2 = W.alloc (.cells #[.string low.s] 9) := ⟨_, rfl⟩
  have HL2 := Lib.hid (show Low w W2 by rw [hW2, hW]; exact low_new (low_new (Low.refl w) _) _)
  have HM2 := Lib.hid (show MapAt keyNm W2 w.heap.size 0 (setF []) by
    rw [hW2]
    exact ((show MapAt keyNm W w.heap.size 0 (setF []) by rw [hW]; exact (MapAt.made keyNm w).congr fun _ => rfl)).block ((low_new (Low.refl W) _).2.2.2 _ (by omega)))
  have HO2 := Lib.hid (show OwnN (w.heap.size + 1) W2 (.slice (some ⟨w.heap.size + 1, 0, none⟩) 1 1) [low] by
    rw [hW2, hs]; exact own_one (alloc_at W _) (Nat.le_refl _))
  have HB2 := Lib.hid (show Bf g low [low] [] 0 from ⟨by simp, by simp, by simp, by intro k x hk; omega⟩)
  have hs2 : w.heap.size + 2 ≤ W2.heap.size := by rw [hW2]; simp; omega
  rw [← hW, ← hW2]
  clear hW hW2 hs
  go_loopg [8, 9] 10002 (fun gk vl vi wr => ∃ (i : Nat) (R : List Nm), vi = .int .i64 (i : Int) ∧ i ≤ R.length + 1 ∧ 10002 - i ≤ gk ∧ R.length ≤ 10000 ∧ Hid R.Nodup ∧ Hid (Low w wr) ∧ w.heap.size + 2 ≤ wr.heap.size ∧ Hid (MapAt keyNm wr w.heap.size R.length (setF R)) ∧ Hid (OwnN (w.heap.size + 1) wr vl (low :: R)) ∧ Hid (Bf g low (low :: R) R i))
  case atStart => exact ⟨0, [], rfl, by omega, by omega, by simp, Lib.hid List.nodup_nil, HL2, hs2, HM2, HO2, HB2⟩
  case round =>
    clear HL2 HM2 HO2 HB2 hs2
    obtain ⟨i, R, rfl, hi, hgk, hR, HN, LL, hsz, MM, OO, BB⟩ := hrel
    obtain ⟨ao, cap, rfl, hc1, hc2, hx⟩ := OO.out.shape
    have hlen : (low :: R).length = R.length + 1 := rfl
    rw [hlen] at hc1 OO ⊢
    by_cases hlt : i < R.length + 1
    · have zl : (i : Int) < ((R.length + 1 : Nat) : Int) := by omega
      rcases hx with h0 | ⟨g3, rfl, hg3, hg4⟩
      · simp at h0
      obtain ⟨x, hx⟩ : ∃ x, x = (low :: R)[i]'(by rw [hlen]; exact hlt) := ⟨_, rfl⟩
      have d0 := OO.out.cell encS_len i 0 (by rw [hlen]; exact hlt) (by omega)
      rw [← hx] at d0
      replace d0 : wr.cell? ⟨g3, i, none⟩ = some (.string x.s) := by
        have e : (encS x)[0]? = some (.string x.s) := rfl
        rw [e, Nat.mul_one, Nat.add_zero] at d0
        exact d0
      have HT := Lib.hid (BB.out.take (x := x) (by rw [List.getElem?_eq_getElem (by rw [hlen]; exact hlt), hx]))
      obtain ⟨f, p, c, hm, hv, hns, -, y1, y2⟩ := HI.out.get x
      have HM := Lib.hid (hm.block (LL.out.2.2.2 _ hm.lt))
      have HV := Lib.hid hv
      have HNS := Lib.hid hns
      clear hm hv hns hx
      go_wp2_with (at_lookup; refine at_look rfl _ _ _ rfl keyedNm Try.underlying59 (zeroNs _) rfl HM.out x rfl _ HV.out ?_)
      clear d0
      rename World => wo
      go_loopg [8, 32] (nxt g x).length (fun gj vl vj wi => ∃ (j : Nat) (R' : List Nm), vj = .int .i64 (j : Int) ∧ j ≤ (nxt g x).length ∧ (nxt g x).length - j ≤ gj ∧ Hid R'.Nodup ∧ Hid (Low w wi) ∧ w.heap.size + 2 ≤ wi.heap.size ∧ Hid (MapAt keyNm wi w.heap.size R'.length (setF R')) ∧ Hid (OwnN (w.heap.size + 1) wi vl (low :: R')) ∧ Hid (Bi g low (low :: R') R' i x j))
      case atStart => exact ⟨0, R, rfl, by omega, by omega, HN, LL, hsz, MM, OO, HT⟩
      case round =>
        clear HN LL hsz MM OO HT BB hR hi hlt zl hlen hc1 hc2 hg3 hg4
        obtain ⟨j, R', rfl, hj, hgj, HN, LI, hsz, MM, OO, BB⟩ := hrel
        have hlR : R'.length ≤ 10000 := Nat.le_trans (len_sub R' (tot g) HN.out BB.out.b.len) (tot_len HG.out)
        have hiR : i < R'.length + 1 := (List.getElem?_eq_some_iff.1 BB.out.atx).1
        by_cases hlt : j < (nxt g x).length
        · have zl : (j : Int) < ((nxt g x).length : Int) := by omega
          obtain ⟨yb, yo, rfl, e0⟩ := (HNS.out.low LI.out).at hlt
          obtain ⟨y, hy⟩ : ∃ y, y = (nxt g x)[j] := ⟨_, rfl⟩
          rw [← hy] at e0
          have HY := Lib.hid hy.symm
          clear hy
          by_cases hq : y ∈ R'
          · have HQ := Lib.hid (show (setF R' y).isSome = true by rw [setF_some, decide_eq_true hq])
            have HBN := Lib.hid (BB.out.old hlt HY.out hq)
            clear hq
            go_wp2_with (at_lookup; refine at_lookOk rfl _ _ _ rfl keyedNm Try.underlying84 (zeroSt _) rfl MM.out y rfl _ true (setF_get R' y) HQ.out ?_)
            have la := low_new (Low.refl wr) (.cells #[] 85)
            go_roundg ((nxt g x).length - (j + 1))
            case measure => omega
            case rel => exact ⟨j + 1, R', by go_num, by omega, by omega, HN, Lib.hid (LI.out.trans la), by simp; omega, Lib.hid (MM.out.block (la.2.2.2 _ MM.out.lt)), Lib.hid (OO.out.alloc _), HBN⟩
          · have HQ := Lib.hid (show (setF R' y).isSome = false by rw [setF_some, decide_eq_false hq])
            have HBN := Lib.hid (BB.out.new hlt HY.out)
            have HNN := Lib.hid (show (R' ++ [y]).Nodup by
              rw [List.nodup_append]
              refine ⟨HN.out, by simp, fun a ha d hd => ?_⟩
              simp at hd
              rw [hd]
              exact fun e => hq (e ▸ ha))
            clear hq
            have la := low_new (Low.refl wr) (.cells #[] 85)
            have HMA := Lib.hid (MM.out.block (la.2.2.2 _ MM.out.lt))
            have HOA := Lib.hid (OwnR.alloc OO.out (.cells #[] 85))
            have HLA := Lib.hid (LI.out.trans la)
            have HSA := Lib.hid (show w.heap.size + 2 ≤ (wr.alloc (.cells #[] 85)).heap.size by simp; omega)
            obtain ⟨ao4, cap4, rfl, -, -, -⟩ := OO.out.shape
            clear la
            go_wp2_with (first
              | (at_lookup; refine at_lookOk rfl _ _ _ rfl keyedNm Try.underlying84 (zeroSt _) rfl MM.out y rfl _ false (setF_get R' y) HQ.out ?_)
              | (at_mapUpdate; refine at_store rfl _ _ _ _ rfl keyedNm Try.underlying84 rfl HMA.out (by unfold maxLen; omega) y rfl _ rfl ?_; intro w1 M3 T3
                 have HM3 := Lib.hid (MapAt.congr M3 (setF_more R' y))
                 have HO3 := Lib.hid (OwnR.to HOA.out fun k hk => turned_block T3 k (by have := (World.ownsRow.lt HOA.out k hk).1; omega))
                 have HW3 := Lib.hid (HLA.out.turned T3 (Nat.le_refl _))
                 have hs3 := Nat.le_trans HSA.out T3.grown.size
                 clear M3 T3)
              | (at_builtin; go_loud (refine appR rfl _ _ _ rfl Try.underlying30 s_info rfl (by decide) (by decide) encS_len encS_one (w.heap.size + 1) _ (low :: R') rfl (OwnR.alloc HO3.out _) y ⟨w1.heap.size, 0, none⟩ 1 rfl (fun j u hj => newcell_at _ _ _ _ _ rfl hj) (by simp; omega) (by simp; omega) ?_); intro v5 w5 O5 B5 K5 N5))
            have HO5 := Lib.hid (show OwnN (w.heap.size + 1) w5 v5 (low :: (R' ++ [y])) from O5)
            have HL5 := Lib.hid (low_setN (low_new HW3.out (.cells #[.string y.s] 9)) B5 (Nat.le_succ _))
            have HM5 := Lib.hid (show MapAt keyNm w5 w.heap.size (R' ++ [y]).length (setF (R' ++ [y])) from (HM3.out.block ((B5.block _ (by omega)).trans ((low_new (Low.refl w1) _).2.2.2 _ HM3.out.lt))).mono (by simp))
            have hs5 : w.heap.size + 2 ≤ w5.heap.size := Nat.le_trans (by simp; omega) B5.size
            clear O5 B5 K5 N5
            go_roundg ((nxt g x).length - (j + 1))
            case measure => omega
            case rel => exact ⟨j + 1, R' ++ [y], by go_num, by omega, by omega, HNN, HL5, hs5, HM5, HO5, HBN⟩
        · have zl : ¬ (j : Int) < ((nxt g x).length : Int) := by omega
          have HD := Lib.hid (BB.out.done (by omega))
          go_wp2_with fail
          go_roundg (10002 - (i + 1))
          case measure => omega
          case rel => exact ⟨i + 1, R', by go_num, by omega, by omega, hlR, HN, LI, hsz, MM, OO, HD⟩
    · have zl : ¬ (i : Int) < ((R.length + 1 : Nat) : Int) := by omega
      have HF := Lib.hid (BB.out.fin (high := high) (by rw [hlen]; omega) (BB.out.shut 0 low (by omega) rfl))
      have HQ := Lib.hid (show (setF R high).isSome = ways g low high from ways_of (by rw [setF_some, decide_eq_true_iff]; exact HF.out))
      obtain ⟨q, hq⟩ : ∃ q, Hid (q = ways g low high) := ⟨_, Lib.hid rfl⟩
      have HQ2 := Lib.hid (HQ.out.trans hq.out.symm)
      go_wp2_with (at_lookup; refine at_lookOk rfl _ _ _ rfl keyedNm Try.underlying84 (zeroSt _) rfl MM.out high rfl _ q (setF_get R high) HQ2.out ?_)
      rw [hq.out]
      go_ret
      exact ⟨rfl, low_new LL.out _⟩
end Go.Proofs.Ytijjbfdbhfjfmaa
