/- The reference's Leads, ActionIn. Condition: not too many names. -/
import Derived.Test.YtijjbfdbhfjfmaaScR
import Derived.BigQuiet
namespace Go.Proofs.Ytijjbfdbhfjfmaa
open Go.RowKit
set_option linter.unusedVariables false
theorem own_ns {B : Nat} {w : World} {v : Value} {L : List Nm} (h : OwnN B w v L) : NsAt w L v := by
  obtain ⟨ao, cap, rfl, h1, h2, hx⟩ := h.shape
  refine ⟨ao, cap, rfl, ⟨h1, h2⟩, fun j hj => ?_⟩
  rcases hx with h0 | ⟨g3, rfl, -, -⟩
  · rw [h0] at hj; exact absurd hj (Nat.not_lt_zero _)
  · refine ⟨g3, 0, (), rfl, fun c u hu => ?_, trivial⟩
    have hc : c = 0 := by
      cases c with
      | zero => rfl
      | succ c => simp [encNm] at hu
    subst hc
    have := h.cell encS_len j 0 hj (by omega)
    rw [Nat.zero_add, Nat.add_zero]
    exact this.trans hu
theorem ns_src {w : World} {ys : List Nm} {p : Option Addr} {m c : Nat} (h : NsAt w ys (.slice p m c)) : ys = [] ∨ ∃ ad, p = some ad ∧ ∀ j u, (ys.flatMap encS)[j]? = some u → w.cell? (ad.add j) = some u := by
  cases ys with
  | nil => exact .inl rfl
  | cons y ys =>
    obtain ⟨b, o, rfl, -⟩ := h.at (j := 0) (by simp)
    refine .inr ⟨_, rfl, fun j u hu => ?_⟩
    have hj : j < (y :: ys).length := by
      have := (List.getElem?_eq_some_iff.1 hu).1
      rwa [flat_len encS_len, Nat.mul_one] at this
    obtain ⟨b2, o2, hb, hc⟩ := h.at hj
    simp only [Option.some.injEq, Addr.mk.injEq] at hb
    obtain ⟨rfl, rfl, -⟩ := hb
    have hf := flat_at encS_len (y :: ys) j 0 hj (by omega)
    rw [Nat.mul_one, Nat.add_zero, hu] at hf
    have hu2 : u = .string ((y :: ys)[j]).s := by simpa [encS] using hf
    rw [hu2, Addr.add_lit]
    exact hc
set_option maxRecDepth 100000 in
set_option maxHeartbeats 3200000 in
theorem rleads_c (g : Gra) (q : Bool) (low high : Nm) (w : World) (vt va : Value) (hg : FewG g) (HN : ∀ x, ∃ p c, NextC w g (.agg #[vt, va]) q x p c) : Calls Try.prog 18 #[.agg #[vt, va], .bool q, .string low.s, .string high.s] w fun e w' => e = .returned (.bool (ways g low high)) ∧ Low w w' := by
  obtain ⟨U, hU⟩ : ∃ U, U = w.alloc (.cells #[vt, va] 25) := ⟨_, rfl⟩
  have LU := Lib.hid (show Low w U by rw [hU]; exact low_new (Low.refl w) _)
  have HB := Lib.hid fun (W : World) (l2 : Low U W) => box2 (w := w) (wr := W) (c0 := vt) (c1 := va) (t := 25) (by rw [← hU]; exact l2)
  have hUs : w.heap.size + 1 = U.heap.size := by rw [hU]; simp
  have HU := Lib.hid hU
  have HNX := Lib.hid HN
  have HG := Lib.hid hg
  obtain ⟨p0, c0, N0⟩ := HN low
  have HN0 := Lib.hid N0
  have HR0 := Lib.hid (N0.run U LU.out)
  obtain ⟨y1, y2⟩ := N0.le
  clear HN hg hU N0
  obtain ⟨b0, b1⟩ := HB.out U (Low.refl U)
  go_enter Try.func18, Try.ntmps18
  go_upto_region 1 with fail
  rw [← HU.out]
  have hnl := nxt_len HG.out low
  go_wp2_with (first
    | (go_at_call 40; refine HR0.out.mono ?_; rintro e w1 ⟨rfl, l1⟩; have L1 := Lib.hid l1; clear l1)
    | (at_builtin; go_loud (refine appRs rfl _ _ _ rfl Try.underlying30 s_info rfl (by decide) (by decide) encS_len encS_one U.heap.size _ [] rfl (OwnR.nil _ _ _ _ _) (nxt g low) p0 c0 rfl (ns_src (HN0.out.row.low (LU.out.trans L1.out))) (by simp; omega) L1.out.size ?_); intro v5 w5 O5 B5 K5))
  have HO5 := Lib.hid (show OwnN U.heap.size w5 v5 (nxt g low) from O5)
  have HL5 := Lib.hid (low_setN L1.out B5 (Nat.le_refl _))
  have hs5 : U.heap.size ≤ w5.heap.size := HL5.out.size
  have HB5 := Lib.hid (show Bf g low (nxt g low) (nxt g low) 0 from ⟨fun r hr => .one hr, fun x hx => .inr hx, fun r hr => hr, by intro k x hk; omega⟩)
  clear O5 B5 K5 b0 b1
  go_loopg [9, 10] 20002 (fun gk vl vi wr => ∃ (i : Nat) (R' : List Nm), vi = .int .i64 (i : Int) ∧ i ≤ (nxt g low).length + R'.length ∧ 20002 - i ≤ gk ∧ Hid R'.Nodup ∧ Hid (Low U wr) ∧ Hid (OwnN U.heap.size wr vl (nxt g low ++ R')) ∧ Hid (Bf g low (nxt g low ++ R') (nxt g low ++ R') i))
  case atStart => exact ⟨0, [], rfl, by omega, by omega, Lib.hid List.nodup_nil, HL5, Lib.hid (by rw [List.append_nil]; exact HO5.out), Lib.hid (by rw [List.append_nil]; exact HB5.out)⟩
  case round =>
    clear HO5 HL5 hs5 HB5
    obtain ⟨i, R', rfl, hi, hgk, HN, LL, OO, BB⟩ := hrel
    have hRl : R'.length ≤ 10000 := Nat.le_trans (len_sub R' (tot g) HN.out fun r hr => BB.out.len r (List.mem_append.2 (.inr hr))) (tot_len HG.out)
    obtain ⟨ao, cap, rfl, hc1, hc2, hx⟩ := OO.out.shape
    have HLN := Lib.hid (show (nxt g low ++ R').length = (nxt g low).length + R'.length from List.length_append)
    rw [HLN.out] at hc1 OO ⊢
    by_cases hlt : i < (nxt g low).length + R'.length
    · have zl : (i : Int) < ((nxt g low).length : Int) + (R'.length : Int) := by omega
      rcases hx with h0 | ⟨g3, rfl, hg3, hg4⟩
      · rw [h0] at HLN
        have := HLN.out
        simp at this
        omega
      obtain ⟨x, hx⟩ : ∃ x, x = (nxt g low ++ R')[i]'(by rw [HLN.out]; exact hlt) := ⟨_, rfl⟩
      have d0 := OO.out.cell encS_len i 0 (by rw [HLN.out]; exact hlt) (by omega)
      rw [← hx] at d0
      replace d0 : wr.cell? ⟨g3, i, none⟩ = some (.string x.s) := by
        have e : (encS x)[0]? = some (.string x.s) := rfl
        rw [e, Nat.mul_one, Nat.add_zero] at d0
        exact d0
      have HT := Lib.hid (BB.out.take (x := x) (by rw [List.getElem?_eq_getElem (by rw [HLN.out]; exact hlt), hx]))
      obtain ⟨p1, c1, N1⟩ := HNX.out x
      obtain ⟨y3, y4⟩ := N1.le
      have HNS := Lib.hid N1.row
      have HC := Lib.hid fun (W : World) (hl : Low wr W) => N1.run W (LU.out.trans (LL.out.trans hl))
      obtain ⟨b0, b1⟩ := HB.out wr LL.out
      clear hx N1
      go_upto_region 6 with fail
      have d0 := fun z : InL wr => z.cell d0
      have b0 := fun z : InL wr => z.cell b0
      have b1 := fun z : InL wr => z.cell b1
      have HCQ := Lib.hid fun z : InL wr => Calls.low z (HC.out z.w z.ok)
      haveI := InL.some wr
      refine wp_region_low mixedT (by kernel_rfl) ?_
      repeat (go_big_quiet_step (with_reducible exact HCQ.out _))
      refine wpQuiet_nil ?_
      rintro W8 ⟨p8, hW8⟩
      have l8 : Low wr W8 := by rw [hW8]; exact p8.ok
      have L8 := Lib.hid (LL.out.trans l8)
      have O8 := Lib.hid (OwnR.low OO.out l8)
      clear hW8 p8 HC HCQ d0 b0 b1 this l8 LL OO
      go_wp2_with fail
      rename World => wo
      go_loopg [9, 12] (nxt g x).length (fun gj vl vj wi => ∃ (j : Nat) (R2 : List Nm), vj = .int .i64 (j : Int) ∧ j ≤ (nxt g x).length ∧ (nxt g x).length - j ≤ gj ∧ Hid R2.Nodup ∧ Hid (Low U wi) ∧ Hid (OwnN U.heap.size wi vl (nxt g low ++ R2)) ∧ Hid (Bi g low (nxt g low ++ R2) (nxt g low ++ R2) i x j))
      case atStart => exact ⟨0, R', rfl, by omega, by omega, HN, L8, O8, HT⟩
      case round =>
        clear HN L8 O8 HT BB hRl HLN hi hlt zl hc1 hc2
        obtain ⟨j, R2, rfl, hj, hgj, HN, LL, OO, BB⟩ := hrel
        have hlR : R2.length ≤ 10000 := Nat.le_trans (len_sub R2 (tot g) HN.out fun r hr => BB.out.b.len r (List.mem_append.2 (.inr hr))) (tot_len HG.out)
        have HLN := Lib.hid (show (nxt g low ++ R2).length = (nxt g low).length + R2.length from List.length_append)
        have hiR : i < (nxt g low).length + R2.length := by have := (List.getElem?_eq_some_iff.1 BB.out.atx).1; rwa [HLN.out] at this
        obtain ⟨ao4, cap4, rfl, -, -, -⟩ := OO.out.shape
        rw [HLN.out] at OO ⊢
        by_cases hlt : j < (nxt g x).length
        · have zl : (j : Int) < ((nxt g x).length : Int) := by omega
          obtain ⟨yb, yo, rfl, e0⟩ := (HNS.out.low (LU.out.trans LL.out)).at hlt
          obtain ⟨y, hy⟩ : ∃ y, y = (nxt g x)[j] := ⟨_, rfl⟩
          rw [← hy] at e0
          have HY := Lib.hid hy.symm
          clear hy
          have HH := Lib.hid (rhas_c (nxt g low ++ R2) y wr _ (own_ns OO.out))
          by_cases hq : y ∈ nxt g low ++ R2
          · rw [decide_eq_true hq] at HH
            have HBN := Lib.hid (BB.out.old hlt HY.out hq)
            clear hq
            go_wp2_with fail
            refine HH.out.mono ?_
            rintro e w2 ⟨rfl, l2⟩
            have L2 := Lib.hid (LL.out.trans l2)
            have O2 := Lib.hid (OwnR.low OO.out l2)
            clear l2
            go_wp2_with fail
            go_roundg ((nxt g x).length - (j + 1))
            case measure => omega
            case rel => exact ⟨j + 1, R2, by go_num, by omega, by omega, HN, L2, O2, HBN⟩
          · rw [decide_eq_false hq] at HH
            have HBN := Lib.hid (BB.out.new hlt HY.out)
            have HNN := Lib.hid (show (R2 ++ [y]).Nodup by
              rw [List.nodup_append]
              refine ⟨HN.out, by simp, fun a ha d hd => ?_⟩
              simp at hd
              rw [hd]
              exact fun e => hq (List.mem_append.2 (.inr (e ▸ ha))))
            clear hq
            go_wp2_with fail
            refine HH.out.mono ?_
            rintro e w2 ⟨rfl, l2⟩
            have L2 := Lib.hid (LL.out.trans l2)
            have O2 := Lib.hid (OwnR.low OO.out l2)
            have e0 := l2.keep e0
            have hu2 : U.heap.size ≤ w2.heap.size := L2.out.size
            clear l2
            go_wp2_with (at_builtin; go_loud (refine appR rfl _ _ _ rfl Try.underlying30 s_info rfl (by decide) (by decide) encS_len encS_one U.heap.size _ (nxt g low ++ R2) rfl (OwnR.alloc O2.out _) y ⟨w2.heap.size, 0, none⟩ 1 rfl (fun j u hj => newcell_at _ _ _ _ _ rfl hj) (by rw [HLN.out]; omega) (by simp; omega) ?_); intro v5 w5 O5 B5 K5 N5)
            have HO5 := Lib.hid (show OwnN U.heap.size w5 v5 (nxt g low ++ (R2 ++ [y])) by rw [← List.append_assoc]; exact O5)
            have HL5 := Lib.hid (low_setN (low_new L2.out (.cells #[.string y.s] 9)) B5 (Nat.le_refl _))
            clear O5 B5 K5 N5
            go_roundg ((nxt g x).length - (j + 1))
            case measure => omega
            case rel => exact ⟨j + 1, R2 ++ [y], by go_num, by omega, by omega, HNN, HL5, HO5, Lib.hid (by rw [← List.append_assoc]; exact HBN.out)⟩
        · have zl : ¬ (j : Int) < ((nxt g x).length : Int) := by omega
          have HD := Lib.hid (BB.out.done (by omega))
          go_wp2_with fail
          go_roundg (20002 - (i + 1))
          case measure => omega
          case rel => exact ⟨i + 1, R2, by go_num, by omega, by omega, HN, LL, OO, HD⟩
    · have zl : ¬ (i : Int) < ((nxt g low).length : Int) + (R'.length : Int) := by omega
      have HF := Lib.hid (BB.out.fin (high := high) (by rw [HLN.out]; omega) (fun y hy => List.mem_append.2 (.inl hy)))
      have HH := Lib.hid (rhas_c (nxt g low ++ R') high wr _ (own_ns OO.out))
      obtain ⟨qq, hqq⟩ : ∃ qq, qq = ways g low high := ⟨_, rfl⟩
      have HQ := Lib.hid (show decide (high ∈ nxt g low ++ R') = qq by
        rw [hqq]
        exact ways_of (by rw [decide_eq_true_iff]; exact HF.out))
      rw [HQ.out] at HH
      have HQQ := Lib.hid hqq
      clear hqq
      go_wp2_with fail
      refine HH.out.mono ?_
      rintro e w2 ⟨rfl, l2⟩
      go_wp2_with fail
      go_ret
      exact ⟨retB HQQ.out, LU.out.trans (LL.out.trans l2)⟩
end Go.Proofs.Ytijjbfdbhfjfmaa
