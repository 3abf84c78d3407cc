/- The reference's Leads, ActionIn. Condition: not too many names. The reference's ActionIn, types, known, row. Conditions: not too many names; small types. -/
import Derived.Test.YtijjbfdbhfjfmaaScR
import Derived.BigQuiet
import Derived.Test.YtijjbfdbhfjfmaaScH
import Derived.Test.YtijjbfdbhfjfmaaTyB
namespace Go.Proofs.Ytijjbfdbhfjfmaa
open Go.RowKit
set_option linter.unusedVariables false
theorem own_ns {B : Nat} {w : World} {v : Value} {L : List Nm} (h : OwnN B w v L) : NsAt w L v := by
  obtain ⟨ao, cap, rfl, h1, h2, hx⟩ := h.shape
  refine ⟨ao, cap, rfl, ⟨h1, h2⟩, fun j hj => ?_⟩
  rcases hx with h0 | ⟨g3, rfl, -, -⟩
  · rw [h0] at hj; exact absurd hj (Nat.not_lt_zero _)
  · refine ⟨g3, 0, (), rfl, fun c u hu => ?_, trivial⟩
    have hc : c = 0 := by
      cases c with
      | zero => rfl
      | succ c => simp [encNm] at hu
    subst hc
    have := h.cell encS_len j 0 hj (by omega)
    rw [Nat.zero_add, Nat.add_zero]
    exact this.trans hu
theorem ns_src {w : World} {ys : List Nm} {p : Option Addr} {m c : Nat} (h : NsAt w ys (.slice p m c)) : ys = [] ∨ ∃ ad, p = some ad ∧ ∀ j u, (ys.flatMap encS)[j]? = some u → w.cell? (ad.add j) = some u := by
  cases ys with
  | nil => exact .inl rfl
  | cons y ys =>
    obtain ⟨b, o, rfl, -⟩ := h.at (j := 0) (by simp)
    refine .inr ⟨_, rfl, fun j u hu => ?_⟩
    have hj : j < (y :: ys).length := by
      have := (List.getElem?_eq_some_iff.1 hu).1
      rwa [flat_len encS_len, Nat.mul_one] at this
    obtain ⟨b2, o2, hb, hc⟩ := h.at hj
    simp only [Option.some.injEq, Addr.mk.injEq] at hb
    obtain ⟨rfl, rfl, -⟩ := hb
    have hf := flat_at encS_len (y :: ys) j 0 hj (by omega)
    rw [Nat.mul_one, Nat.add_zero, hu] at hf
    have hu2 : u = .string ((y :: ys)[j]).s := by simpa [encS] using hf
    rw [hu2, Addr.add_lit]
    exact hc
set_option maxRecDepth 100000 in
set_option maxHeartbeats 3200000 in
theorem rleads_c (g : Gra) (q : Bool) (low high : Nm) (w : World) (vt va : Value) (hg : FewG g) (HN : ∀ x, ∃ p c, NextC w g (.agg #[vt, va]) q x p c) : Calls Try.prog 18 #[.agg #[vt, va], .bool q, .string low.s, .string high.s] w fun e w' => e = .returned (.bool (ways g low high)) ∧ Low w w' := by
  obtain ⟨U, hU⟩ : ∃ U, U = w.alloc (.cells #[vt, va] 25) := ⟨_, rfl⟩
  have LU := Lib.hid (show Low w U by rw [hU]; exact low_new (Low.refl w) _)
  have HB := Lib.hid fun (W : World) (l2 : Low U W) => box2 (w := w) (wr := W) (c0 := vt) (c1 := va) (t := 25) (by rw [← hU]; exact l2)
  have hUs : w.heap.size + 1 = U.heap.size := by rw [hU]; simp
  have HU := Lib.hid hU
  have HNX := Lib.hid HN
  have HG := Lib.hid hg
  obtain ⟨p0, c0, N0⟩ := HN low
  have HN0 := Lib.hid N0
  have HR0 := Lib.hid (N0.run U LU.out)
  obtain ⟨y1, y2⟩ := N0.le
  clear HN hg hU N0
  obtain ⟨b0, b1⟩ := HB.out U (Low.refl U)
  go_enter Try.func18, Try.ntmps18
  go_upto_region 1 with fail
  rw [← HU.out]
  have hnl := nxt_len HG.out low
  go_wp2_with (first
    | (go_at_call 40; refine HR0.out.mono ?_; rintro e w1 ⟨rfl, l1⟩; have L1 := Lib.hid l1; clear l1)
    | (at_builtin; go_loud (refine appRs rfl _ _ _ rfl Try.underlying30 s_info rfl (by decide) (by decide) encS_len encS_one U.heap.size _ [] rfl (OwnR.nil _ _ _ _ _) (nxt g low) p0 c0 rfl (ns_src (HN0.out.row.low (LU.out.trans L1.out))) (by simp; omega) L1.out.size ?_); intro v5 w5 O5 B5 K5))
  have HO5 := Lib.hid (show OwnN U.heap.size w5 v5 (nxt g low) from O5)
  have HL5 := Lib.hid (low_setN L1.out B5 (Nat.le_refl _))
  have hs5 : U.heap.size ≤ w5.heap.size := HL5.out.size
  have HB5 := Lib.hid (show Bf g low (nxt g low) (nxt g low) 0 from ⟨fun r hr => .one hr, fun x hx => .inr hx, fun r hr => hr, by intro k x hk; omega⟩)
  clear O5 B5 K5 b0 b1
  go_loopg [9, 10] 20002 (fun gk vl vi wr => ∃ (i : Nat) (R' : List Nm), vi = .int .i64 (i : Int) ∧ i ≤ (nxt g low).length + R'.length ∧ 20002 - i ≤ gk ∧ Hid R'.Nodup ∧ Hid (Low U wr) ∧ Hid (OwnN U.heap.size wr vl (nxt g low ++ R')) ∧ Hid (Bf g low (nxt g low ++ R') (nxt g low ++ R') i))
  case atStart => exact ⟨0, [], rfl, by omega, by omega, Lib.hid List.nodup_nil, HL5, Lib.hid (by rw [List.append_nil]; exact HO5.out), Lib.hid (by rw [List.append_nil]; exact HB5.out)⟩
  case round =>
    clear HO5 HL5 hs5 HB5
    obtain ⟨i, R', rfl, hi, hgk, HN, LL, OO, BB⟩ := hrel
    have hRl : R'.length ≤ 10000 := Nat.le_trans (len_sub R' (tot g) HN.out fun r hr => BB.out.len r (List.mem_append.2 (.inr hr))) (tot_len HG.out)
    obtain ⟨ao, cap, rfl, hc1, hc2, hx⟩ := OO.out.shape
    have HLN := Lib.hid (show (nxt g low ++ R').length = (nxt g low).length + R'.length from List.length_append)
    rw [HLN.out] at hc1 OO ⊢
    by_cases hlt : i < (nxt g low).length + R'.length
    · have zl : (i : Int) < ((nxt g low).length : Int) + (R'.length : Int) := by omega
      rcases hx with h0 | ⟨g3, rfl, hg3, hg4⟩
      · rw [h0] at HLN
        have := HLN.out
        simp at this
        omega
      obtain ⟨x, hx⟩ : ∃ x, x = (nxt g low ++ R')[i]'(by rw [HLN.out]; exact hlt) := ⟨_, rfl⟩
      have d0 := OO.out.cell encS_len i 0 (by rw [HLN.out]; exact hlt) (by omega)
      rw [← hx] at d0
      replace d0 : wr.cell? ⟨g3, i, none⟩ = some (.string x.s) := by
        have e : (encS x)[0]? = some (.string x.s) := rfl
        rw [e, Nat.mul_one, Nat.add_zero] at d0
        exact d0
      have HT := Lib.hid (BB.out.take (x := x) (by rw [List.getElem?_eq_getElem (by rw [HLN.out]; exact hlt), hx]))
      obtain ⟨p1, c1, N1⟩ := HNX.out x
      obtain ⟨y3, y4⟩ := N1.le
      have HNS := Lib.hid N1.row
      have HC := Lib.hid fun (W : World) (hl : Low wr W) => N1.run W (LU.out.trans (LL.out.trans hl))
      obtain ⟨b0, b1⟩ := HB.out wr LL.out
      clear hx N1
      go_upto_region 6 with fail
      have d0 := fun z : InL wr => z.cell d0
      have b0 := fun z : InL wr => z.cell b0
      have b1 := fun z : InL wr => z.cell b1
      have HCQ := Lib.hid fun z : InL wr => Calls.low z (HC.out z.w z.ok)
      haveI := InL.some wr
      refine wp_region_low mixedT (by kernel_rfl) ?_
      repeat (go_big_quiet_step (with_reducible exact HCQ.out _))
      refine wpQuiet_nil ?_
      rintro W8 ⟨p8, hW8⟩
      have l8 : Low wr W8 := by rw [hW8]; exact p8.ok
      have L8 := Lib.hid (LL.out.trans l8)
      have O8 := Lib.hid (OwnR.low OO.out l8)
      clear hW8 p8 HC HCQ d0 b0 b1 this l8 LL OO
      go_wp2_with fail
      rename World => wo
      go_loopg [9, 12] (nxt g x).length (fun gj vl vj wi => ∃ (j : Nat) (R2 : List Nm), vj = .int .i64 (j : Int) ∧ j ≤ (nxt g x).length ∧ (nxt g x).length - j ≤ gj ∧ Hid R2.Nodup ∧ Hid (Low U wi) ∧ Hid (OwnN U.heap.size wi vl (nxt g low ++ R2)) ∧ Hid (Bi g low (nxt g low ++ R2) (nxt g low ++ R2) i x j))
      case atStart => exact ⟨0, R', rfl, by omega, by omega, HN, L8, O8, HT⟩
      case round =>
        clear HN L8 O8 HT BB hRl HLN hi hlt zl hc1 hc2
        obtain ⟨j, R2, rfl, hj, hgj, HN, LL, OO, BB⟩ := hrel
        have hlR : R2.length ≤ 10000 := Nat.le_trans (len_sub R2 (tot g) HN.out fun r hr => BB.out.b.len r (List.mem_append.2 (.inr hr))) (tot_len HG.out)
        have HLN := Lib.hid (show (nxt g low ++ R2).length = (nxt g low).length + R2.length from List.length_append)
        have hiR : i < (nxt g low).length + R2.length := by have := (List.getElem?_eq_some_iff.1 BB.out.atx).1; rwa [HLN.out] at this
        obtain ⟨ao4, cap4, rfl, -, -, -⟩ := OO.out.shape
        rw [HLN.out] at OO ⊢
        by_cases hlt : j < (nxt g x).length
        · have zl : (j : Int) < ((nxt g x).length : Int) := by omega
          obtain ⟨yb, yo, rfl, e0⟩ := (HNS.out.low (LU.out.trans LL.out)).at hlt
          obtain ⟨y, hy⟩ : ∃ y, y = (nxt g x)[j] := ⟨_, rfl⟩
          rw [← hy] at e0
          have HY := Lib.hid hy.symm
          clear hy
          have HH := Lib.hid (rhas_c (nxt g low ++ R2) y wr _ (own_ns OO.out))
          by_cases hq : y ∈ nxt g low ++ R2
          · rw [decide_eq_true hq] at HH
            have HBN := Lib.hid (BB.out.old hlt HY.out hq)
            clear hq
            go_wp2_with fail
            refine HH.out.mono ?_
            rintro e w2 ⟨rfl, l2⟩
            have L2 := Lib.hid (LL.out.trans l2)
            have O2 := Lib.hid (OwnR.low OO.out l2)
            clear l2
            go_wp2_with fail
            go_roundg ((nxt g x).length - (j + 1))
            case measure => omega
            case rel => exact ⟨j + 1, R2, by go_num, by omega, by omega, HN, L2, O2, HBN⟩
          · rw [decide_eq_false hq] at HH
            have HBN := Lib.hid (BB.out.new hlt HY.out)
            have HNN := Lib.hid (show (R2 ++ [y]).Nodup by
              rw [List.nodup_append]
              refine ⟨HN.out, by simp, fun a ha d hd => ?_⟩
              simp at hd
              rw [hd]
              exact fun e => hq (List.mem_append.2 (.inr (e ▸ ha))))
            clear hq
            go_wp2_with fail
            refine HH.out.mono ?_
            rintro e w2 ⟨rfl, l2⟩
            have L2 := Lib.hid (LL.out.trans l2)
            have O2 := Lib.hid (OwnR.low OO.out l2)
            have e0 := l2.keep e0
            have hu2 : U.heap.size ≤ w2.heap.size := L2.out.size
            clear l2
            go_wp2_with (at_builtin; go_loud (refine appR rfl _ _ _ rfl Try.underlying30 s_info rfl (by decide) (by decide) encS_len encS_one U.heap.size _ (nxt g low ++ R2) rfl (OwnR.alloc O2.out _) y ⟨w2.heap.size, 0, none⟩ 1 rfl (fun j u hj => newcell_at _ _ _ _ _ rfl hj) (by rw [HLN.out]; omega) (by simp; omega) ?_); intro v5 w5 O5 B5 K5 N5)
            have HO5 := Lib.hid (show OwnN U.heap.size w5 v5 (nxt g low ++ (R2 ++ [y])) by rw [← List.append_assoc]; exact O5)
            have HL5 := Lib.hid (low_setN (low_new L2.out (.cells #[.string y.s] 9)) B5 (Nat.le_refl _))
            clear O5 B5 K5 N5
            go_roundg ((nxt g x).length - (j + 1))
            case measure => omega
            case rel => exact ⟨j + 1, R2 ++ [y], by go_num, by omega, by omega, HNN, HL5, HO5, Lib.hid (by rw [← List.append_assoc]; exact HBN.out)⟩
        · have zl : ¬ (j : Int) < ((nxt g x).length : Int) := by omega
          have HD := Lib.hid (BB.out.done (by omega))
          go_wp2_with fail
          go_roundg (20002 - (i + 1))
          case measure => omega
          case rel => exact ⟨i + 1, R2, by go_num, by omega, by omega, HN, LL, OO, HD⟩
    · have zl : ¬ (i : Int) < ((nxt g low).length : Int) + (R'.length : Int) := by omega
      have HF := Lib.hid (BB.out.fin (high := high) (by rw [HLN.out]; omega) (fun y hy => List.mem_append.2 (.inl hy)))
      have HH := Lib.hid (rhas_c (nxt g low ++ R') high wr _ (own_ns OO.out))
      obtain ⟨qq, hqq⟩ : ∃ qq, qq = ways g low high := ⟨_, rfl⟩
      have HQ := Lib.hid (show decide (high ∈ nxt g low ++ R') = qq by
        rw [hqq]
        exact ways_of (by rw [decide_eq_true_iff]; exact HF.out))
      rw [HQ.out] at HH
      have HQQ := Lib.hid hqq
      clear hqq
      go_wp2_with fail
      refine HH.out.mono ?_
      rintro e w2 ⟨rfl, l2⟩
      go_wp2_with fail
      go_ret
      exact ⟨retB HQQ.out, LU.out.trans (LL.out.trans l2)⟩
end Go.Proofs.Ytijjbfdbhfjfmaa
namespace Go.Proofs.Ytijjbfdbhfjfmaa
open Go.RowKit
set_option linter.unusedVariables false
theorem ractin_c (n : Nat) (l : List Ac) (x y : Nm) (w : World) (vt va : Value) (hg : FewG (l.map Ac.r)) (h : AcsAt n w l va) : Calls Try.prog 20 #[.agg #[vt, va], .string x.s, .string y.s] w fun e w' => e = .returned (.bool (inB (l.map Ac.r) x y)) ∧ Low w w' := by
  obtain ⟨W, hW⟩ : ∃ W, W = w.alloc (.cells #[vt, va] 25) := ⟨_, rfl⟩
  have LW := Lib.hid (show Low w W by rw [hW]; exact low_new (Low.refl w) _)
  obtain ⟨c0, c1⟩ := box2 (w := w) (wr := W) (c0 := vt) (c1 := va) (t := 25) (by rw [hW]; exact Low.refl _)
  have HC := Lib.hid (rleads_c (l.map Ac.r) true x y W vt va hg fun z => rnextA n l z W vt va (h.low LW.out))
  have HW := Lib.hid hW
  by_cases he : x = y
  · have HQ := Lib.hid (show true = inB (l.map Ac.r) x y by unfold inB; rw [decide_eq_true he]; rfl)
    clear h hg hW HC
    go_enter Try.func20, Try.ntmps20
    go_upto_region 1 with fail
    rw [← HW.out]
    have he2 : x.s = y.s := by rw [he]
    clear he
    go_wp2_with fail
    go_ret
    exact ⟨retB HQ.out, LW.out⟩
  · obtain ⟨q, hq⟩ : ∃ q, q = ways (l.map Ac.r) x y := ⟨_, rfl⟩
    have HQ2 := Lib.hid (show q = inB (l.map Ac.r) x y by unfold inB; rw [decide_eq_false he, hq]; rfl)
    rw [← hq] at HC
    have he2 : ¬ x.s.toList = y.s.toList := fun h => he (Nm.ext' (tl_inj.1 h))
    have he3 : (x.s.toList == y.s.toList) = false := by simpa using he2
    clear h hg hW hq he
    go_enter Try.func20, Try.ntmps20
    go_upto_region 1 with fail
    rw [← HW.out]
    go_wp2_with fail
    refine HC.out.mono ?_
    rintro e w2 ⟨rfl, l2⟩
    go_wp2_with fail
    go_ret
    exact ⟨retB HQ2.out, LW.out.trans l2⟩
theorem knowsT (l : List Et) (x : Nm) : knows (l.map Et.r) x = decide (0 ≤ firstI l fun t => eqN x.s t.nm) := first_knows l Et.nm Et.r (fun _ => rfl) x
theorem knowsA (l : List Ac) (x : Nm) : knows (l.map Ac.r) x = decide (0 ≤ firstI l fun t => eqN x.s t.nm) := first_knows l Ac.nm Ac.r (fun _ => rfl) x
theorem firstI_ge {α : Type} (l : List α) (f : α → Bool) : -1 ≤ firstI l f ∧ firstI l f ≤ l.length := by
  rcases firstI_cases l f with ⟨i, hi, e, -⟩ | ⟨e, -⟩ <;> omega
set_option maxHeartbeats 1600000 in
theorem rtypes_c (n : Nat) (ts : List Et) (l : List Nm) (w : World) (vt va v : Value) (h : EtsAt n w ts vt) (hv : NsAt w l v) : Calls Try.prog 33 #[.agg #[vt, va], v] w fun e w' => e = .returned (.bool (l.all (knows (ts.map Et.r)))) ∧ Low w w' := by
  obtain ⟨p, c, rfl, z1, z2⟩ := RowB.sl hv
  obtain ⟨U, hU⟩ : ∃ U, U = w.alloc (.cells #[vt, va] 25) := ⟨_, rfl⟩
  have LU := Lib.hid (show Low w U by rw [hU]; exact low_new (Low.refl w) _)
  have HB := Lib.hid fun (W : World) (l2 : Low U W) => box2 (w := w) (wr := W) (c0 := vt) (c1 := va) (t := 25) (by rw [← hU]; exact l2)
  have HA := Lib.hid h
  have HV := Lib.hid hv
  have HU := Lib.hid hU
  obtain ⟨r, hr⟩ : ∃ r, r = l.all (knows (ts.map Et.r)) := ⟨_, rfl⟩
  have CS := Lib.hid (show ∀ i (hi : i < l.length), knows (ts.map Et.r) l[i] = false → false = r from fun i hi h1 => by
    rw [hr]; symm; rw [Bool.eq_false_iff]; intro h2
    have := List.all_eq_true.1 h2 _ (List.getElem_mem hi)
    rw [h1] at this; simp at this)
  have CN := Lib.hid (show (∀ j (hj : j < l.length), knows (ts.map Et.r) l[j] = true) → true = r from fun h2 => by
    rw [hr]; symm; rw [List.all_eq_true]
    intro x hx
    obtain ⟨j, hj, rfl⟩ := List.getElem_of_mem hx
    exact h2 j hj)
  rw [← hr]
  clear h hv hr hU
  go_enter Try.func33, Try.ntmps33
  go_upto_region 1 with fail
  rw [← HU.out]
  go_wp2_with fail
  go_loopg [5] l.length (fun gk vi wr => ∃ i : Nat, vi = .int .i64 (i : Int) ∧ i ≤ l.length ∧ l.length - i ≤ gk ∧ Hid (Low U wr) ∧ Hid (∀ j (hj : j < l.length), j < i → knows (ts.map Et.r) l[j] = true))
  case atStart => exact ⟨0, rfl, Nat.zero_le _, Nat.le_refl _, Lib.hid (Low.refl _), Lib.hid fun j hj h => absurd h (Nat.not_lt_zero _)⟩
  case round =>
    obtain ⟨i, rfl, hi, hg, G, K⟩ := hrel
    by_cases hlt : i < l.length
    · have zl : (i : Int) < (l.length : Int) := by omega
      obtain ⟨b0, b1⟩ := HB.out wr G.out
      obtain ⟨b, o, rfl, e0⟩ := (HV.out.low (LU.out.trans G.out)).at hlt
      obtain ⟨y, hy⟩ : ∃ y, y = l[i] := ⟨_, rfl⟩
      rw [← hy] at e0
      obtain ⟨z, hz⟩ : ∃ z, z = firstI ts (fun t => eqN y.s t.nm) := ⟨_, rfl⟩
      have HC := Lib.hid fun (V : World) (hl : Low wr V) => rtype_c n ts y.s V vt va (HA.out.low (LU.out.trans (G.out.trans hl)))
      rw [← hz] at HC
      have HK := Lib.hid (show knows (ts.map Et.r) l[i] = decide (0 ≤ z) by rw [← hy, knowsT, hz])
      have d0 := fun q : InL wr => q.cell e0
      have b0 := fun q : InL wr => q.cell b0
      have b1 := fun q : InL wr => q.cell b1
      have HCQ := Lib.hid fun q : InL wr => Calls.low q (HC.out q.w q.ok)
      haveI := InL.some wr
      clear hy hz HC e0
      by_cases h0 : z < 0
      · have HQ := Lib.hid (CS.out i hlt (by rw [HK.out, decide_eq_false (by omega)]))
        go_upto_region 4 with fail
        refine wp_region_low mixedT (by kernel_rfl) ?_
        repeat (go_big_quiet_step (with_reducible exact HCQ.out _))
        refine wpQuiet_nil ?_
        rintro W8 ⟨p8, hW8⟩
        have L8 := Lib.hid (show Low U W8 by rw [hW8]; exact G.out.trans p8.ok)
        clear hW8 p8 HCQ d0 b0 b1 this
        go_wp2_with fail
        go_ret
        exact ⟨retB HQ.out, LU.out.trans L8.out⟩
      · have HQ := Lib.hid (show knows (ts.map Et.r) l[i] = true by rw [HK.out, decide_eq_true (by omega)])
        go_upto_region 4 with fail
        refine wp_region_low mixedT (by kernel_rfl) ?_
        repeat (go_big_quiet_step (with_reducible exact HCQ.out _))
        refine wpQuiet_nil ?_
        rintro W8 ⟨p8, hW8⟩
        have L8 := Lib.hid (show Low U W8 by rw [hW8]; exact G.out.trans p8.ok)
        clear hW8 p8 HCQ d0 b0 b1 this
        go_wp2_with fail
        go_roundg (l.length - (i + 1))
        case measure => omega
        case rel =>
          refine ⟨i + 1, by go_num, by omega, by omega, L8, Lib.hid fun j hj hji => ?_⟩
          rcases Nat.lt_succ_iff_lt_or_eq.1 hji with h | rfl
          · exact K.out j hj h
          · exact HQ.out
    · have zl : ¬ (i : Int) < (l.length : Int) := by omega
      have HQ2 := Lib.hid (CN.out fun j hj => K.out j hj (by omega))
      go_wp2_with fail
      go_ret
      exact ⟨retB HQ2.out, LU.out.trans G.out⟩
/-- What known tells. -/
def knB (h : ByteArray → Bool) : Nat → T → Bool
  | 0, _ => false
  | n + 1, t => !(decide (t.k < 3)) && !(decide (t.k = 6) && !h t.n) && (t.l.all (knB h n) && t.ats.all fun a => knB h n (aty a))
def KnC (m : Nat) (ts : List Et) (n : Nat) : Prop := ∀ (t : T) (w : World) (vt va e v : Value), EtsAt m w ts vt → RT (fun _ => True) w n t e v → Calls Try.prog 49 #[.agg #[vt, va], tv t e v] w fun r w' => r = .returned (.bool (knB (nmB (ts.map Et.r)) n t)) ∧ Low w w'
theorem nmB_first (ts : List Et) (s : ByteArray) (hs : s.size ≤ 9223372036854775807) : nmB (ts.map Et.r) s = decide (0 ≤ firstI ts fun t => eqN s t.nm) := by
  have h1 := knowsT ts ⟨s, hs⟩
  have h2 := nmB_of (ts.map Et.r) ⟨s, hs⟩
  exact h2.trans h1
set_option maxRecDepth 100000 in
set_option maxHeartbeats 3200000 in
theorem known_n (m : Nat) (ts : List Et) (n : Nat) : KnC m ts n := by
  induction n with
  | zero => intro t w vt va e v _ h; exact h.elim
  | succ n ih =>
    intro t w vt va e v h hr
    obtain ⟨pe, ce, pv, cv, rfl, rfl, z1, z2, z3, z4⟩ := hr.sl
    obtain ⟨hs, hl, ha⟩ := rt_succ.1 hr
    obtain ⟨U0, hU0⟩ : ∃ U, U = w.alloc (.cells #[vt, va] 25) := ⟨_, rfl⟩
    obtain ⟨U, hU⟩ : ∃ U, U = U0.alloc (.cells #[.int .i64 t.k, .string t.n, .slice pe t.l.length ce, .slice pv t.ats.length cv] 55) := ⟨_, rfl⟩
    have s0 : U0.heap.size = w.heap.size + 1 := by rw [hU0]; simp
    have l0 : Low U0 U := by rw [hU]; exact low_new (Low.refl _) _
    have LU := Lib.hid (show Low w U from (by rw [hU0]; exact low_new (Low.refl w) _ : Low w U0).trans l0)
    have HB := Lib.hid fun (W : World) (l2 : Low U W) => box2 (w := w) (wr := W) (c0 := vt) (c1 := va) (t := 25) (by rw [← hU0]; exact l0.trans l2)
    have HT := Lib.hid fun (W : World) (l2 : Low U W) => (by rw [← s0]; exact low_box (w := U0) (wr := W) (c0 := .int .i64 t.k) (c1 := .string t.n) (c2 := .slice pe t.l.length ce) (c3 := .slice pv t.ats.length cv) (t := 55) (by rw [← hU]; exact l2) : W.cell? ⟨w.heap.size + 1, 0, none⟩ = some (.int .i64 t.k) ∧ W.cell? ⟨w.heap.size + 1, 1, none⟩ = some (.string t.n) ∧ W.cell? ⟨w.heap.size + 1, 2, none⟩ = some (.slice pe t.l.length ce) ∧ W.cell? ⟨w.heap.size + 1, 3, none⟩ = some (.slice pv t.ats.length cv))
    rw [hU0] at hU
    have HU := Lib.hid hU
    have HL := Lib.hid hl
    have HA := Lib.hid ha
    have IH := Lib.hid fun (t : T) (V : World) (e v : Value) (l2 : Low U V) (h1 : RT (fun _ => True) V n t e v) => ih t V vt va e v (h.low (LU.out.trans l2)) h1
    obtain ⟨z, hz⟩ : ∃ z, z = firstI ts (fun x => eqN t.n x.nm) := ⟨_, rfl⟩
    have HC := Lib.hid (rtype_c m ts t.n U vt va (h.low LU.out))
    rw [← hz] at HC
    obtain ⟨R, hR⟩ : ∃ R, R = knB (nmB (ts.map Et.r)) (n + 1) t := ⟨_, rfl⟩
    have HR := Lib.hid (show R = (!(decide (t.k < 3)) && !(decide (t.k = 6) && !(decide (0 ≤ z))) && (t.l.all (knB (nmB (ts.map Et.r)) n) && t.ats.all fun a => knB (nmB (ts.map Et.r)) n (aty a))) by rw [hR, knB, nmB_first ts t.n hs, hz])
    rw [← hR]
    obtain ⟨f, hf⟩ : ∃ f, f = knB (nmB (ts.map Et.r)) n := ⟨_, rfl⟩
    rw [← hf] at HR IH
    clear hf hr h hl ha hU hU0 s0 l0 ih hs hz hR
    unfold tv
    obtain ⟨b0, b1⟩ := HB.out U (Low.refl U)
    obtain ⟨t0, t1, t2, t3⟩ := HT.out U (Low.refl U)
    go_enter Try.func49, Try.ntmps49
    go_upto_region 1 with fail
    rw [← HU.out]
    by_cases k3 : t.k < 3
    · have HF := Lib.hid (show false = R by rw [HR.out, decide_eq_true k3]; rfl)
      clear HR
      go_wp2_with fail
      go_ret
      exact ⟨retB HF.out, LU.out⟩
    by_cases hbad : t.k = 6 ∧ z < 0
    · obtain ⟨k6, hz⟩ := hbad
      have HF := Lib.hid (show false = R by rw [HR.out, decide_eq_true k6, decide_eq_false (show ¬ 0 ≤ z by omega)]; simp)
      clear HR
      go_wp2_with fail
      refine HC.out.mono ?_
      rintro e w1 ⟨rfl, l1⟩
      go_wp2_with fail
      go_ret
      exact ⟨retB HF.out, LU.out.trans l1⟩
    · have HF := Lib.hid (show R = (t.l.all f && t.ats.all fun a => f (aty a)) by
        rw [HR.out, decide_eq_false k3]
        by_cases k6 : t.k = 6
        · rw [decide_eq_true k6, decide_eq_true (show 0 ≤ z by omega)]
          rfl
        · rw [decide_eq_false k6]; rfl)
      clear HR
      go_cut [2, 3, 4, 23] from 1 to 22 (fun s2 s3 s4 s23 wx => s2 = .pointer (some ⟨w.heap.size, 0, none⟩) ∧ s3 = .pointer (some ⟨w.heap.size + 1, 0, none⟩) ∧ s4 = .bool false ∧ s23 = .bool false ∧ Hid (Low U wx))
      case first =>
        by_cases k6 : t.k = 6
        · have hz : ¬ z < 0 := fun h => hbad ⟨k6, h⟩
          clear hbad
          go_wp2_with fail
          refine HC.out.mono ?_
          rintro e w1 ⟨rfl, l1⟩
          go_wp2_with fail
          go_meet
          exact ⟨rfl, rfl, rfl, by first | rfl | rw [decide_eq_false (by omega)], Lib.hid l1⟩
        · clear hbad
          go_wp2_with fail
          go_meet
          exact ⟨rfl, rfl, rfl, rfl, Lib.hid (Low.refl U)⟩
      case rest =>
        obtain ⟨rfl, rfl, rfl, rfl, L1⟩ := hcut
        clear HC b0 b1 t0 t1 t2 t3 k3 hbad HU
        obtain ⟨b0, b1⟩ := HB.out wc L1.out
        obtain ⟨t0, t1, t2, t3⟩ := HT.out wc L1.out
        have CS := Lib.hid (show ∀ i (hi : i < t.l.length), f t.l[i] = false → false = R from fun i hi h1 => by
          rw [HF.out]; symm; rw [Bool.and_eq_false_iff]; left
          rw [List.all_eq_false]
          exact ⟨_, List.getElem_mem hi, by rw [h1]; simp⟩)
        have CA := Lib.hid (show ∀ i (hi : i < t.ats.length), f (aty t.ats[i]) = false → false = R from fun i hi h1 => by
          rw [HF.out]; symm; rw [Bool.and_eq_false_iff]; right
          rw [List.all_eq_false]
          exact ⟨_, List.getElem_mem hi, by rw [h1]; simp⟩)
        have CN := Lib.hid (show (∀ j (hj : j < t.l.length), f t.l[j] = true) → (∀ j (hj : j < t.ats.length), f (aty t.ats[j]) = true) → true = R from fun h1 h2 => by
          rw [HF.out]; symm; rw [Bool.and_eq_true, List.all_eq_true, List.all_eq_true]
          refine ⟨fun x hx => ?_, fun x hx => ?_⟩
          · obtain ⟨j, hj, rfl⟩ := List.getElem_of_mem hx
            exact h1 j hj
          · obtain ⟨j, hj, rfl⟩ := List.getElem_of_mem hx
            exact h2 j hj)
        clear HF
        go_wp2_with fail
        go_loopg [5] t.l.length (fun gk vi wr => ∃ i : Nat, vi = .int .i64 (i : Int) ∧ i ≤ t.l.length ∧ t.l.length - i ≤ gk ∧ Hid (Low U wr) ∧ Hid (∀ j (hj : j < t.l.length), j < i → f t.l[j] = true))
        case atStart => exact ⟨0, rfl, Nat.zero_le _, Nat.le_refl _, L1, Lib.hid fun j hj h => absurd h (Nat.not_lt_zero _)⟩
        case round =>
          clear b0 b1 t0 t1 t2 t3 L1
          obtain ⟨i, rfl, hi, hg, G, K⟩ := hrel
          obtain ⟨b0, b1⟩ := HB.out wr G.out
          obtain ⟨t0, t1, t2, t3⟩ := HT.out wr G.out
          by_cases hlt : i < t.l.length
          · have zl : (i : Int) < (t.l.length : Int) := by omega
            obtain ⟨b, o, qe, de, qv, dv, rfl, -, e0, e1, e2, e3, hx⟩ := RL.at (RL.low HL.out (LU.out.trans G.out)) hlt
            have HC := Lib.hid fun (V : World) (l2 : Low wr V) => IH.out t.l[i] V _ _ (G.out.trans l2) (hx.low l2)
            unfold tv at HC
            obtain ⟨q, hq⟩ : ∃ q, q = f t.l[i] := ⟨_, rfl⟩
            rw [← hq] at HC
            have HQ := Lib.hid hq
            go_upto_region 6 with fail
            have b0 := fun q : InL wr => q.cell b0
            have b1 := fun q : InL wr => q.cell b1
            have t2 := fun q : InL wr => q.cell t2
            have e0 := fun q : InL wr => q.cell e0
            have e1 := fun q : InL wr => q.cell e1
            have e2 := fun q : InL wr => q.cell e2
            have e3 := fun q : InL wr => q.cell e3
            have HCQ := Lib.hid fun q : InL wr => Calls.low q (HC.out q.w q.ok)
            haveI := InL.some wr
            clear hx hq HC
            refine wp_region_low mixedT (by kernel_rfl) ?_
            repeat (go_big_quiet_step (with_reducible exact HCQ.out _))
            refine wpQuiet_nil ?_
            rintro W8 ⟨p8, hW8⟩
            have L8 := Lib.hid (show Low U W8 by rw [hW8]; exact G.out.trans p8.ok)
            clear hW8 p8 HCQ b0 b1 t0 t1 t2 t3 e0 e1 e2 e3 this
            cases q with
            | false =>
              have HF := Lib.hid (CS.out i hlt HQ.out.symm)
              go_wp2_with fail
              go_ret
              exact ⟨retB HF.out, LU.out.trans L8.out⟩
            | true =>
              go_wp2_with fail
              go_roundg (t.l.length - (i + 1))
              case measure => omega
              case rel =>
                refine ⟨i + 1, by go_num, by omega, by omega, L8, Lib.hid fun j hj hji => ?_⟩
                rcases Nat.lt_succ_iff_lt_or_eq.1 hji with h | rfl
                · exact K.out j hj h
                · exact HQ.out.symm
          · have zl : ¬ (i : Int) < (t.l.length : Int) := by omega
            have KL := Lib.hid (show ∀ j (hj : j < t.l.length), f t.l[j] = true from fun j hj => K.out j hj (by omega))
            clear K
            go_wp2_with fail
            go_loopg [7] t.ats.length (fun gk vi wr => ∃ i : Nat, vi = .int .i64 (i : Int) ∧ i ≤ t.ats.length ∧ t.ats.length - i ≤ gk ∧ Hid (Low U wr) ∧ Hid (∀ j (hj : j < t.ats.length), j < i → f (aty t.ats[j]) = true))
            case atStart => exact ⟨0, rfl, Nat.zero_le _, Nat.le_refl _, G, Lib.hid fun j hj h => absurd h (Nat.not_lt_zero _)⟩
            case round =>
              clear b0 b1 t0 t1 t2 t3 G hi hg zl hlt
              obtain ⟨i, rfl, hi, hg, G, K⟩ := hrel
              obtain ⟨b0, b1⟩ := HB.out wr G.out
              obtain ⟨t0, t1, t2, t3⟩ := HT.out wr G.out
              by_cases hlt : i < t.ats.length
              · have zl : (i : Int) < (t.ats.length : Int) := by omega
                obtain ⟨b, o, qe, de, qv, dv, rfl, -, d0, e0, e1, e2, e3, d5, -, hx⟩ := RAs.at (RAs.low HA.out (LU.out.trans G.out)) hlt
                have HC := Lib.hid fun (V : World) (l2 : Low wr V) => IH.out (aty t.ats[i]) V _ _ (G.out.trans l2) (hx.low l2)
                unfold tv at HC
                obtain ⟨q, hq⟩ : ∃ q, q = f (aty t.ats[i]) := ⟨_, rfl⟩
                rw [← hq] at HC
                have HQ := Lib.hid hq
                go_upto_region 12 with fail
                have b0 := fun q : InL wr => q.cell b0
                have b1 := fun q : InL wr => q.cell b1
                have t3 := fun q : InL wr => q.cell t3
                have e0 := fun q : InL wr => q.cell e0
                have e1 := fun q : InL wr => q.cell e1
                have e2 := fun q : InL wr => q.cell e2
                have e3 := fun q : InL wr => q.cell e3
                have HCQ := Lib.hid fun q : InL wr => Calls.low q (HC.out q.w q.ok)
                haveI := InL.some wr
                clear hx hq HC d0 d5
                refine wp_region_low mixedT (by kernel_rfl) ?_
                repeat (go_big_quiet_step (with_reducible exact HCQ.out _))
                refine wpQuiet_nil ?_
                rintro W8 ⟨p8, hW8⟩
                have L8 := Lib.hid (show Low U W8 by rw [hW8]; exact G.out.trans p8.ok)
                clear hW8 p8 HCQ b0 b1 t0 t1 t2 t3 e0 e1 e2 e3 this
                cases q with
                | false =>
                  have HF := Lib.hid (CA.out i hlt HQ.out.symm)
                  go_wp2_with fail
                  go_ret
                  exact ⟨retB HF.out, LU.out.trans L8.out⟩
                | true =>
                  go_wp2_with fail
                  go_roundg (t.ats.length - (i + 1))
                  case measure => omega
                  case rel =>
                    refine ⟨i + 1, by go_num, by omega, by omega, L8, Lib.hid fun j hj hji => ?_⟩
                    rcases Nat.lt_succ_iff_lt_or_eq.1 hji with h | rfl
                    · exact K.out j hj h
                    · exact HQ.out.symm
              · have zl : ¬ (i : Int) < (t.ats.length : Int) := by omega
                have HF := Lib.hid (CN.out KL.out fun j hj => K.out j hj (by omega))
                go_wp2_with fail
                go_ret
                exact ⟨retB HF.out, LU.out.trans G.out⟩
end Go.Proofs.Ytijjbfdbhfjfmaa
