/- The reference's Whole at two entities of one name: are they the same in all? No condition. What the reference's Store looks at, one by one, and what the whole answer is. No condition. -/
import Derived.Test.YtnenjgngahipdaaGreatZg12
import Derived.Test.YtnenjgngahipdaaGreatZg10
import Derived.Test.YtnenjgngahipdaaGreatZg25
set_option linter.unusedVariables false
set_option linter.unusedSimpArgs false
set_option linter.unnecessarySimpa false
namespace Go.Proofs.YtnenjgngahipdaaGreat
open Go.RowKit
set_option linter.unusedVariables false
theorem eqB_iff {a b : V} : eqB a b = true ↔ a = b := ⟨eqB_t, fun h => (eqB_true h).symm⟩
/-- Are two entities of one name the same? -/
noncomputable def wholeB (a b : En) : Bool := eqB a.a b.a && decide (a.ps = b.ps)
set_option maxHeartbeats 12800000 in
set_option maxRecDepth 100000 in
theorem rwhole1_c (x y : Ee) (w : World) (ra rb : Value) (hA : EtAt w ra [x]) (hB : EtAt w rb [y]) (hu : x.e.u = y.e.u) : Calls Tryz.prog 22 #[ra, rb] w fun e w' => e = .returned (.bool (wholeB x.e y.e)) ∧ Low w w' := by
  obtain ⟨ao, c, rfl, ⟨z1, z2⟩, -⟩ := EtAt.at hA
  obtain ⟨bo, d, rfl, ⟨z3, z4⟩, -⟩ := EtAt.at hB
  obtain ⟨b, o, rfl, h1, k1⟩ := et_at hA (j := 0) (by simp)
  obtain ⟨b', o', rfl, h2, k2⟩ := et_at hB (j := 0) (by simp)
  simp only [List.getElem_cons_zero, Nat.zero_mul, Nat.add_zero] at h1 h2 k1 k2
  have el1 : ([x] : List Ee).length = 1 := rfl
  have el2 : ([y] : List Ee).length = 1 := rfl
  rw [el1] at z1 ⊢
  rw [el2] at z3 ⊢
  have KX := Lib.hid k1
  have KY := Lib.hid k2
  have H1 := Lib.hid h1
  have H2 := Lib.hid h2
  obtain ⟨r, hr⟩ : ∃ r, r = wholeB x.e y.e := ⟨_, rfl⟩
  rw [← hr]
  obtain ⟨q, hq⟩ : ∃ q, q = eqB x.e.a y.e.a := ⟨_, rfl⟩
  have C0 := Lib.hid (show q = false → false = r from fun h => by rw [hr]; unfold wholeB; rw [← hq, h]; rfl)
  have C1 := Lib.hid (show ¬ x.e.ps.length = y.e.ps.length → false = r from fun h => by rw [hr]; unfold wholeB; rw [decide_eq_false fun e => h (congrArg List.length e), Bool.and_false])
  have C2 := Lib.hid (show ∀ i (h1 : i < x.e.ps.length) (h2 : i < y.e.ps.length), x.e.ps[i] ≠ y.e.ps[i] → false = r from fun i h1 h2 h => by rw [hr]; unfold wholeB; rw [decide_eq_false fun e => h (list_at e h1 h2), Bool.and_false])
  have C3 := Lib.hid (show q = true → x.e.ps.length = y.e.ps.length → (∀ i (h1 : i < x.e.ps.length) (h2 : i < y.e.ps.length), x.e.ps[i] = y.e.ps[i]) → true = r from fun h h1 h2 => by rw [hr]; unfold wholeB; rw [← hq, h, decide_eq_true (List.ext_getElem h1 h2)]; rfl)
  have HW := Lib.hid fun W (l : Low w W) => (whole_c x.e.a y.e.a) W _ _ _ _ (Rep.low k1.2 l) (Rep.low k2.2 l)
  have UA := Lib.hid k1.1.any
  have hx9 : x.e.ps.length ≤ 9223372036854775807 := by obtain ⟨_, _, hv, ⟨h3, h4⟩, -⟩ := k1.1.any; omega
  have UB := Lib.hid k2.1.any
  clear hA hB k1 k2 h1 h2 el1 el2 hr
  have qN : ∀ W, (binOp .neq 23 (.agg #[.string x.e.u.t, .string x.e.u.i]) (.agg #[.string y.e.u.t, .string y.e.u.i])).run Tryz.prog W = .ok (.bool false) W := fun W => by have h1 := us_neq x.e.u y.e.u W; rw [decide_eq_true hu] at h1; exact h1
  have HQN := Lib.hid qN
  clear qN hu
  go_enter Tryz.func22, Tryz.ntmps22
  go_wp2_with fail
  go_loopg [5] 1 (fun gk vi wr => ∃ j : Nat, vi = .int .i64 (j : Int) ∧ j ≤ 1 ∧ 1 - j ≤ gk ∧ Hid (Low w wr) ∧ Hid (j = 1 → true = r))
  case atStart => exact ⟨0, rfl, Nat.zero_le _, Nat.le_refl _, Lib.hid (Low.refl _), Lib.hid fun h => by simp at h⟩
  case round =>
    obtain ⟨j, rfl, hj, hg, G, K⟩ := hrel
    rcases Nat.eq_zero_or_pos j with rfl | hj0
    · obtain ⟨d0, d1, d2, d3, d4, d5, d6, d7, d8, d9, d10⟩ := ent11 (q := x) (G.out.cells H1.out)
      obtain ⟨e0, e1, e2, e3, e4, e5, e6, e7, e8, e9, e10⟩ := ent11 (q := y) (G.out.cells H2.out)
      have HC := Lib.hid fun p : InL wr => Calls.low p ((HW.out p.w (G.out.trans p.ok)).mono fun _ _ ⟨h, g⟩ => ⟨h, g.low⟩)
      rw [← hq] at HC
      unfold avv Ee.it Ee.nm at HC
      have d3 := fun p : InL wr => p.cell d3
      have d4 := fun p : InL wr => p.cell d4
      have d5 := fun p : InL wr => p.cell d5
      have d6 := fun p : InL wr => p.cell d6
      have d7 := fun p : InL wr => p.cell d7
      have d8 := fun p : InL wr => p.cell d8
      have d9 := fun p : InL wr => p.cell d9
      have d10 := fun p : InL wr => p.cell d10
      have e3 := fun p : InL wr => p.cell e3
      have e4 := fun p : InL wr => p.cell e4
      have e5 := fun p : InL wr => p.cell e5
      have e6 := fun p : InL wr => p.cell e6
      have e7 := fun p : InL wr => p.cell e7
      have e8 := fun p : InL wr => p.cell e8
      have e9 := fun p : InL wr => p.cell e9
      have e10 := fun p : InL wr => p.cell e10
      clear d0 d1 d2 e0 e1 e2
      have HQ2 := Lib.hid hq
      clear hq
      haveI := InL.some wr
      go_upto_region 6 with fail
      refine wp_region_low mixedT (by kernel_rfl) ?_
      repeat (go_big_quiet_step (with_reducible exact HC.out _))
      refine wpQuiet_nil ?_
      rintro W8 ⟨p8, hW8⟩
      have L8 := Lib.hid (show Low w W8 by rw [hW8]; exact G.out.trans p8.ok)
      clear hW8 p8 HC d3 d4 d5 d6 d7 d8 d9 d10 e3 e4 e5 e6 e7 e8 e9 e10 this
      have qN := HQN.out
      obtain ⟨d0, d1, d2, -⟩ := ent11 (q := x) (L8.out.cells H1.out)
      obtain ⟨e0, e1, e2, -⟩ := ent11 (q := y) (L8.out.cells H2.out)
      have d0 := fun p : InL W8 => p.cell d0
      have d1 := fun p : InL W8 => p.cell d1
      have d2 := fun p : InL W8 => p.cell d2
      have e0 := fun p : InL W8 => p.cell e0
      have e1 := fun p : InL W8 => p.cell e1
      have e2 := fun p : InL W8 => p.cell e2
      haveI := InL.some W8
      cases q with
      | false =>
        have HF := Lib.hid (C0.out rfl)
        go_upto_region 7 with fail
        refine wp_region_low mixedT (by kernel_rfl) ?_
        repeat (go_big_quiet_step (fail))
        refine wpQuiet_nil ?_
        rintro W9 ⟨p9, hW9⟩
        have L9 := Lib.hid (show Low w W9 by rw [hW9]; exact L8.out.trans p9.ok)
        clear hW9 p9 d0 d1 d2 e0 e1 e2 qN this
        go_wp2_with fail
        go_ret
        exact ⟨retB HF.out, L9.out⟩
      | true =>
        by_cases hlen : x.e.ps.length = y.e.ps.length
        case neg =>
          have HF := Lib.hid (C1.out hlen)
          have zn : ¬ (x.e.ps.length : Int) = (y.e.ps.length : Int) := by omega
          have zn2 : ((x.e.ps.length : Int) == (y.e.ps.length : Int)) = false := by simpa using zn
          clear hlen
          go_upto_region 7 with fail
          refine wp_region_low mixedT (by kernel_rfl) ?_
          repeat (go_big_quiet_step (fail))
          refine wpQuiet_nil ?_
          rintro W9 ⟨p9, hW9⟩
          have L9 := Lib.hid (show Low w W9 by rw [hW9]; exact L8.out.trans p9.ok)
          clear hW9 p9 d0 d1 d2 e0 e1 e2 qN this
          go_wp2_with fail
          go_ret
          exact ⟨retB HF.out, L9.out⟩
        case pos =>
          have HLN := Lib.hid hlen
          rw [← hlen] at e2
          clear hlen
          go_upto_region 7 with fail
          refine wp_region_low mixedT (by kernel_rfl) ?_
          repeat (go_big_quiet_step (fail))
          refine wpQuiet_nil ?_
          rintro W9 ⟨p9, hW9⟩
          have L9 := Lib.hid (show Low w W9 by rw [hW9]; exact L8.out.trans p9.ok)
          clear hW9 p9 d0 d1 d2 e0 e1 e2 qN this
          go_wp2_with fail
          rename World => w9
          go_loopg [7] x.e.ps.length (fun gj vj wr => ∃ k : Nat, vj = .int .i64 (k : Int) ∧ k ≤ x.e.ps.length ∧ x.e.ps.length - k ≤ gj ∧ Hid (Low w wr) ∧ Hid (∀ i (h1 : i < x.e.ps.length) (h2 : i < y.e.ps.length), i < k → x.e.ps[i] = y.e.ps[i]))
          case atStart => exact ⟨0, rfl, Nat.zero_le _, Nat.le_refl _, L9, Lib.hid fun i h1 h2 h => absurd h (Nat.not_lt_zero _)⟩
          case round =>
            clear L9 K G
            obtain ⟨k, rfl, hk, hgj, G, K⟩ := hrel
            obtain ⟨d0, d1, d2, -⟩ := ent11 (q := x) (G.out.cells H1.out)
            obtain ⟨e0, e1, e2, -⟩ := ent11 (q := y) (G.out.cells H2.out)
            rw [← HLN.out] at e2
            by_cases hlt : k < x.e.ps.length
            · have zl : (k : Int) < (x.e.ps.length : Int) := by omega
              have hlt' : k < y.e.ps.length := by rw [← HLN.out]; exact hlt
              have hua := UsAt.low UA.out G.out
              have hub := UsAt.low UB.out G.out
              unfold Sh.p Ee.sh at hua hub
              simp only at hua hub
              obtain ⟨pb, po, hp1, hc1⟩ := us_at hua hlt
              obtain ⟨pb', po', hp2, hc2⟩ := us_at hub hlt'
              rw [hp1] at d2
              rw [hp2] at e2
              obtain ⟨f0, f1⟩ := cells2 hc1
              obtain ⟨g0, g1⟩ := cells2 hc2
              have HX := Lib.hid (C2.out k hlt hlt')
              obtain ⟨X, hX⟩ : ∃ z, z = x.e.ps[k] := ⟨_, rfl⟩
              obtain ⟨Y, hY⟩ : ∃ z, z = y.e.ps[k] := ⟨_, rfl⟩
              rw [← hX] at f0 f1
              rw [← hY] at g0 g1
              have HXE := Lib.hid hX
              have HYE := Lib.hid hY
              have qM := fun W => us_neq X Y W
              clear hua hub hc1 hc2 hp1 hp2 hX hY d0 d1 e0 e1
              obtain ⟨z, hz⟩ : ∃ z, z = decide (X = Y) := ⟨_, rfl⟩
              rw [← hz] at qM
              have HZ := Lib.hid hz
              clear hz
              have d2p := fun p : InL wr => p.cell d2
              have e2p := fun p : InL wr => p.cell e2
              have f0p := fun p : InL wr => p.cell f0
              have f1p := fun p : InL wr => p.cell f1
              have g0p := fun p : InL wr => p.cell g0
              have g1p := fun p : InL wr => p.cell g1
              haveI := InL.some wr
              have hyl : (k : Int) < (y.e.ps.length : Int) := by omega
              go_upto_region 12 with fail
              refine wp_region_low mixedT (by kernel_rfl) ?_
              repeat (go_big_quiet_step (fail))
              refine wpQuiet_nil ?_
              rintro W9 ⟨p9, hW9⟩
              have L9 := Lib.hid (show Low w W9 by rw [hW9]; exact G.out.trans p9.ok)
              clear hW9 p9 d2 e2 f0 f1 g0 g1 d2p e2p f0p f1p g0p g1p qM this
              cases z with
              | false =>
                have HF := Lib.hid (HX.out (by rw [← HXE.out, ← HYE.out]; exact of_decide_eq_false HZ.out.symm))
                go_wp2_with fail
                go_ret
                exact ⟨retB HF.out, L9.out⟩
              | true =>
                go_wp2_with fail
                go_roundg (x.e.ps.length - (k + 1))
                case measure => omega
                case rel =>
                  refine ⟨k + 1, by go_num, by omega, by omega, L9, Lib.hid fun j h1 h2 hji => ?_⟩
                  rcases Nat.lt_succ_iff_lt_or_eq.1 hji with h | rfl
                  · exact K.out j h1 h2 h
                  · rw [← HXE.out, ← HYE.out]; exact of_decide_eq_true HZ.out.symm
            · have zl : ¬ (k : Int) < (x.e.ps.length : Int) := by omega
              have HF := Lib.hid (C3.out (by first | rfl | trivial) HLN.out fun i h1 h2 => K.out i h1 h2 (by omega))
              go_wp2_with fail
              go_roundg 0
              case measure => omega
              case rel => exact ⟨1, by go_num, by omega, by omega, G, Lib.hid fun _ => HF.out⟩
    · obtain rfl : j = 1 := by omega
      have HF := Lib.hid (K.out rfl)
      go_wp2_with fail
      go_ret
      exact ⟨retB HF.out, G.out⟩
end Go.Proofs.YtnenjgngahipdaaGreat
namespace Go.Proofs.YtnenjgngahipdaaGreat
open Go.RowKit
set_option linter.unusedVariables false
theorem slice1E (W : World) (b o n c i : Nat) (h : i < n) (hc : n ≤ c) :
    (Instr.slice 47 (.slice (some ⟨b, o, none⟩) n c) (some (.int .i64 (i : Int))) (some (.int .i64 ((i : Int) + 1))) none).run Tryz.prog W = .ok (.slice (some ⟨b, o + i * 11, none⟩) 1 (c - i)) W := by
  have ht : Tryz.prog.underlying 47 = some (.slice (Tryz.prog.elem 47)) := by kernel_rfl
  have h1 := run_slice_lh (P := Tryz.prog) (w := W) 47 (some ⟨b, o, none⟩) n c ht .i64 .i64 (i : Int) ((i : Int) + 1) (by omega) (by omega) (by omega)
  rw [h1]
  have e1 : ((i : Int) + 1).toNat = i + 1 := by omega
  have e2 : (i : Int).toNat = i := by omega
  rw [e1, e2]
  have h2 := Tryz.sizeOf71 W
  change ((sizeOf (Tryz.prog.elem 47)).run Tryz.prog W).andThen _ = _
  have h3 : Tryz.prog.elem 47 = 71 := by kernel_rfl
  rw [h3, h2]
  simp [Result.andThen, sliced, Addr.add]
  rw [if_neg (by omega)]
  by_cases h0 : i = 0
  · subst h0; simp
  · rw [if_neg (by omega)]
theorem sub_et {w : World} {b o c : Nat} {rs : List Ee} (h : EtAt w (.slice (some ⟨b, o, none⟩) rs.length c) rs) {i : Nat} (hi : i < rs.length) (c' : Nat) (hc : 1 ≤ c') (hc9 : c' ≤ 9223372036854775807) : EtAt w (.slice (some ⟨b, o + i * 11, none⟩) 1 c') [rs[i]] := by
  obtain ⟨b', o', he, h1, h2⟩ := et_at h hi
  simp only [Option.some.injEq, Addr.mk.injEq] at he
  obtain ⟨rfl, rfl, -⟩ := he
  refine ⟨⟨some ⟨b, o + i * 11, none⟩, c', rfl, ⟨hc, hc9⟩, fun j hj => ?_⟩, fun q hq => ?_⟩
  · obtain rfl : j = 0 := by simp at hj; omega
    refine ⟨b, o + i * 11, rfl, ?_⟩
    rw [Nat.zero_mul, Nat.add_zero]
    exact h1
  · simp at hq; subst hq; exact h2
theorem sameB_iff {a b : En} (ha : Cn a.a) (hb : Cn b.a) : sameB a b = true ↔ a = b := by
  unfold sameB
  rw [Bool.and_eq_true, Bool.and_eq_true, decide_eq_true_iff, decide_eq_true_iff]
  constructor
  · rintro ⟨h1, h2, h3⟩
    have h4 : a.a = b.a := ord_zero ha hb (by simpa using h3)
    cases a; cases b
    simp only at h1 h2 h4
    subst h1 h2 h4
    rfl
  · rintro rfl
    exact ⟨rfl, rfl, ord_same⟩
theorem sameL_iff : ∀ {l m : List En}, (∀ e ∈ l, Cn e.a) → (∀ e ∈ m, Cn e.a) → (sameL l m = true ↔ l = m)
  | [], [], _, _ => by simp [sameL]
  | [], _ :: _, _, _ => by simp [sameL]
  | _ :: _, [], _, _ => by simp [sameL]
  | a :: l, b :: m, h, k => by
    rw [sameL, Bool.and_eq_true, sameB_iff (h a (by simp)) (k b (by simp)), sameL_iff (fun e he => h e (by simp [he])) fun e he => k e (by simp [he])]
    simp
theorem wholeB_iff {a b : En} (hu : a.u = b.u) : wholeB a b = true ↔ a = b := by
  unfold wholeB
  rw [Bool.and_eq_true, decide_eq_true_iff, eqB_iff]
  constructor
  · rintro ⟨h1, h2⟩
    cases a; cases b
    simp only at h1 h2 hu
    subst h1 h2 hu
    rfl
  · rintro rfl
    exact ⟨rfl, rfl⟩
/-- What is asked of each entity. -/
def goodE (n : Nat) (ts : List Et) (AS : List En) (e : En) : Prop := if isAct e = true then e ∈ AS else standB n ts e = true
structure StoreF (n : Nat) (ts : List Et) (CS AS : List En) (r : Int) : Prop where
  bad : ∀ e ∈ CS, ¬ goodE n ts AS e → 41 = r
  less : (CS.filter isAct).length ≠ AS.length → 41 = r
  good : (∀ e ∈ CS, goodE n ts AS e) → (CS.filter isAct).length = AS.length → 0 = r
theorem canE_rises {l : List En} (h : (canE canD l).1 = 0) : Rises cmpE (canE canD l).2 ∧ (namesE (canE canD l).2).Nodup := by
  obtain ⟨h1, h2, -⟩ := canE_okk h
  have h3 : (namesE (l.map (oneE canD))).Nodup := by
    have : namesE (l.map (oneE canD)) = namesE l := by unfold namesE; rw [List.map_map]; rfl
    rw [this]; exact h2
  rw [h1]
  have hr := rise_en h3
  refine ⟨hr, ?_⟩
  unfold namesE
  rw [List.nodup_iff_pairwise_ne, List.pairwise_map]
  exact hr.imp fun {a b} hab e => by
    have h4 : cmpE a b = 0 := by unfold cmpE; rw [e]; exact good_us.refl trivial
    omega
theorem store_f {n : Nat} {ts : List Et} {acs : List Ac} {es : List En} (h1 : (canE canD es).1 = 0) (h2 : (canE canD (actsE acs)).1 = 0) : StoreF n ts (canE canD es).2 (canE canD (actsE acs)).2 (storeS n ts acs es) := by
  have hcs : ∀ e ∈ (canE canD es).2, Cn e.a := fun e he => canE_cn h1 he
  have has : ∀ e ∈ (canE canD (actsE acs)).2, Cn e.a := fun e he => canE_cn h2 he
  obtain ⟨r1, n1⟩ := canE_rises h1
  obtain ⟨r2, n2⟩ := canE_rises h2
  have hdef : storeS n ts acs es = if (sameL ((canE canD es).2.filter isAct) (canE canD (actsE acs)).2 && ((canE canD es).2.filter fun e => !isAct e).all (standB n ts)) = true then 0 else 41 := by unfold storeS; rw [if_pos h1]
  obtain ⟨CS, hCS⟩ : ∃ x, x = (canE canD es).2 := ⟨_, rfl⟩
  obtain ⟨AS, hAS⟩ : ∃ x, x = (canE canD (actsE acs)).2 := ⟨_, rfl⟩
  rw [hdef]
  rw [← hCS] at hcs r1 n1 ⊢
  rw [← hAS] at has r2 n2 ⊢
  clear hdef
  have hfc : ∀ e ∈ CS.filter isAct, Cn e.a := fun e he => hcs e (List.mem_filter.1 he).1
  have hcond : (sameL (CS.filter isAct) AS && (CS.filter fun e => !isAct e).all (standB n ts)) = true ↔ CS.filter isAct = AS ∧ ∀ e ∈ CS, isAct e = false → standB n ts e = true := by
    rw [Bool.and_eq_true, sameL_iff hfc has, List.all_eq_true]
    constructor
    · rintro ⟨a, b⟩; exact ⟨a, fun e he ha => b e (List.mem_filter.2 ⟨he, by simp [ha]⟩)⟩
    · rintro ⟨a, b⟩; exact ⟨a, fun e he => b e (List.mem_filter.1 he).1 (by simpa using (List.mem_filter.1 he).2)⟩
  refine ⟨fun e he hg => ?_, fun hl => ?_, fun hg hl => ?_⟩
  · rw [if_neg]
    intro h
    obtain ⟨a, b⟩ := hcond.1 h
    refine hg ?_
    unfold goodE
    by_cases hi : isAct e = true
    · rw [if_pos hi, ← a]
      exact List.mem_filter.2 ⟨he, hi⟩
    · rw [if_neg hi]
      exact b e he (by simpa using hi)
  · rw [if_neg]
    intro h
    exact hl (congrArg List.length (hcond.1 h).1)
  · rw [if_pos]
    refine hcond.2 ⟨?_, fun e he hi => ?_⟩
    · have hsub : ∀ e ∈ CS.filter isAct, e ∈ AS := fun e he => by
        obtain ⟨h3, h4⟩ := List.mem_filter.1 he
        have := hg e h3
        unfold goodE at this
        rwa [if_pos h4] at this
      have hr : Rises cmpE (CS.filter isAct) := r1.filter _
      have nd : ∀ {l : List En}, Rises cmpE l → l.Nodup := fun h => by
        rw [List.nodup_iff_pairwise_ne]
        exact h.imp fun {a b} hab e => by
          have h4 : cmpE a b = 0 := by rw [e]; exact good_en.refl trivial
          omega
      refine en_unique hr r2 fun z => ⟨hsub z, fun hz => ?_⟩
      refine Classical.byContradiction fun hn => ?_
      have h5 : (CS.filter isAct).length + 1 ≤ AS.length := by
        have h6 : (z :: CS.filter isAct).Nodup := List.nodup_cons.2 ⟨hn, nd hr⟩
        have h7 := @sub_len En (fun a b => Classical.propDecidable (a = b)) _ AS h6 fun e he => by
          rcases List.mem_cons.1 he with rfl | h
          · exact hz
          · exact hsub e h
        simpa using h7
      omega
    · have := hg e he
      unfold goodE at this
      rwa [if_neg (by simp [hi])] at this
/-- Of one name there is one entity. -/
theorem one_name {AS : List En} (h : (namesE AS).Nodup) {a b : En} (ha : a ∈ AS) (hb : b ∈ AS) (hu : a.u = b.u) : a = b := by
  have h1 := fst_of h ha
  have h2 := fst_of h hb
  rw [hu, h2] at h1
  exact (Option.some.inj h1).symm
end Go.Proofs.YtnenjgngahipdaaGreat
