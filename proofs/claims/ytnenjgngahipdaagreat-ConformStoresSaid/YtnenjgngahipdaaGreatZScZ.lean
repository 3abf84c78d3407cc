/- The law's bound on schemas: its yes says that a schema is small. No condition. -/
import Derived.Test.YtnenjgngahipdaaGreatZg11
import Derived.Test.YtnenjgngahipdaaGreatZg15
import Derived.Test.YtnenjgngahipdaaGreatZg09
import Derived.Test.YtnenjgngahipdaaGreatZg37
set_option linter.unusedVariables false
set_option linter.unusedSimpArgs false
set_option linter.unnecessarySimpa false
namespace Go.Proofs.YtnenjgngahipdaaGreat
open Go.RowKit
set_option linter.unusedVariables false
structure Sized (ts : List Et) (acs : List Ac) : Prop where
  t : ts.length ≤ 10
  a : acs.length ≤ 10
  ts : ∀ x ∈ ts, Sm 61 (recT x.ats) ∧ x.ins.length ≤ 10
  as' : ∀ x ∈ acs, Sm 61 (recT x.ats) ∧ x.ins.length ≤ 10 ∧ x.ps.length ≤ 10 ∧ x.rs.length ≤ 10
def SizedP (ts : List Et) (acs : List Ac) (w : World) (e : Ending) (w' : World) : Prop := ∃ b : Bool, e = .returned (.bool b) ∧ (b = true → Sized ts acs) ∧ Low w w'
theorem few12 {n : Nat} {w : World} {l : List At} {p : Option Addr} {c : Nat} (h : RAs (fun _ => True) w n l (.slice p l.length c)) : Calls Tryz.prog 9 #[.agg #[.int .i64 8, .string ⟨#[]⟩, .slice none 0 0, .slice p l.length c], .int .i64 0] w fun e w' => ∃ b : Bool, e = .returned (.bool b) ∧ (b = true → Sm 61 (recT l)) ∧ Low w w' := by
  refine (few_c (recT l) 0 w _ _ (by omega) (rec_rt h)).mono ?_
  rintro e w' ⟨b, rfl, hb, hl⟩
  exact ⟨b, rfl, fun h => (hb h).2, hl⟩
theorem size12 {n : Nat} {w : World} {l : List At} {p : Option Addr} {c : Nat} (h : RAs (fun _ => True) w n l (.slice p l.length c)) : Calls Tryz.prog 10 #[.agg #[.int .i64 8, .string ⟨#[]⟩, .slice none 0 0, .slice p l.length c]] w fun e w' => ∃ k : Int, e = .returned (.int .i64 k) ∧ Low w w' :=
  size_n (n + 1) (fun _ => True) (recT l) w _ _ (rec_rt h)
set_option maxRecDepth 100000 in
set_option maxHeartbeats 6400000 in
theorem sized_c (n : Nat) (ts : List Et) (acs : List Ac) (w : World) (vt va : Value) (h : EtsAt n w ts vt) (h2 : AcsAt n w acs va) : Calls Tryz.prog 16 #[.agg #[vt, va]] w (SizedP ts acs w) := by
  obtain ⟨p, c, rfl, z1, z2⟩ := RowB.sl h
  obtain ⟨p', c', rfl, z3, z4⟩ := RowB.sl h2
  obtain ⟨U, hU⟩ : ∃ U, U = w.alloc (.cells #[.slice p ts.length c, .slice p' acs.length c'] 46) := ⟨_, rfl⟩
  have LU := Lib.hid (show Low w U by rw [hU]; exact low_new (Low.refl w) _)
  have HB := Lib.hid fun (V : World) (hl : Low U V) => box2 (w := w) (wr := V) (c0 := .slice p ts.length c) (c1 := .slice p' acs.length c') (t := 46) (by rw [← hU]; exact hl)
  have HU := Lib.hid hU
  have HT := Lib.hid h
  have HA := Lib.hid h2
  clear h h2 hU
  obtain ⟨b0, b1⟩ := HB.out U (Low.refl U)
  go_enter Tryz.func16, Tryz.ntmps16
  go_upto_region 1 with fail
  rw [← HU.out]
  by_cases t10 : (10 : Int) < (ts.length : Int)
  · go_wp2_with fail
    go_ret
    exact ⟨false, rfl, by simp, LU.out⟩
  by_cases a10 : (10 : Int) < (acs.length : Int)
  · go_wp2_with fail
    go_ret
    exact ⟨false, rfl, by simp, LU.out⟩
  go_wp2_with fail
  clear b0 b1
  go_loopg [3] ts.length (fun gk vi wr => ∃ i : Nat, vi = .int .i64 (i : Int) ∧ i ≤ ts.length ∧ ts.length - i ≤ gk ∧ Hid (Low U wr) ∧ Hid (∀ j (hj : j < ts.length), j < i → Sm 61 (recT ts[j].ats) ∧ ts[j].ins.length ≤ 10))
  case atStart => exact ⟨0, rfl, Nat.zero_le _, Nat.le_refl _, Lib.hid (Low.refl U), Lib.hid fun j hj h => absurd h (Nat.not_lt_zero _)⟩
  case round =>
    obtain ⟨i, rfl, hi, hg, G, K⟩ := hrel
    obtain ⟨b0, b1⟩ := HB.out wr G.out
    by_cases hlt : i < ts.length
    · have zl : (i : Int) < (ts.length : Int) := by omega
      obtain ⟨b, o, pi, ci, pa, ca, hpp, e0, e1, e2, hns, hra, y1, y2, y3, y4⟩ := EtsAt.at (EtsAt.low HT.out (LU.out.trans G.out)) hlt
      obtain ⟨t, ht⟩ : ∃ t, t = ts[i] := ⟨_, rfl⟩
      rw [← ht] at e0 e1 e2 y1 y3 hra
      have HRA := Lib.hid hra
      have HTT := Lib.hid ht
      clear ht hra
      obtain ⟨W1, hW1⟩ : ∃ W1, W1 = wr.alloc (.cells #[.int .i64 8, .string ⟨#[]⟩, .slice none 0 0, .slice pa t.ats.length ca] 31) := ⟨_, rfl⟩
      have LW1 := Lib.hid (show Low wr W1 by rw [hW1]; exact low_new (Low.refl _) _)
      have HX := Lib.hid fun (V : World) (l2 : Low W1 V) => low_box (w := wr) (wr := V) (c0 := .int .i64 8) (c1 := .string ⟨#[]⟩) (c2 := .slice none 0 0) (c3 := .slice pa t.ats.length ca) (t := 31) (by rw [← hW1]; exact l2)
      have HF := Lib.hid (few12 (RAs.low HRA.out LW1.out))
      have HS := Lib.hid fun (V : World) (l2 : Low W1 V) => size12 (RAs.low HRA.out (LW1.out.trans l2))
      have HE := Lib.hid fun (V : World) (l2 : Low wr V) => (show V.cell? ⟨b, o + i * 3 + 1, none⟩ = some (.slice pi t.ins.length ci) from l2.keep e1)
      have HW1 := Lib.hid hW1
      subst hpp
      go_upto_region 7 with fail
      rw [← HW1.out]
      clear e0 e1 e2 hns b0 b1 hW1
      obtain ⟨x0, x1, x2, x3⟩ := HX.out W1 (Low.refl _)
      go_wp2_with fail
      refine HF.out.mono ?_
      rintro e w2 ⟨q, rfl, hq, l2⟩
      have HQ := Lib.hid hq
      have L2 := Lib.hid l2
      have L2U := Lib.hid (G.out.trans (LW1.out.trans l2))
      have HSS := Lib.hid (HS.out w2 l2)
      clear hq x0 x1 x2 x3 l2
      obtain ⟨x0, x1, x2, x3⟩ := HX.out w2 L2.out
      go_upto_region 8 with fail
      cases q with
      | false =>
        go_wp2_with fail
        go_ret
        exact ⟨false, rfl, by simp, LU.out.trans L2U.out⟩
      | true =>
        go_wp2_with fail
        refine HSS.out.mono ?_
        rintro e w3 ⟨k, rfl, l3⟩
        have L3U := Lib.hid (L2U.out.trans l3)
        have L3W := Lib.hid (LW1.out.trans (L2.out.trans l3))
        clear l3 x0 x1 x2 x3
        obtain ⟨b0, b1⟩ := HB.out w3 L3U.out
        have e1 := HE.out w3 L3W.out
        by_cases k100 : (100 : Int) < k
        · go_wp2_with fail
          go_ret
          exact ⟨false, rfl, by simp, LU.out.trans L3U.out⟩
        by_cases c_t_ins : (10 : Int) < (t.ins.length : Int)
        · go_wp2_with fail
          go_ret
          exact ⟨false, rfl, by simp, LU.out.trans L3U.out⟩
        have HK := Lib.hid (show Sm 61 (recT ts[i].ats) ∧ ts[i].ins.length ≤ 10 by rw [← HTT.out]; exact ⟨HQ.out (by first | rfl | trivial), by omega⟩)
        go_wp2_with fail
        go_roundg (ts.length - (i + 1))
        case measure => omega
        case rel =>
          refine ⟨i + 1, by go_num, by omega, by omega, L3U, Lib.hid fun j hj hji => ?_⟩
          rcases Nat.lt_succ_iff_lt_or_eq.1 hji with h | rfl
          · exact K.out j hj h
          · exact HK.out
    · have zl : ¬ (i : Int) < (ts.length : Int) := by omega
      have KT := Lib.hid (show ∀ j (hj : j < ts.length), Sm 61 (recT ts[j].ats) ∧ ts[j].ins.length ≤ 10 from fun j hj => K.out j hj (by omega))
      clear K
      go_wp2_with fail
      clear b0 b1 zl hlt hi hg
      go_loopg [6] acs.length (fun gk vi wr => ∃ i : Nat, vi = .int .i64 (i : Int) ∧ i ≤ acs.length ∧ acs.length - i ≤ gk ∧ Hid (Low U wr) ∧ Hid (∀ j (hj : j < acs.length), j < i → Sm 61 (recT acs[j].ats) ∧ acs[j].ins.length ≤ 10 ∧ acs[j].ps.length ≤ 10 ∧ acs[j].rs.length ≤ 10))
      case atStart => exact ⟨0, rfl, Nat.zero_le _, Nat.le_refl _, G, Lib.hid fun j hj h => absurd h (Nat.not_lt_zero _)⟩
      case round =>
        clear G
        obtain ⟨i, rfl, hi, hg, G, K⟩ := hrel
        obtain ⟨b0, b1⟩ := HB.out wr G.out
        by_cases hlt : i < acs.length
        · have zl : (i : Int) < (acs.length : Int) := by omega
          obtain ⟨b, o, pi, ci, pp, cp, pr, cr, pa, ca, hpp, e0, e1, e2, e3, e4, hns, hps, hrs, hra, ⟨y1, y2⟩, ⟨y3, y4⟩, ⟨y5, y6⟩, ⟨y7, y8⟩⟩ := AcsAt.at (AcsAt.low HA.out (LU.out.trans G.out)) hlt
          obtain ⟨t, ht⟩ : ∃ t, t = acs[i] := ⟨_, rfl⟩
          rw [← ht] at e0 e1 e2 e3 e4 y1 y3 y5 y7 hra
          have HRA := Lib.hid hra
          have HTT := Lib.hid ht
          clear ht hra
          obtain ⟨W1, hW1⟩ : ∃ W1, W1 = wr.alloc (.cells #[.int .i64 8, .string ⟨#[]⟩, .slice none 0 0, .slice pa t.ats.length ca] 31) := ⟨_, rfl⟩
          have LW1 := Lib.hid (show Low wr W1 by rw [hW1]; exact low_new (Low.refl _) _)
          have HX := Lib.hid fun (V : World) (l2 : Low W1 V) => low_box (w := wr) (wr := V) (c0 := .int .i64 8) (c1 := .string ⟨#[]⟩) (c2 := .slice none 0 0) (c3 := .slice pa t.ats.length ca) (t := 31) (by rw [← hW1]; exact l2)
          have HF := Lib.hid (few12 (RAs.low HRA.out LW1.out))
          have HS := Lib.hid fun (V : World) (l2 : Low W1 V) => size12 (RAs.low HRA.out (LW1.out.trans l2))
          have HE := Lib.hid fun (V : World) (l2 : Low wr V) => (show V.cell? ⟨b, o + i * 5 + 1, none⟩ = some (.slice pi t.ins.length ci) ∧ V.cell? ⟨b, o + i * 5 + 2, none⟩ = some (.slice pp t.ps.length cp) ∧ V.cell? ⟨b, o + i * 5 + 3, none⟩ = some (.slice pr t.rs.length cr) from ⟨l2.keep e1, l2.keep e2, l2.keep e3⟩)
          have HW1 := Lib.hid hW1
          subst hpp
          go_upto_region 14 with fail
          rw [← HW1.out]
          clear e0 e1 e2 e3 e4 hns hps hrs b0 b1 hW1
          obtain ⟨x0, x1, x2, x3⟩ := HX.out W1 (Low.refl _)
          go_wp2_with fail
          refine HF.out.mono ?_
          rintro e w2 ⟨q, rfl, hq, l2⟩
          have HQ := Lib.hid hq
          have L2 := Lib.hid l2
          have L2U := Lib.hid (G.out.trans (LW1.out.trans l2))
          have HSS := Lib.hid (HS.out w2 l2)
          clear hq x0 x1 x2 x3 l2
          obtain ⟨x0, x1, x2, x3⟩ := HX.out w2 L2.out
          go_upto_region 15 with fail
          cases q with
          | false =>
            go_wp2_with fail
            go_ret
            exact ⟨false, rfl, by simp, LU.out.trans L2U.out⟩
          | true =>
            go_wp2_with fail
            refine HSS.out.mono ?_
            rintro e w3 ⟨k, rfl, l3⟩
            have L3U := Lib.hid (L2U.out.trans l3)
            have L3W := Lib.hid (LW1.out.trans (L2.out.trans l3))
            clear l3 x0 x1 x2 x3
            obtain ⟨b0, b1⟩ := HB.out w3 L3U.out
            obtain ⟨e1, e2, e3⟩ := HE.out w3 L3W.out
            by_cases k100 : (100 : Int) < k
            · go_wp2_with fail
              go_ret
              exact ⟨false, rfl, by simp, LU.out.trans L3U.out⟩
            by_cases c_t_ins : (10 : Int) < (t.ins.length : Int)
            · go_wp2_with fail
              go_ret
              exact ⟨false, rfl, by simp, LU.out.trans L3U.out⟩
            by_cases c_t_ps : (10 : Int) < (t.ps.length : Int)
            · go_wp2_with fail
              go_ret
              exact ⟨false, rfl, by simp, LU.out.trans L3U.out⟩
            by_cases c_t_rs : (10 : Int) < (t.rs.length : Int)
            · go_wp2_with fail
              go_ret
              exact ⟨false, rfl, by simp, LU.out.trans L3U.out⟩
            have HK := Lib.hid (show Sm 61 (recT acs[i].ats) ∧ acs[i].ins.length ≤ 10 ∧ acs[i].ps.length ≤ 10 ∧ acs[i].rs.length ≤ 10 by rw [← HTT.out]; exact ⟨HQ.out (by first | rfl | trivial), by omega, by omega, by omega⟩)
            go_wp2_with fail
            go_roundg (acs.length - (i + 1))
            case measure => omega
            case rel =>
              refine ⟨i + 1, by go_num, by omega, by omega, L3U, Lib.hid fun j hj hji => ?_⟩
              rcases Nat.lt_succ_iff_lt_or_eq.1 hji with h | rfl
              · exact K.out j hj h
              · exact HK.out
        · have zl : ¬ (i : Int) < (acs.length : Int) := by omega
          have KA := Lib.hid (show ∀ j (hj : j < acs.length), Sm 61 (recT acs[j].ats) ∧ acs[j].ins.length ≤ 10 ∧ acs[j].ps.length ≤ 10 ∧ acs[j].rs.length ≤ 10 from fun j hj => K.out j hj (by omega))
          clear K
          go_wp2_with fail
          clear b0 b1 zl hlt hi hg
          go_ret
          refine ⟨true, rfl, fun _ => ⟨by omega, by omega, fun x hx => ?_, fun x hx => ?_⟩, LU.out.trans G.out⟩
          · obtain ⟨j, hj, rfl⟩ := List.getElem_of_mem hx
            exact KT.out j hj
          · obtain ⟨j, hj, rfl⟩ := List.getElem_of_mem hx
            exact KA.out j hj
end Go.Proofs.YtnenjgngahipdaaGreat
