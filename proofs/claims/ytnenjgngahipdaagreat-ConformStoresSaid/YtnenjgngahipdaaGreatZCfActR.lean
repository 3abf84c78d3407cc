/- The reference's Actions: a schema's actions as entities. Condition: no more than 1000 actions, of no more than 1000 above each. -/
import Derived.Test.YtnenjgngahipdaaGreatZg15
import Derived.Test.YtnenjgngahipdaaGreatZg22
import Derived.Deep.RegionLawGrows
import Derived.Deep.RegionWith
set_option linter.unusedVariables false
set_option linter.unusedSimpArgs false
set_option linter.unnecessarySimpa false
namespace Go.Proofs.YtnenjgngahipdaaGreat
open Go.RowKit
set_option linter.unusedVariables false
set_option maxHeartbeats 12800000 in
set_option maxRecDepth 100000 in
theorem racts_c (n : Nat) (acs : List Ac) (w : World) (vt va : Value) (hl : acs.length ≤ 1000) (hin : ∀ a ∈ acs, a.ins.length ≤ 1000) (h : AcsAt n w acs va) : Calls Tryz.prog 23 #[.agg #[vt, va]] w (ActsP acs w) := by
  obtain ⟨p, c, rfl, z1, z2⟩ := RowB.sl h
  obtain ⟨U, hU⟩ : ∃ U, U = w.alloc (.cells #[vt, .slice p acs.length c] 46) := ⟨_, rfl⟩
  have LU := Lib.hid (show Low w U by rw [hU]; exact low_new (Low.refl w) _)
  have BS := Lib.hid (BoxAt.made (cs := [vt, .slice p acs.length c]) hU rfl rfl)
  have hUs : U.heap.size = w.heap.size + 1 := by rw [hU]; simp
  have HU := Lib.hid hU
  have HA := Lib.hid h
  have HIN := Lib.hid hin
  have HEQ := Lib.hid (show ∀ (x : Ac) (ap : Option Addr) (cq j : Nat) (u : Value), (encE (⟨actE x, ap, cq, none, 0, none, 0⟩ : Ee))[j]? = some u → ([.string actNm, .string x.nm.s, .slice ap x.ins.length cq, .int .i64 6, .bool false, .int .i64 0, .string ⟨#[]⟩, .string ⟨#[]⟩, .string ⟨#[]⟩, .slice none 0 0, .slice none 0 0] : List Value)[j]? = some u from fun x ap cq j u hj => by simpa [encE, Sh.cs, Ee.sh, actE, recV, uAct, V.h, V.l, V.ns, hd0] using hj)
  clear hU h hin
  go_enter Tryz.func23, Tryz.ntmps23
  go_upto_region 1 with fail
  rw [← HU.out]
  clear HU
  have g1 := BS.out.at 1 _ rfl
  go_wp2_with fail
  go_loopg [3, 4] acs.length (fun gk vs vi wr => ∃ (vo : Value) (i : Nat) (rs : List Ee), vo = vs ∧ vi = .int .i64 (i : Int) ∧ i ≤ acs.length ∧ acs.length - i ≤ gk ∧ Hid (Low U wr) ∧ Hid (OwnE (w.heap.size + 1) wr vo rs) ∧ Hid (ensOf rs = actsE (acs.take i)) ∧ Hid (∀ p ∈ rs, EeOk (fun b => some b ≠ vo.ownBlock) wr p))
  case atStart => exact ⟨_, 0, [], rfl, rfl, Nat.zero_le _, Nat.le_refl _, Lib.hid (Low.refl _), Lib.hid (OwnR.nil _ _ _ _ _), Lib.hid rfl, Lib.hid fun p hp => by simp at hp⟩
  case round =>
    clear g1
    obtain ⟨vo, i, rs, rfl, rfl, hi, hg, LL, OO, EE, KK⟩ := hrel
    have g1 := (BS.out.low LL.out).at 1 _ rfl
    by_cases hlt : i < acs.length
    · have zl : (i : Int) < (acs.length : Int) := by omega
      obtain ⟨b, o, pi, ci, pp, cp, pr, cr, pa, ca, rfl, e0, e1, e2, e3, e4, hns, -, -, -, ⟨y1, y2⟩, -, -, -⟩ := AcsAt.at (AcsAt.low HA.out (LU.out.trans LL.out)) hlt
      have hx9 := HIN.out acs[i] (List.getElem_mem hlt)
      have hsn := acts_snoc hlt
      obtain ⟨x, hx⟩ : ∃ x, x = acs[i] := ⟨_, rfl⟩
      rw [← hx] at e0 e1 e2 e3 e4 hns y1 hx9 hsn
      have HX := Lib.hid hx
      clear hx
      have HNS := Lib.hid hns
      have HSN := Lib.hid hsn
      have HRL := Lib.hid (show rs.length = i by
        have := congrArg List.length EE.out
        unfold ensOf actsE at this
        simp at this
        omega)
      clear hns hsn
      obtain ⟨w1, hw1⟩ : ∃ W, W = wr := ⟨_, rfl⟩
      have L1 := Lib.hid (show Low wr w1 by rw [hw1]; exact Low.refl _)
      go_upto_region 6 with fail
      refine gen_w (P := fun W => Code.wp _ _ _ _ W) (fun V1 hV1 => ?_)
      rw [← hw1] at hV1
      have HRW := Lib.hid (show Low w1 V1 by rw [hV1]; exact low_new (Low.refl _) _)
      obtain ⟨bx, hbx⟩ : ∃ bx, bx = w1.heap.size := ⟨_, rfl⟩
      have BE := Lib.hid (BoxAt.made (cs := [.string actNm, .string x.nm.s, .slice none 0 0, .int .i64 6, .bool false, .int .i64 0, .string ⟨#[]⟩, .string ⟨#[]⟩, .string ⟨#[]⟩, .slice none 0 0, .slice none 0 0]) hV1 hbx.symm rfl)
      rw [← hw1, ← hbx]
      have HBX := Lib.hid hbx
      clear hV1 hbx
      have HW1 := Lib.hid hw1
      clear hw1 e0 e1 e2 e3 e4 g1
      have BSL := Lib.hid ((BS.out.low LL.out).low L1.out)
      go_wp2_with fail
      go_loopg [6] x.ins.length (fun gj vj wi => ∃ (j : Nat) (ap : Option Addr) (cq : Nat), vj = .int .i64 (j : Int) ∧ j ≤ x.ins.length ∧ x.ins.length - j ≤ gj ∧ Hid (Low w1 wi) ∧ Hid (BoxAt wi bx [.string actNm, .string x.nm.s, .slice ap j cq, .int .i64 6, .bool false, .int .i64 0, .string ⟨#[]⟩, .string ⟨#[]⟩, .string ⟨#[]⟩, .slice none 0 0, .slice none 0 0]) ∧ Hid (OwnU (bx + 1) wi (.slice ap j cq) ((x.ins.take j).map uAct)))
      case atStart => exact ⟨0, none, 0, rfl, Nat.zero_le _, Nat.le_refl _, HRW, BE, Lib.hid (OwnR.nil _ _ _ _ _)⟩
      case round =>
        clear HRW BE
        rename World => wj
        obtain ⟨j, ap, cq, rfl, hj, hgj, LI, BI, OI⟩ := hrel
        have LWI := Lib.hid (LL.out.trans (L1.out.trans LI.out))
        have g1 := (BSL.out.low LI.out).at 1 _ rfl
        obtain ⟨b, o, pi, ci, pp, cp, pr, cr, pa, ca, hpp, e0, e1, e2, e3, e4, hns, -, -, -, -, -, -, -⟩ := AcsAt.at (AcsAt.low HA.out (LU.out.trans LWI.out)) hlt
        rw [← HX.out] at e0 e1 hns
        simp only [Option.some.injEq, Addr.mk.injEq] at hpp
        obtain ⟨rfl, rfl, -⟩ := hpp
        have HNJ := Lib.hid hns
        clear hns e0 e2 e3 e4
        by_cases hjt : j < x.ins.length
        · have zj : (j : Int) < (x.ins.length : Int) := by omega
          obtain ⟨nb, no, hnp, d0⟩ := NsAt.at (HNJ.out) hjt
          have hus := us_snoc hjt
          obtain ⟨y, hy⟩ : ∃ y, y = x.ins[j] := ⟨_, rfl⟩
          rw [← hy] at d0 hus
          have HUS := Lib.hid hus
          clear hy hus
          obtain ⟨L, hL⟩ : ∃ L, L = (x.ins.take j).map uAct := ⟨_, rfl⟩
          have hLl : L.length = j := by rw [hL]; simp; omega
          rw [← hL] at OI HUS
          clear hL
          have hbl := BI.out.lt
          subst hnp
          go_upto_region 9 with fail
          have f2 := BI.out.at 2 _ rfl
          have f2X := fun X => (BI.out.low (low_new (Low.refl wj) X)).at 2 _ rfl
          obtain ⟨WX, hWX⟩ : ∃ W, W = wj.drew.alloc (.cells #[.string actNm, .string y.s] 23) := ⟨_, rfl⟩
          have LX := Lib.hid (show Low wj WX by rw [hWX]; exact low_new (low_drew (Low.refl wj)) _)
          have OX := Lib.hid (OwnR.low OI.out LX.out)
          have BX2 := Lib.hid (BI.out.low LX.out)
          have HSX := Lib.hid (show bx + 1 ≤ WX.heap.size from Nat.le_trans hbl LX.out.size)
          rw [hWX] at OX HSX
          have HWX := Lib.hid hWX
          clear hWX
          go_region_law (first
            | (refine ownR_step2 rfl _ _ _ rfl Tryz.underlying69 u_info rfl (by decide) (by decide) encU_len encU_one (bx + 1) (.slice ap j cq) L rfl OX.out (uAct y) ⟨wj.heap.size, 0, none⟩ 1 rfl (fun j u hj => newcell_at _ _ _ _ _ rfl hj) (by omega) HSX.out ?_; intro v6 w6 O6 B6 K6 N6; obtain ⟨a6, c6, hv6, -, -, -⟩ := OwnR.shape O6; replace hv6 : v6 = .slice a6 (j + 1) c6 := hv6.trans (by rw [List.length_append, hLl]; rfl); subst hv6; have HO6 := Lib.hid O6; have HB6 := Lib.hid (show RowKit.Below (bx + 1) WX w6 by rw [HWX.out]; exact B6); have HK6 := Lib.hid (show ∀ b, b < WX.heap.size → some b ≠ (Value.slice ap j cq).ownBlock → w6.heap[b]? = WX.heap[b]? by rw [HWX.out]; exact K6); have BE6 := Lib.hid (show BoxAt w6 bx [.string actNm, .string x.nm.s, .slice ap j cq, .int .i64 6, .bool false, .int .i64 0, .string ⟨#[]⟩, .string ⟨#[]⟩, .string ⟨#[]⟩, .slice none 0 0, .slice none 0 0] from BX2.out.kept (x := (Value.slice ap j cq).ownBlock) ⟨HB6.out.os, HB6.out.output, HB6.out.size, HK6.out⟩ (fun e => by have := (World.ownsRow.lt OX.out bx e.symm).1; omega)); have q1 := BE6.out.open' 2; have q2 := BE6.out.at 2 _ rfl; clear O6 B6 K6 N6))
          all_goals
            obtain ⟨W5, hW5⟩ : ∃ W, W = w6.setCell ⟨bx, 2, none⟩ (.slice a6 (j + 1) c6) := ⟨_, rfl⟩
            have HW5 := Lib.hid hW5
            have K5 := Lib.hid (show KeptBut w6 W5 (some bx) from hW5 ▸ kept_setCell _ _ _ _)
            have BE5 := Lib.hid (show BoxAt W5 bx [.string actNm, .string x.nm.s, .slice a6 (j + 1) c6, .int .i64 6, .bool false, .int .i64 0, .string ⟨#[]⟩, .string ⟨#[]⟩, .string ⟨#[]⟩, .slice none 0 0, .slice none 0 0] by rw [hW5]; exact BE6.out.set 2 _)
            have L5 := Lib.hid (show Low w1 W5 from low_all (low_setN (LI.out.trans LX.out) HB6.out (by have := HBX.out; omega)) (by have := HBX.out; omega) K5.out)
            have O5 := Lib.hid (show OwnU (bx + 1) W5 (.slice a6 (j + 1) c6) (L ++ [uAct y]) from HO6.out.to fun g hg => K5.out.2.2.2 g (World.ownsRow.lt HO6.out g hg).2 (fun e => by
                have := (World.ownsRow.lt HO6.out g hg).1
                simp at e
                omega))
            rw [← hW5]
            clear hW5 HW5 q1 q2
            go_wp2_with fail
            go_roundg (x.ins.length - (j + 1))
            case measure => omega
            case rel => exact ⟨j + 1, a6, c6, by go_num, by omega, by omega, L5, BE5, Lib.hid (by rw [HUS.out]; exact O5.out)⟩
        · have zj : ¬ (j : Int) < (x.ins.length : Int) := by omega
          obtain rfl : j = x.ins.length := by omega
          obtain ⟨d0, d1, d2, d3, d4, d5, d6, d7, d8, d9, d10⟩ := BI.out.at11
          have hsw : w.heap.size + 1 ≤ wj.heap.size := by
            have h1 := LWI.out.size
            have h2 := BS.out.lt
            omega
          have OA := Lib.hid (OwnR.alloc (OwnR.low OO.out (L1.out.trans LI.out)) (.cells #[.string actNm, .string x.nm.s, .slice ap x.ins.length cq, .int .i64 6, .bool false, .int .i64 0, .string ⟨#[]⟩, .string ⟨#[]⟩, .string ⟨#[]⟩, .slice none 0 0, .slice none 0 0] 71))
          have LA := Lib.hid (low_new (Low.refl wj) (.cells #[.string actNm, .string x.nm.s, .slice ap x.ins.length cq, .int .i64 6, .bool false, .int .i64 0, .string ⟨#[]⟩, .string ⟨#[]⟩, .string ⟨#[]⟩, .slice none 0 0, .slice none 0 0] 71))
          go_wp2_with (at_builtin; go_loud (refine appR rfl _ _ _ rfl Tryz.underlying47 e_info rfl (by decide) (by decide) encE_len encE_one (w.heap.size + 1) _ rs rfl OA.out (⟨actE x, ap, cq, none, 0, none, 0⟩ : Ee) ⟨wj.heap.size, 0, none⟩ 1 rfl (fun j u hj => newcell_at _ _ _ _ [.string actNm, .string x.nm.s, .slice ap x.ins.length cq, .int .i64 6, .bool false, .int .i64 0, .string ⟨#[]⟩, .string ⟨#[]⟩, .string ⟨#[]⟩, .slice none 0 0, .slice none 0 0] rfl (HEQ.out x ap cq j u hj)) (by have := HRL.out; omega) (by simp; omega) ?_); intro v5 w5 O5 B5 K5 N5; have HO5 := Lib.hid O5; have HB5 := Lib.hid B5; have HK5 := Lib.hid K5; have HN5 := Lib.hid N5; clear O5 B5 K5 N5)
          go_roundg (acs.length - (i + 1))
          case measure => omega
          case rel =>
            refine ⟨v5, i + 1, rs ++ [⟨actE x, ap, cq, none, 0, none, 0⟩], rfl, by go_num, by omega, by omega, Lib.hid ((LWI.out.trans LA.out).trans_belowU HB5.out (by have := BS.out.lt; omega)), HO5, Lib.hid (by rw [ens_snoc, EE.out, HSN.out]), Lib.hid ?_⟩
            exact ee_stepA (B := U.heap.size) rfl LL.out KK.out (L1.out.trans LI.out) LA.out (by rw [hUs]; exact OO.out) (vp := .slice ap x.ins.length cq) (OwnR.base (show OwnU (bx + 1) wj (.slice ap x.ins.length cq) (x.ins.map uAct) by have := OI.out; rwa [List.take_length] at this) (by have := HBX.out; have := L1.out.size; omega)) (by simp [Ee.sh, Sh.p, actE]) (recV_rep _ _) HK5.out HN5.out (by rw [hUs]; exact HO5.out)
    · have zl : ¬ (i : Int) < (acs.length : Int) := by omega
      obtain rfl : i = acs.length := by omega
      go_wp2_with fail
      go_ret
      exact ⟨vo, rs, rfl, OO.out.base (by omega), KK.out, by rw [EE.out, List.take_length], LU.out.trans LL.out⟩
end Go.Proofs.YtnenjgngahipdaaGreat
