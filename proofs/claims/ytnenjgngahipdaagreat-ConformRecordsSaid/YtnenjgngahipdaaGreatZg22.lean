/- append of one element as a step of a region that draws its order. No condition. conform.Actions: a schema's actions as entities. Condition: no more than 1000 actions, of no more than 1000 above each. conform.parted: the entities that are actions, and the other ones. Condition: no more than 1000. entity.Order, and the reference's: the order of names. No condition. slices.SortFunc at names and at entities, in a row of the call's own; slices.Clone at names. Condition: not too many. -/
import Derived.Test.YtnenjgngahipdaaGreatZg00
import Derived.Deep.RegionLawGrows
import Derived.Test.YtnenjgngahipdaaGreatZg15
import Derived.Deep.RegionWith
import Derived.Test.YtnenjgngahipdaaGreatZg12
import Derived.Test.YtnenjgngahipdaaGreatZg21
import Derived.Test.YtnenjgngahipdaaGreatZg05
import Derived.Test.YtnenjgngahipdaaGreatZg09
import Derived.Test.YtnenjgngahipdaaGreatZg18
set_option linter.unusedVariables false
set_option linter.unusedSimpArgs false
set_option linter.unnecessarySimpa false
namespace Go.Proofs.YtnenjgngahipdaaGreat
open Go.RowKit
/-- append of one element as a step of a region that draws its order. -/
theorem ownR_step2 {α : Type} {e : TypeId} {k : Nat} {enc : α → List Value} {ops : Array Oper} {o : Oper} {a : Act} {w : World} {K : Act → World → Prop} {Q : Exit → Act → World → Prop} {E : Prop} (hgd : o.guard = none) (s x : Operand) (t : TypeId)
    (ho : o.op = .call { callee := .builtin .append, args := #[s, x], argTypes := #[t, t] }) (ht : Tryz.prog.underlying t = some (.slice e)) {z : Value} {bytes : Nat}
    (hinfo : (Tryz.prog.info? e).map (fun i => (i.zero, i.size, i.bytes)) = some (some z, k, bytes)) (hz : z.cells.size = k) (hk0 : 0 < k) (hby : bytes ≤ 1000)
    (hk : ∀ x, (enc x).length = k) (h1 : ∀ x, ∀ u ∈ enc x, u.oneCell' = true)
    (B : Nat) (v : Value) (l : List α) (hs : a.eval s = v) (hown : OwnR e k enc B w v l) (y : α) (ad : Addr) (c : Nat) (hx : a.eval x = .slice (some ad) 1 c)
    (hnews : ∀ j u, (enc y)[j]? = some u → w.cell? (ad.add j) = some u) (hlen : l.length ≤ 1000000) (hb : B ≤ w.heap.size)
    (h : ∀ v' w', OwnR e k enc B w' v' (l ++ [y]) → Below B w w' → (∀ b, b < w.heap.size → some b ≠ v.ownBlock → w'.heap[b]? = w.heap[b]?) → (v'.ownBlock = v.ownBlock ∨ ∀ g, v'.ownBlock = some g → w.heap.size ≤ g) → K (a.put o.dst v') w') : if Region.wanted o (yielded ops a.tmps) = true then Oper.wp Tryz.prog o a w K Q else E := by
  have hw : Region.wanted o (yielded ops a.tmps) = true := by simp [Region.wanted, hgd]
  obtain ⟨i0, hi, hz0, hz1, hz2⟩ := info_parts hinfo
  have hby2 : (l.length + 1) * bytes ≤ 140737488355328 := by
    have := Nat.mul_le_mul (show l.length + 1 ≤ 1000001 by omega) hby
    omega
  have hnl : (enc y).length = 1 * k := by rw [hk, Nat.one_mul]
  have happ : (l ++ [y]).flatMap enc = l.flatMap enc ++ enc y := by simp
  have hlt := World.ownsRow.lt hown
  rcases hown.2 with ⟨rfl, hn⟩ | ⟨g, cap, cur, rfl, hbg, hg, hnc, hcm, hcs, htake⟩
  · have hl : l = [] := List.eq_nil_of_length_eq_zero hn
    subst hl
    refine step_append_grows hgd s x t ho e i0 z k bytes ht hi hz0 hz1 hz2 hz hk0 none 0 0 [] hs (fun _ => ⟨rfl, rfl⟩) (by simp) (fun b hb => by simp at hb) ad 1 c (enc y) hx hnl hnews (h1 y) (by omega) (by unfold maxLen; omega) (by simpa using hby2) fun v' w' r1 r2 => ?_
    have r3 : OwnR e k enc w.heap.size w' v' ([] ++ [y]) := by unfold OwnR; rw [happ]; exact r1
    exact h v' w' (r3.base hb) ((Below.refl _ _).grown r2 hb (by simp)) (fun b hb _ => r2.block b hb (by simp)) (.inr fun g hg => (World.ownsRow.lt r3 g hg).1)
  · by_cases hroom : l.length + 1 ≤ cap
    · rw [if_pos hw]
      obtain ⟨w', hrun, r1, r2⟩ := run_append_fits (P := Tryz.prog) w B t o.type e i0 k ht hi hz1 g l.length cap (l.flatMap enc) hown ad 1 c (enc y) hnl hnews (h1 y) hroom
      unfold Oper.wp
      simp [execOp, ho, resolve, invoke, builtin, hs, hx, hrun, Result.andThen]
      refine h _ w' ?_ ((Below.refl _ _).grown r2 hb fun k hk => by simp at hk; subst hk; exact hbg) (fun b hb hne => r2.block b hb hne) (.inl rfl)
      unfold OwnR; rw [happ, List.length_append]; exact r1
    · have holds : ∀ b, some (⟨g, 0, none⟩ : Addr) = some b → ∀ j u, (l.flatMap enc)[j]? = some u → w.cell? (b.add j) = some u := fun b hb => by
        simp only [Option.some.injEq] at hb
        subst hb
        exact World.ownsRow.cells hown (g := g) rfl
      refine step_append_grows hgd s x t ho e i0 z k bytes ht hi hz0 hz1 hz2 hz hk0 (some ⟨g, 0, none⟩) l.length cap (l.flatMap enc) hs (fun h => by simp at h) hown.1 holds ad 1 c (enc y) hx hnl hnews (h1 y) (by omega) (by unfold maxLen; omega) hby2 fun v' w' r1 r2 => ?_
      have r3 : OwnR e k enc w.heap.size w' v' (l ++ [y]) := by unfold OwnR; rw [happ, List.length_append]; exact r1
      exact h v' w' (r3.base hb) ((Below.refl _ _).grown r2 hb (by simp)) (fun b hb _ => r2.block b hb (by simp)) (.inr fun g hg => (World.ownsRow.lt r3 g hg).1)
end Go.Proofs.YtnenjgngahipdaaGreat
namespace Go.Proofs.YtnenjgngahipdaaGreat
open Go.RowKit
set_option linter.unusedVariables false
theorem ens_snoc (rs : List Ee) (y : Ee) : ensOf (rs ++ [y]) = ensOf rs ++ [y.e] := by unfold ensOf; simp
theorem acts_snoc {acs : List Ac} {i : Nat} (hi : i < acs.length) : actsE (acs.take (i + 1)) = actsE (acs.take i) ++ [actE acs[i]] := by
  unfold actsE
  rw [List.take_succ_eq_append_getElem hi, List.map_append]
  rfl
theorem us_snoc {l : List Nm} {j : Nat} (hj : j < l.length) : (l.take (j + 1)).map uAct = (l.take j).map uAct ++ [uAct l[j]] := by
  rw [List.take_succ_eq_append_getElem hj, List.map_append]
  rfl
theorem BoxAt.at11 {w : World} {n : Nat} {c0 c1 c2 c3 c4 c5 c6 c7 c8 c9 c10 : Value} (h : BoxAt w n [c0, c1, c2, c3, c4, c5, c6, c7, c8, c9, c10]) :
    w.cell? ⟨n, 0, none⟩ = some c0 ∧ w.cell? ⟨n, 1, none⟩ = some c1 ∧ w.cell? ⟨n, 2, none⟩ = some c2 ∧ w.cell? ⟨n, 3, none⟩ = some c3 ∧ w.cell? ⟨n, 4, none⟩ = some c4 ∧ w.cell? ⟨n, 5, none⟩ = some c5 ∧ w.cell? ⟨n, 6, none⟩ = some c6 ∧ w.cell? ⟨n, 7, none⟩ = some c7 ∧ w.cell? ⟨n, 8, none⟩ = some c8 ∧ w.cell? ⟨n, 9, none⟩ = some c9 ∧ w.cell? ⟨n, 10, none⟩ = some c10 :=
  ⟨h.at 0 _ rfl, h.at 1 _ rfl, h.at 2 _ rfl, h.at 3 _ rfl, h.at 4 _ rfl, h.at 5 _ rfl, h.at 6 _ rfl, h.at 7 _ rfl, h.at 8 _ rfl, h.at 9 _ rfl, h.at 10 _ rfl⟩
set_option maxHeartbeats 12800000 in
set_option maxRecDepth 100000 in
theorem acts_c (n : Nat) (acs : List Ac) (w : World) (vt va : Value) (hl : acs.length ≤ 1000) (hin : ∀ a ∈ acs, a.ins.length ≤ 1000) (h : AcsAt n w acs va) : Calls Tryz.prog 19 #[.agg #[vt, va]] w (ActsP acs w) := by
  obtain ⟨p, c, rfl, z1, z2⟩ := RowB.sl h
  obtain ⟨U, hU⟩ : ∃ U, U = w.alloc (.cells #[vt, .slice p acs.length c] 46) := ⟨_, rfl⟩
  have LU := Lib.hid (show Low w U by rw [hU]; exact low_new (Low.refl w) _)
  have BS := Lib.hid (BoxAt.made (cs := [vt, .slice p acs.length c]) hU rfl rfl)
  have hUs : U.heap.size = w.heap.size + 1 := by rw [hU]; simp
  have HU := Lib.hid hU
  have HA := Lib.hid h
  have HIN := Lib.hid hin
  have HEQ := Lib.hid (show ∀ (x : Ac) (ap : Option Addr) (cq j : Nat) (u : Value), (encE (⟨actE x, ap, cq, none, 0, none, 0⟩ : Ee))[j]? = some u → ([.string actNm, .string x.nm.s, .slice ap x.ins.length cq, .int .i64 6, .bool false, .int .i64 0, .string ⟨#[]⟩, .string ⟨#[]⟩, .string ⟨#[]⟩, .slice none 0 0, .slice none 0 0] : List Value)[j]? = some u from fun x ap cq j u hj => by simpa [encE, Sh.cs, Ee.sh, actE, recV, uAct, V.h, V.l, V.ns, hd0] using hj)
  clear hU h hin
  go_enter Tryz.func19, Tryz.ntmps19
  go_upto_region 1 with fail
  rw [← HU.out]
  clear HU
  have g1 := BS.out.at 1 _ rfl
  go_wp2_with fail
  go_loopg [3, 12] acs.length (fun gk vs vi wr => ∃ (vo : Value) (i : Nat) (rs : List Ee), vo = vs ∧ vi = .int .i64 (i : Int) ∧ i ≤ acs.length ∧ acs.length - i ≤ gk ∧ Hid (Low U wr) ∧ Hid (OwnE (w.heap.size + 1) wr vo rs) ∧ Hid (ensOf rs = actsE (acs.take i)) ∧ Hid (∀ p ∈ rs, EeOk (fun b => some b ≠ vo.ownBlock) wr p))
  case atStart => exact ⟨_, 0, [], rfl, rfl, Nat.zero_le _, Nat.le_refl _, Lib.hid (Low.refl _), Lib.hid (OwnR.nil _ _ _ _ _), Lib.hid rfl, Lib.hid fun p hp => by simp at hp⟩
  case round =>
    clear g1
    obtain ⟨vo, i, rs, rfl, rfl, hi, hg, LL, OO, EE, KK⟩ := hrel
    have g1 := (BS.out.low LL.out).at 1 _ rfl
    by_cases hlt : i < acs.length
    · have zl : (i : Int) < (acs.length : Int) := by omega
      obtain ⟨b, o, pi, ci, pp, cp, pr, cr, pa, ca, rfl, e0, e1, e2, e3, e4, hns, -, -, -, ⟨y1, y2⟩, -, -, -⟩ := AcsAt.at (AcsAt.low HA.out (LU.out.trans LL.out)) hlt
      have hx9 := HIN.out acs[i] (List.getElem_mem hlt)
      have hsn := acts_snoc hlt
      obtain ⟨x, hx⟩ : ∃ x, x = acs[i] := ⟨_, rfl⟩
      rw [← hx] at e0 e1 e2 e3 e4 hns y1 hx9 hsn
      have HX := Lib.hid hx
      clear hx
      have HNS := Lib.hid hns
      have HSN := Lib.hid hsn
      have HRL := Lib.hid (show rs.length = i by
        have := congrArg List.length EE.out
        unfold ensOf actsE at this
        simp at this
        omega)
      clear hns hsn
      go_upto_region 5 with fail
      refine gen_w (P := fun W => Code.wp _ _ _ _ W) (fun V0 hV0 => ?_)
      have LV0 := Lib.hid (show Low wr V0 by rw [hV0]; exact low_new (Low.refl _) _)
      have BA := Lib.hid (BoxAt.made (cs := [.string x.nm.s, .slice pi x.ins.length ci, .slice pp x.ps.length cp, .slice pr x.rs.length cr, .slice pa x.ats.length ca]) hV0 rfl rfl)
      clear hV0 e0 e1 e2 e3 e4
      have a0 := BA.out.at 0 _ rfl
      have CA := Lib.hid (action_c x.nm.s V0)
      go_wp2_with fail
      refine CA.out.mono ?_
      rintro e w1 ⟨rfl, l1⟩
      have L1 := Lib.hid (LV0.out.trans l1)
      have BA1 := Lib.hid (BA.out.low l1)
      clear a0 l1 CA BA LV0
      go_upto_region 6 with fail
      refine gen_w (P := fun W => Code.wp _ _ _ _ W) (fun V1 hV1 => ?_)
      have HRW := Lib.hid (show Low w1 V1 by rw [hV1]; exact low_new (Low.refl _) _)
      obtain ⟨bx, hbx⟩ : ∃ bx, bx = w1.heap.size := ⟨_, rfl⟩
      have BE := Lib.hid (BoxAt.made (cs := [.string actNm, .string x.nm.s, .slice none 0 0, .int .i64 6, .bool false, .int .i64 0, .string ⟨#[]⟩, .string ⟨#[]⟩, .string ⟨#[]⟩, .slice none 0 0, .slice none 0 0]) hV1 hbx.symm rfl)
      rw [← hbx]
      have HBX := Lib.hid hbx
      clear hV1 hbx
      have a1 := (BA1.out.low HRW.out).at 1 _ rfl
      go_wp2_with fail
      clear a1
      go_loopg [24] x.ins.length (fun gj vj wi => ∃ (j : Nat) (ap : Option Addr) (cq : Nat), vj = .int .i64 (j : Int) ∧ j ≤ x.ins.length ∧ x.ins.length - j ≤ gj ∧ Hid (Low w1 wi) ∧ Hid (BoxAt wi bx [.string actNm, .string x.nm.s, .slice ap j cq, .int .i64 6, .bool false, .int .i64 0, .string ⟨#[]⟩, .string ⟨#[]⟩, .string ⟨#[]⟩, .slice none 0 0, .slice none 0 0]) ∧ Hid (OwnU (bx + 1) wi (.slice ap j cq) ((x.ins.take j).map uAct)))
      case atStart => exact ⟨0, none, 0, rfl, Nat.zero_le _, Nat.le_refl _, HRW, BE, Lib.hid (OwnR.nil _ _ _ _ _)⟩
      case round =>
        clear HRW BE
        rename World => wj
        obtain ⟨j, ap, cq, rfl, hj, hgj, LI, BI, OI⟩ := hrel
        have LWI := Lib.hid (LL.out.trans (L1.out.trans LI.out))
        by_cases hjt : j < x.ins.length
        · have zj : (j : Int) < (x.ins.length : Int) := by omega
          obtain ⟨nb, no, rfl, d0⟩ := NsAt.at (NsAt.low HNS.out (L1.out.trans LI.out)) hjt
          have hus := us_snoc hjt
          obtain ⟨y, hy⟩ : ∃ y, y = x.ins[j] := ⟨_, rfl⟩
          rw [← hy] at d0 hus
          have HUS := Lib.hid hus
          clear hy hus
          obtain ⟨L, hL⟩ : ∃ L, L = (x.ins.take j).map uAct := ⟨_, rfl⟩
          have hLl : L.length = j := by rw [hL]; simp; omega
          rw [← hL] at OI HUS
          clear hL
          have hbl := BI.out.lt
          go_upto_region 9 with fail
          have e1 := BI.out.at 2 _ rfl
          have CAD := Lib.hid (action_c y.s wj.drew)
          clear d0
          go_region_law (first
            | (refine ownR_step2 rfl _ _ _ rfl Tryz.underlying69 u_info rfl (by decide) (by decide) encU_len encU_one (bx + 1) (.slice ap j cq) L rfl OX.out (uAct y) ⟨wA.heap.size, 0, none⟩ 1 rfl (fun j u hj => newcell_at _ _ _ _ _ rfl hj) (by omega) HSX.out ?_; intro v6 w6 O6 B6 K6 N6; obtain ⟨a6, c6, hv6, -, -, -⟩ := OwnR.shape O6; replace hv6 : v6 = .slice a6 (j + 1) c6 := hv6.trans (by rw [List.length_append, hLl]; rfl); subst hv6; have HO6 := Lib.hid O6; have HB6 := Lib.hid (show RowKit.Below (bx + 1) WX w6 by rw [HWX.out]; exact B6); have HK6 := Lib.hid (show ∀ b, b < WX.heap.size → some b ≠ (Value.slice ap j cq).ownBlock → w6.heap[b]? = WX.heap[b]? by rw [HWX.out]; exact K6); have BE6 := Lib.hid (show BoxAt w6 bx [.string actNm, .string x.nm.s, .slice ap j cq, .int .i64 6, .bool false, .int .i64 0, .string ⟨#[]⟩, .string ⟨#[]⟩, .string ⟨#[]⟩, .slice none 0 0, .slice none 0 0] from BX2.out.kept (x := (Value.slice ap j cq).ownBlock) ⟨HB6.out.os, HB6.out.output, HB6.out.size, HK6.out⟩ (fun e => by have := (World.ownsRow.lt OX.out bx e.symm).1; omega)); have q1 := BE6.out.open' 2; have q2 := BE6.out.at 2 _ rfl; clear O6 B6 K6 N6)
            | (go_simp; go_wp2_with (go_at_call 42; refine CAD.out.mono ?_; rintro e wA ⟨rfl, lA⟩; have LA := Lib.hid (show Low wj wA from (low_drew (Low.refl wj)).trans lA); have BIA := Lib.hid (BI.out.low LA.out); have e1 := BIA.out.at 2 _ rfl; have e1X := fun X => (BIA.out.low (low_new (Low.refl wA) X)).at 2 _ rfl; obtain ⟨WX, hWX⟩ : ∃ W, W = wA.alloc (.cells #[.string actNm, .string y.s] 23) := ⟨_, rfl⟩; have LX := Lib.hid (show Low wj WX by rw [hWX]; exact low_new LA.out _); have OX := Lib.hid (OwnR.low OI.out LX.out); have BX2 := Lib.hid (BI.out.low LX.out); have HSX := Lib.hid (show bx + 1 ≤ WX.heap.size from Nat.le_trans hbl LX.out.size); rw [hWX] at OX HSX; have HWX := Lib.hid hWX; clear hWX lA)))
          all_goals
            obtain ⟨W5, hW5⟩ : ∃ W, W = w6.setCell ⟨bx, 2, none⟩ (.slice a6 (j + 1) c6) := ⟨_, rfl⟩
            have HW5 := Lib.hid hW5
            have K5 := Lib.hid (show KeptBut w6 W5 (some bx) from hW5 ▸ kept_setCell _ _ _ _)
            have BE5 := Lib.hid (show BoxAt W5 bx [.string actNm, .string x.nm.s, .slice a6 (j + 1) c6, .int .i64 6, .bool false, .int .i64 0, .string ⟨#[]⟩, .string ⟨#[]⟩, .string ⟨#[]⟩, .slice none 0 0, .slice none 0 0] by rw [hW5]; exact BE6.out.set 2 _)
            have L5 := Lib.hid (show Low w1 W5 from low_all (low_setN (LI.out.trans LX.out) HB6.out (by have := HBX.out; omega)) (by have := HBX.out; omega) K5.out)
            have O5 := Lib.hid (show OwnU (bx + 1) W5 (.slice a6 (j + 1) c6) (L ++ [uAct y]) from HO6.out.to fun g hg => K5.out.2.2.2 g (World.ownsRow.lt HO6.out g hg).2 (fun e => by
                have := (World.ownsRow.lt HO6.out g hg).1
                simp at e
                omega))
            rw [← hW5]
            clear hW5 HW5 q1 q2
            go_wp2_with fail
            go_roundg (x.ins.length - (j + 1))
            case measure => omega
            case rel => exact ⟨j + 1, a6, c6, by go_num, by omega, by omega, L5, BE5, Lib.hid (by rw [HUS.out]; exact O5.out)⟩
        · have zj : ¬ (j : Int) < (x.ins.length : Int) := by omega
          obtain rfl : j = x.ins.length := by omega
          obtain ⟨d0, d1, d2, d3, d4, d5, d6, d7, d8, d9, d10⟩ := BI.out.at11
          have hsw : w.heap.size + 1 ≤ wj.heap.size := by
            have h1 := LWI.out.size
            have h2 := BS.out.lt
            omega
          have OA := Lib.hid (OwnR.alloc (OwnR.low OO.out (L1.out.trans LI.out)) (.cells #[.string actNm, .string x.nm.s, .slice ap x.ins.length cq, .int .i64 6, .bool false, .int .i64 0, .string ⟨#[]⟩, .string ⟨#[]⟩, .string ⟨#[]⟩, .slice none 0 0, .slice none 0 0] 71))
          have LA := Lib.hid (low_new (Low.refl wj) (.cells #[.string actNm, .string x.nm.s, .slice ap x.ins.length cq, .int .i64 6, .bool false, .int .i64 0, .string ⟨#[]⟩, .string ⟨#[]⟩, .string ⟨#[]⟩, .slice none 0 0, .slice none 0 0] 71))
          go_wp2_with (at_builtin; go_loud (refine appR rfl _ _ _ rfl Tryz.underlying47 e_info rfl (by decide) (by decide) encE_len encE_one (w.heap.size + 1) _ rs rfl OA.out (⟨actE x, ap, cq, none, 0, none, 0⟩ : Ee) ⟨wj.heap.size, 0, none⟩ 1 rfl (fun j u hj => newcell_at _ _ _ _ [.string actNm, .string x.nm.s, .slice ap x.ins.length cq, .int .i64 6, .bool false, .int .i64 0, .string ⟨#[]⟩, .string ⟨#[]⟩, .string ⟨#[]⟩, .slice none 0 0, .slice none 0 0] rfl (HEQ.out x ap cq j u hj)) (by have := HRL.out; omega) (by simp; omega) ?_); intro v5 w5 O5 B5 K5 N5; have HO5 := Lib.hid O5; have HB5 := Lib.hid B5; have HK5 := Lib.hid K5; have HN5 := Lib.hid N5; clear O5 B5 K5 N5)
          go_roundg (acs.length - (i + 1))
          case measure => omega
          case rel =>
            refine ⟨v5, i + 1, rs ++ [⟨actE x, ap, cq, none, 0, none, 0⟩], rfl, by go_num, by omega, by omega, Lib.hid ((LWI.out.trans LA.out).trans_belowU HB5.out (by have := BS.out.lt; omega)), HO5, Lib.hid (by rw [ens_snoc, EE.out, HSN.out]), Lib.hid ?_⟩
            exact ee_stepA (B := U.heap.size) rfl LL.out KK.out (L1.out.trans LI.out) LA.out (by rw [hUs]; exact OO.out) (vp := .slice ap x.ins.length cq) (OwnR.base (show OwnU (bx + 1) wj (.slice ap x.ins.length cq) (x.ins.map uAct) by have := OI.out; rwa [List.take_length] at this) (by have := HBX.out; have := L1.out.size; omega)) (by simp [Ee.sh, Sh.p, actE]) (recV_rep _ _) HK5.out HN5.out (by rw [hUs]; exact HO5.out)
    · have zl : ¬ (i : Int) < (acs.length : Int) := by omega
      obtain rfl : i = acs.length := by omega
      go_wp2_with fail
      go_ret
      exact ⟨vo, rs, rfl, OO.out.base (by omega), KK.out, by rw [EE.out, List.take_length], LU.out.trans LL.out⟩
end Go.Proofs.YtnenjgngahipdaaGreat
namespace Go.Proofs.YtnenjgngahipdaaGreat
open Go.RowKit
set_option linter.unusedVariables false
def isAct (e : En) : Bool := decide (e.u.t = actNm)
theorem take_filter {α : Type} {l : List α} {f : α → Bool} {i : Nat} (hi : i < l.length) : (l.take (i + 1)).filter f = (l.take i).filter f ++ (if f l[i] then [l[i]] else []) := by
  rw [List.take_succ_eq_append_getElem hi, List.filter_append]
  congr 1
  by_cases h : f l[i] = true
  · rw [if_pos h]; simp [h]
  · rw [if_neg h]; simp [h]
theorem ens_filter (qs : List Ee) (f : En → Bool) : ensOf (qs.filter fun q => f q.e) = (ensOf qs).filter f := by unfold ensOf; rw [List.filter_map]; rfl
/-- What parted tells. -/
def PartP (qs : List Ee) (w : World) (e : Ending) (w' : World) : Prop := ∃ v1 v2, e = .returned (.tuple #[v1, v2]) ∧ EtAt w' v1 (qs.filter fun q => isAct q.e) ∧ EtAt w' v2 (qs.filter fun q => !isAct q.e) ∧ Low w w'
theorem own_et {B : Nat} {w w' : World} {v : Value} {rs : List Ee} (h : OwnE B w' v rs) (hp : ∀ p ∈ rs, EeOk (fun _ => True) w p) (hl : Low w w') : EtAt w' v rs := ⟨h.esAt, fun q hq => (hp q hq).low hl⟩
/-- Behind an append to the one row the other one is as it was. -/
theorem own_apart {B : Nat} {W w' : World} {v u : Value} {l : List Ee} (h : OwnE B W u l) (hk : ∀ b, b < W.heap.size → some b ≠ v.ownBlock → w'.heap[b]? = W.heap[b]?) (ha : ∀ g, u.ownBlock = some g → v.ownBlock ≠ some g) : OwnE B w' u l :=
  h.to fun g hg => hk g (World.ownsRow.lt h g hg).2 fun e => ha g hg e.symm
theorem apart_step {B : Nat} {W : World} {v v' u : Value} {l : List Ee} (h : OwnE B W u l) (hn : v'.ownBlock = v.ownBlock ∨ ∀ g, v'.ownBlock = some g → W.heap.size ≤ g) (ha : ∀ g, u.ownBlock = some g → v.ownBlock ≠ some g) : ∀ g, u.ownBlock = some g → v'.ownBlock ≠ some g := fun g hg => by
  rcases hn with h1 | h1
  · rw [h1]; exact ha g hg
  · intro e
    have h2 := h1 g e
    have h3 := (World.ownsRow.lt h g hg).2
    omega
set_option maxHeartbeats 12800000 in
set_option maxRecDepth 100000 in
theorem parted_c (qs : List Ee) (w : World) (v : Value) (h : EtAt w v qs) (hn : qs.length ≤ 1000) : Calls Tryz.prog 44 #[v] w (PartP qs w) := by
  have hok := h.2
  obtain ⟨p, c, rfl, ⟨z1, z2⟩, -⟩ := EtAt.at h
  have HA := Lib.hid h
  have HOK := Lib.hid hok
  clear h hok
  go_enter Tryz.func44, Tryz.ntmps44
  go_wp2_with fail
  go_loopg [2, 3, 8] qs.length (fun gk va vb vi wr => ∃ (v1 v2 : Value) (i : Nat), v1 = va ∧ v2 = vb ∧ vi = .int .i64 (i : Int) ∧ i ≤ qs.length ∧ qs.length - i ≤ gk ∧ Hid (Low w wr) ∧ Hid (OwnE w.heap.size wr v1 ((qs.take i).filter fun q => isAct q.e)) ∧ Hid (OwnE w.heap.size wr v2 ((qs.take i).filter fun q => !isAct q.e)) ∧ Hid (∀ g, v1.ownBlock = some g → v2.ownBlock ≠ some g))
  case atStart => exact ⟨_, _, 0, rfl, rfl, rfl, Nat.zero_le _, Nat.le_refl _, Lib.hid (Low.refl _), Lib.hid (OwnR.nil _ _ _ _ _), Lib.hid (OwnR.nil _ _ _ _ _), Lib.hid fun g hg => by simp [Value.ownBlock] at hg⟩
  case round =>
    obtain ⟨v1, v2, i, rfl, rfl, rfl, hi, hg, LL, O1, O2, AP⟩ := hrel
    by_cases hlt : i < qs.length
    · have zl : (i : Int) < (qs.length : Int) := by omega
      obtain ⟨b, o, rfl, h1, k1⟩ := et_at (EtAt.low HA.out LL.out) hlt
      have ht1 := take_filter (f := fun q : Ee => isAct q.e) hlt
      have ht2 := take_filter (f := fun q : Ee => !isAct q.e) hlt
      obtain ⟨x, hx⟩ : ∃ x, x = qs[i] := ⟨_, rfl⟩
      rw [← hx] at h1 k1 ht1 ht2
      obtain ⟨d0, d1, d2, d3, d4, d5, d6, d7, d8, d9, d10⟩ := ent11 h1
      clear h1 hx k1
      have hl1 : ((qs.take i).filter fun q => isAct q.e).length ≤ 1000 := Nat.le_trans (List.length_filter_le _ _) (by rw [List.length_take]; omega)
      have hl2 : ((qs.take i).filter fun q => !isAct q.e).length ≤ 1000 := Nat.le_trans (List.length_filter_le _ _) (by rw [List.length_take]; omega)
      obtain ⟨A, hA⟩ : ∃ A, A = (qs.take i).filter fun q => isAct q.e := ⟨_, rfl⟩
      obtain ⟨B, hB⟩ : ∃ A, A = (qs.take i).filter fun q => !isAct q.e := ⟨_, rfl⟩
      rw [← hA] at O1 ht1 hl1
      rw [← hB] at O2 ht2 hl2
      clear hA hB
      have hwr := LL.out.size
      go_upto_region 4 with fail
      refine gen_w (P := fun W => Code.wp _ _ _ _ W) (fun V hV => ?_)
      have LV := Lib.hid (show Low wr V by rw [hV]; exact low_new (Low.refl _) _)
      obtain ⟨bx, hbx⟩ : ∃ b, b = wr.heap.size := ⟨_, rfl⟩
      have BX := Lib.hid (ee_box x (by unfold eeC; exact hV) hbx.symm)
      rw [← hbx]
      clear hV hbx d0 d1 d2 d3 d4 d5 d6 d7 d8 d9 d10
      obtain ⟨d0, d1, d2, d3, d4, d5, d6, d7, d8, d9, d10⟩ := eeL x BX.out.cells
      have OA1 := Lib.hid (OwnR.alloc (OwnR.low O1.out LV.out) (eeC x))
      have OA2 := Lib.hid (OwnR.alloc (OwnR.low O2.out LV.out) (eeC x))
      have LA := Lib.hid (show Low wr (V.alloc (eeC x)) from low_new LV.out _)
      have hva := LA.out.size
      unfold eeC at OA1 OA2 LA hva
      by_cases he : x.e.u.t = actNm
      · have hia : isAct x.e = true := decide_eq_true he
        rw [hia] at ht1 ht2
        have HT1 := Lib.hid ht1
        have HT2 := Lib.hid (show ((qs.take (i + 1)).filter fun q => !isAct q.e) = B by rw [ht2]; simp)
        rw [he] at d0
        have HE := Lib.hid he
        unfold actNm at d0
        clear he hia ht1 ht2
        have OX := Lib.hid OA1.out
        rw [HE.out] at OX
        unfold actNm at OX
        go_wp2_with (at_builtin; go_loud (refine appR rfl _ _ _ rfl Tryz.underlying47 e_info rfl (by decide) (by decide) encE_len encE_one w.heap.size _ A rfl OX.out x ⟨V.heap.size, 0, none⟩ 1 rfl (fun j u hj => newcell_at _ _ _ _ x.sh.cs (by have := HE.out; unfold actNm at this; rw [← this]; rfl) hj) (by omega) (by rw [HE.out] at hva; unfold actNm at hva; omega) ?_); intro v5 w5 P5 B5 K5 N5; have HO5 := Lib.hid P5; have HB5 := Lib.hid B5; have HK5 := Lib.hid K5; have HN5 := Lib.hid N5; clear P5 B5 K5 N5)
        rw [HE.out] at LA OA2
        unfold actNm at LA OA2
        go_roundg (qs.length - (i + 1))
        case measure => omega
        case rel =>
          exact ⟨v5, v2, i + 1, rfl, rfl, by go_num, by omega, by omega, Lib.hid ((LL.out.trans LA.out).trans_belowU HB5.out (Nat.le_refl _)), Lib.hid (by rw [HT1.out]; exact HO5.out), Lib.hid (by rw [HT2.out]; exact own_apart OA2.out HK5.out fun g hg e => AP.out g e hg), Lib.hid fun g hg e => apart_step OA2.out HN5.out (fun g hg e => AP.out g e hg) g e hg⟩
      · have hia : isAct x.e = false := decide_eq_false he
        rw [hia] at ht1 ht2
        have HT1 := Lib.hid (show ((qs.take (i + 1)).filter fun q => isAct q.e) = A by rw [ht1]; simp)
        have HT2 := Lib.hid (show ((qs.take (i + 1)).filter fun q => !isAct q.e) = B ++ [x] by rw [ht2]; simp)
        have he4 := not_act he
        clear he hia ht1 ht2
        go_wp2_with (at_builtin; go_loud (refine appR rfl _ _ _ rfl Tryz.underlying47 e_info rfl (by decide) (by decide) encE_len encE_one w.heap.size _ B rfl OA2.out x ⟨V.heap.size, 0, none⟩ 1 rfl (fun j u hj => newcell_at _ _ _ _ x.sh.cs rfl hj) (by omega) (by omega) ?_); intro v5 w5 P5 B5 K5 N5; have HO5 := Lib.hid P5; have HB5 := Lib.hid B5; have HK5 := Lib.hid K5; have HN5 := Lib.hid N5; clear P5 B5 K5 N5)
        go_roundg (qs.length - (i + 1))
        case measure => omega
        case rel =>
          exact ⟨v1, v5, i + 1, rfl, rfl, by go_num, by omega, by omega, Lib.hid ((LL.out.trans LA.out).trans_belowU HB5.out (Nat.le_refl _)), Lib.hid (by rw [HT1.out]; exact own_apart OA1.out HK5.out fun g hg => AP.out g hg), Lib.hid (by rw [HT2.out]; exact HO5.out), Lib.hid fun g hg => apart_step OA1.out HN5.out (fun g hg => AP.out g hg) g hg⟩
    · have zl : ¬ (i : Int) < (qs.length : Int) := by omega
      obtain rfl : i = qs.length := by omega
      rw [List.take_length] at O1 O2
      go_wp2_with fail
      go_ret2
      exact ⟨v1, v2, rfl, own_et O1.out (fun p hp => HOK.out p (List.mem_filter.1 hp).1) LL.out, own_et O2.out (fun p hp => HOK.out p (List.mem_filter.1 hp).1) LL.out, LL.out⟩
end Go.Proofs.YtnenjgngahipdaaGreat
namespace Go.Proofs.YtnenjgngahipdaaGreat
open Go.RowKit Go.Sort
def refV (u : Us) : V := .mk ⟨4, false, 0, ⟨#[]⟩, u.t, u.i⟩ [] []
theorem ord_refV (a b : Us) : ord (refV a) (refV b) = cmpUs a b := by
  rw [ord_eq]
  simp [refV, V.h, cmpUs]
theorem r_refV (w : World) (u : Us) : R w (refV u) (.slice none 0 0) (.slice none 0 0) := by
  have h1 := u.ht
  have h2 := u.hi
  unfold maxLen at h1 h2
  exact rep_v.2 ⟨⟨Nat.zero_le _, h1, h2⟩, ⟨none, 0, rfl, by simp [refV, V.ns], by simp [refV, V.ns], .inl rfl⟩, none, 0, rfl, ⟨by simp [refV, V.l], by simp⟩, .inl rfl⟩
theorem eRef_c (u : Us) (w : World) : Calls Tryz.prog 112 #[.agg #[.string u.t, .string u.i]] w fun e w' => e = .returned (.agg #[.int .i64 4, .bool false, .int .i64 0, .string ⟨#[]⟩, .string u.t, .string u.i, .slice none 0 0, .slice none 0 0]) ∧ Gr w w' := by
  go_enter Tryz.func112, Tryz.ntmps112
  go_wp2_with fail
  refine bodyPost_ret (v := .agg #[.int .i64 4, .bool false, .int .i64 0, .string ⟨#[]⟩, .string u.t, .string u.i, .slice none 0 0, .slice none 0 0]) (by simp [results, Tryz.results112, go_sem]; try rfl) rfl ?_
  exact ⟨rfl, Gr.alloc (Gr.alloc (Gr.refl w) _) _⟩
set_option maxHeartbeats 1600000 in
theorem eOrder_c (a b : Us) (w : World) : Calls Tryz.prog 74 #[.agg #[.string a.t, .string a.i], .agg #[.string b.t, .string b.i]] w fun e w' => e = .returned (.int .i64 (cmpUs a b)) ∧ Gr w w' := by
  have mixed : Tryz.prog.follows .mixedOrders = true := by kernel_rfl
  obtain ⟨r, hr⟩ : ∃ r, r = cmpUs a b := ⟨_, rfl⟩
  have c3 : ∀ X, Calls Tryz.prog 111 #[.agg #[.int .i64 4, .bool false, .int .i64 0, .string ⟨#[]⟩, .string a.t, .string a.i, .slice none 0 0, .slice none 0 0], .agg #[.int .i64 4, .bool false, .int .i64 0, .string ⟨#[]⟩, .string b.t, .string b.i, .slice none 0 0, .slice none 0 0]] X fun e w' => e = .returned (.int .i64 r) ∧ Gr X w' := fun X => by
    rw [hr, ← ord_refV]; exact order_c (refV a) (refV b) X _ _ _ _ (r_refV X a) (r_refV X b)
  rw [← hr]
  clear hr
  obtain ⟨W, hW⟩ : ∃ W, W = (w.alloc (.cells #[.string a.t, .string a.i] 23)).alloc (.cells #[.string b.t, .string b.i] 23) := ⟨_, rfl⟩
  have g0 : Gr w W := hW ▸ Gr.alloc (Gr.alloc (Gr.refl w) _) _
  have a0 : ∀ n os, (grow (W.drewN n) os).cell? ⟨w.heap.size, 0, none⟩ = some (.string a.t) := fun n os => (Gr.grow (Gr.refl W) n os).cell (by rw [hW]; simp [go_sem])
  have a1 : ∀ n os, (grow (W.drewN n) os).cell? ⟨w.heap.size, 1, none⟩ = some (.string a.i) := fun n os => (Gr.grow (Gr.refl W) n os).cell (by rw [hW]; simp [go_sem])
  have b0 : ∀ n os, (grow (W.drewN n) os).cell? ⟨w.heap.size + 1, 0, none⟩ = some (.string b.t) := fun n os => (Gr.grow (Gr.refl W) n os).cell (by rw [hW]; simp [go_sem])
  have b1 : ∀ n os, (grow (W.drewN n) os).cell? ⟨w.heap.size + 1, 1, none⟩ = some (.string b.i) := fun n os => (Gr.grow (Gr.refl W) n os).cell (by rw [hW]; simp [go_sem])
  have C1 := Lib.hid fun n os => Calls.grown_of (eRef_c a (grow (W.drewN n) os))
  have C2 := Lib.hid fun n os => Calls.grown_of (eRef_c b (grow (W.drewN n) os))
  have C3 := Lib.hid fun n os => Calls.grown_of (c3 (grow (W.drewN n) os))
  have G0 := Lib.hid g0
  have HW := Lib.hid hW
  clear c3 g0 hW
  go_enter Tryz.func74, Tryz.ntmps74
  go_wp2_with fail
  rw [← HW.out]
  clear HW
  go_quiet_grown (first | (with_reducible exact C1.out _ _) | (with_reducible exact C2.out _ _) | (with_reducible exact C3.out _ _))
  go_wp2_with fail
  go_ret
  exact ⟨rfl, G0.out.trans (Gr.grow (Gr.refl W) _ _)⟩
set_option maxHeartbeats 1600000 in
theorem rOrdE_c (a b : Us) (w : World) : Calls Tryz.prog 83 #[.agg #[.string a.t, .string a.i], .agg #[.string b.t, .string b.i]] w fun e w' => e = .returned (.int .i64 (cmpUs a b)) ∧ Gr w w' := by
  have ht := a.ht
  have hi := a.hi
  have ht' := b.ht
  have hi' := b.hi
  unfold maxLen at ht hi ht' hi'
  have C1 := Lib.hid fun W => rTexts_cv a.t b.t ht ht' W
  have C2 := Lib.hid fun W => rTexts_cv a.i b.i hi hi' W
  have G0 := Lib.hid (show Gr w ((w.alloc (.cells #[.string a.t, .string a.i] 23)).alloc (.cells #[.string b.t, .string b.i] 23)) from Gr.alloc (Gr.alloc (Gr.refl w) _) _)
  have hc : cmpUs a b = if cmpT a.t b.t = 0 then cmpT a.i b.i else cmpT a.t b.t := rfl
  rw [hc]
  generalize cmpT a.t b.t = x at C1 ⊢
  generalize cmpT a.i b.i = y at C2 ⊢
  have A0 : ∀ W, Gr ((w.alloc (.cells #[.string a.t, .string a.i] 23)).alloc (.cells #[.string b.t, .string b.i] 23)) W → W.cell? ⟨w.heap.size, 1, none⟩ = some (.string a.i) ∧ W.cell? ⟨w.heap.size + 1, 1, none⟩ = some (.string b.i) := fun W h => ⟨h.cell (by simp [go_sem]), h.cell (by simp [go_sem])⟩
  have HA := Lib.hid A0
  obtain ⟨r, hr⟩ : ∃ r, r = if x = 0 then y else x := ⟨_, rfl⟩
  rw [← hr]
  have HR := Lib.hid hr
  clear A0 ht hi ht' hi' hc hr
  go_enter Tryz.func83, Tryz.ntmps83
  go_wp2_with fail
  refine (C1.out _).mono ?_
  rintro e w1 ⟨rfl, g⟩
  obtain ⟨x1, x2⟩ := HA.out _ g
  have G1 := Lib.hid (G0.out.trans g)
  clear g
  by_cases h0 : x = 0
  · subst h0
    go_wp2_with fail
    refine (C2.out _).mono ?_
    rintro e w2 ⟨rfl, g⟩
    go_wp2_with fail
    go_ret
    exact ⟨retIv (by rw [HR.out]; simp), G1.out.trans g⟩
  · go_wp2_with fail
    go_ret
    exact ⟨retIv (by rw [HR.out, if_neg h0]), G1.out⟩
end Go.Proofs.YtnenjgngahipdaaGreat
namespace Go.Proofs.YtnenjgngahipdaaGreat
open Go.RowKit Go.Sort Go.Lib
instance : Inhabited Us := ⟨⟨⟨#[]⟩, ⟨#[]⟩, Nat.zero_le _, Nat.zero_le _⟩⟩
def ordUV : Value := .func (.func 74) #[] #[]
theorem sortU_raw (B g cap : Nat) (w : World) (l : List Us) (hown : OwnU B w (.slice (some ⟨g, 0, none⟩) l.length cap) l) (hn : l.length < 4611686018427387904) :
    Calls Tryz.prog 106 #[.slice (some ⟨g, 0, none⟩) l.length cap, ordUV] w fun e w' =>
      e = .returned (.tuple #[]) ∧ ∃ d' n os, PermIn 0 l.toArray.size l.toArray d' ∧ SortedIn (ltOf cmpUs) 0 l.toArray.size d' ∧ w' = sortWorldK Us.cs 2 w g 0 n d' os := by
  have hg := (World.ownsRow.lt hown g rfl).2
  have hcmp : CmpLays (α := Us) Tryz.prog 74 #[] Us.cs 2 cmpUs g 0 l.toArray.size w := fun m os dk hdk x y => eOrder_c x y _
  have eg : ∀ args w, (callFunc 74 args).run Tryz.prog w = .ok (.enter 74 args) w := enters_of Tryz.func74 (by kernel_rfl) rfl
  have hcon := AnyQ.slices_SortFunc Tryz.sortU 2 Tryz.isAgg23 Tryz.sizeOf23 Us.cs encU_len encU_one cmpUs (swo_of good_us fun a : Us => a) 74 #[] g 0 cap l.toArray w eg hcmp (row_holds encU_len hown) hg (by simpa using hn)
  change Calls Tryz.prog 106 _ _ _ at hcon
  exact hcon
/-- What SortFunc leaves of such a row. -/
def SortUP (B : Nat) (v : Value) (ps : List Us) (w : World) (e : Ending) (w' : World) : Prop :=
  e = .returned (.tuple #[]) ∧ ∃ qs : List Us, qs.Perm ps ∧ Sorted cmpUs qs ∧ OwnU B w' v qs ∧ KeptButv w w' v.ownBlock
theorem sortU_c (B : Nat) (v : Value) (ps : List Us) (w : World) (O : OwnU B w v ps) (hn : ps.length ≤ 70000) : Calls Tryz.prog 106 #[v, ordUV] w (SortUP B v ps w) := by
  obtain ⟨ao, cap, rfl, h1, h2, h3⟩ := O.shape
  by_cases h0 : ps = []
  · subst h0
    have h := AnyF.slices_SortFunc_none Tryz.sortU ao cap ordUV w
    change Calls Tryz.prog 106 _ _ _ at h
    refine h.mono ?_
    rintro e w' ⟨rfl, rfl⟩
    exact ⟨rfl, [], List.Perm.refl _, by simp [Sorted], O, KeptButv.refl _ _⟩
  · rcases h3 with h3 | ⟨g, rfl, -, -⟩
    · exact absurd h3 h0
    · refine (sortU_raw B g cap w ps O (by omega)).mono ?_
      rintro e w' ⟨rfl, d', m, os, hp, hs, rfl⟩
      obtain ⟨hsz, -, hperm⟩ := hp
      have hsz' : d'.size = ps.length := by simpa using hsz
      have hperm' : d'.toList.Perm ps := by
        have : (d'.extract 0 d'.size).toList.Perm (ps.toArray.extract 0 ps.toArray.size).toList := by
          rw [show d'.size = ps.toArray.size from hsz]; exact hperm
        simpa using this
      refine ⟨rfl, d'.toList, hperm', ?_, ?_, rfl, rfl, size_sortWorldK_c Us.cs 2 w g 0 m d' os, fun b hb hne => sort_other w g m d' os b hb fun e => hne (by rw [e]; rfl)⟩
      · have := sorted_of (c := cmpUs) (fun a : Us => a) (d := d') (by rw [hsz]; exact hs)
        simpa using this
      · have h := row_after encU_len O m d' os hsz'
        exact h
def cfE (x y : Ee) : Int := cmpUs x.e.u y.e.u
def ordEV : Value := .func (.func 73) #[] #[]
theorem eCmp_c (x y : Ee) (w : World) : Calls Tryz.prog 73 #[.agg (encE x).toArray, .agg (encE y).toArray] w fun e w' => e = .returned (.int .i64 (cfE x y)) ∧ Gr w w' := by
  show Calls Tryz.prog 73 #[.agg #[.string x.e.u.t, .string x.e.u.i, .slice x.ap x.e.ps.length x.cp, .int .i64 x.e.a.h.k, .bool x.e.a.h.b, .int .i64 x.e.a.h.n, .string x.e.a.h.s, .string x.e.a.h.t, .string x.e.a.h.i, .slice x.ai x.e.a.l.length x.ci, .slice x.an x.e.a.ns.length x.cn], .agg #[.string y.e.u.t, .string y.e.u.i, .slice y.ap y.e.ps.length y.cp, .int .i64 y.e.a.h.k, .bool y.e.a.h.b, .int .i64 y.e.a.h.n, .string y.e.a.h.s, .string y.e.a.h.t, .string y.e.a.h.i, .slice y.ai y.e.a.l.length y.ci, .slice y.an y.e.a.ns.length y.cn]] w _
  have HC := Lib.hid fun W => eOrder_c x.e.u y.e.u W
  unfold cfE
  generalize cmpUs x.e.u y.e.u = r at HC ⊢
  go_enter Tryz.func73, Tryz.ntmps73
  go_wp2_with fail
  refine (HC.out _).mono ?_
  rintro e w1 ⟨rfl, g⟩
  have G := Lib.hid ((Gr.alloc (Gr.alloc (Gr.refl w) _) _).trans g)
  clear g
  go_wp2_with fail
  go_ret
  exact ⟨rfl, G.out⟩
theorem sortE_raw (B g cap : Nat) (w : World) (l : List Ee) (hown : OwnE B w (.slice (some ⟨g, 0, none⟩) l.length cap) l) (hn : l.length < 4611686018427387904) :
    Calls Tryz.prog 72 #[.slice (some ⟨g, 0, none⟩) l.length cap, ordEV] w fun e w' =>
      e = .returned (.tuple #[]) ∧ ∃ d' n os, PermIn 0 l.toArray.size l.toArray d' ∧ SortedIn (ltOf cfE) 0 l.toArray.size d' ∧ w' = sortWorldK encE 11 w g 0 n d' os := by
  have hg := (World.ownsRow.lt hown g rfl).2
  have hcmp : CmpLays (α := Ee) Tryz.prog 73 #[] encE 11 cfE g 0 l.toArray.size w := fun m os dk hdk x y => eCmp_c x y _
  have eg : ∀ args w, (callFunc 73 args).run Tryz.prog w = .ok (.enter 73 args) w := enters_of Tryz.func73 (by kernel_rfl) rfl
  have hcon := AnyQ.slices_SortFunc Tryz.sortE 11 Tryz.isAgg71 Tryz.sizeOf71 encE encE_len encE_one cfE (swo_of good_us fun a : Ee => a.e.u) 73 #[] g 0 cap l.toArray w eg hcmp (row_holds encE_len hown) hg (by simpa using hn)
  change Calls Tryz.prog 72 _ _ _ at hcon
  exact hcon
/-- What SortFunc leaves of such a row. -/
def SortEP (B : Nat) (v : Value) (ps : List Ee) (w : World) (e : Ending) (w' : World) : Prop :=
  e = .returned (.tuple #[]) ∧ ∃ qs : List Ee, qs.Perm ps ∧ Sorted cmpE (ensOf qs) ∧ OwnE B w' v qs ∧ KeptButv w w' v.ownBlock
theorem sortE_c (B : Nat) (v : Value) (ps : List Ee) (w : World) (O : OwnE B w v ps) (hn : ps.length ≤ 70000) : Calls Tryz.prog 72 #[v, ordEV] w (SortEP B v ps w) := by
  obtain ⟨ao, cap, rfl, h1, h2, h3⟩ := O.shape
  by_cases h0 : ps = []
  · subst h0
    have h := AnyF.slices_SortFunc_none Tryz.sortE ao cap ordEV w
    change Calls Tryz.prog 72 _ _ _ at h
    refine h.mono ?_
    rintro e w' ⟨rfl, rfl⟩
    exact ⟨rfl, [], List.Perm.refl _, by simp [Sorted, ensOf], O, KeptButv.refl _ _⟩
  · rcases h3 with h3 | ⟨g, rfl, -, -⟩
    · exact absurd h3 h0
    · refine (sortE_raw B g cap w ps O (by omega)).mono ?_
      rintro e w' ⟨rfl, d', m, os, hp, hs, rfl⟩
      obtain ⟨hsz, -, hperm⟩ := hp
      have hsz' : d'.size = ps.length := by simpa using hsz
      have hperm' : d'.toList.Perm ps := by
        have : (d'.extract 0 d'.size).toList.Perm (ps.toArray.extract 0 ps.toArray.size).toList := by
          rw [show d'.size = ps.toArray.size from hsz]; exact hperm
        simpa using this
      refine ⟨rfl, d'.toList, hperm', ?_, ?_, rfl, rfl, size_sortWorldK_c encE 11 w g 0 m d' os, fun b hb hne => sort_other w g m d' os b hb fun e => hne (by rw [e]; rfl)⟩
      · have := sorted_of (c := cmpUs) (fun a : Ee => a.e.u) (d := d') (by rw [hsz]; exact hs)
        unfold Sorted at this ⊢
        unfold ensOf
        rw [List.pairwise_map] at this ⊢
        exact this
      · have h := row_after encE_len O m d' os hsz'
        exact h
end Go.Proofs.YtnenjgngahipdaaGreat
