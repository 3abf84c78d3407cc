/- schema.Check whole. Conditions: names shorter than the library's bound, small types, not too many names. -/
import Derived.Test.YtijjbfdbhfjfmaaScD
import Derived.Test.YtijjbfdbhfjfmaaScU
namespace Go.Proofs.Ytijjbfdbhfjfmaa
open Go.RowKit Go.Maps
set_option linter.unusedVariables false
/-- What Check answers. -/
noncomputable def chkS (n : Nat) (ts : List Et) (acs : List Ac) : Int :=
  if ¬ (ts.map Et.nm).Nodup ∨ ¬ (acs.map Ac.nm).Nodup then 13
  else if (!ts.all (typeB (ts.map Et.r) n) || !acs.all (actB (ts.map Et.r) (acs.map Ac.r) n)) = true then 40
  else if rounds (acs.map Ac.r) = true then 21 else 0
theorem InsAt.count {w : World} {b m : Nat} {g : Gra} (h : InsAt w b m g) : ∃ k : Nat, (k < g.length ↔ ¬ (g.map (·.1)).Nodup) ∧ ∀ ty, (Builtin.len_ #[59] ty #[.map (some b)]).run Try.prog w = .ok (.int .i64 (k : Int)) w := by
  obtain ⟨f, h1, h2, -⟩ := h
  obtain ⟨D, hD⟩ := h1
  obtain ⟨ks, hnd, hm, hs⟩ := hD.num
  refine ⟨ks.length, ?_, fun ty => by rw [hD.owns.len Try.underlying59 ty, hs]⟩
  have e : (g.map (·.1)).length = g.length := by simp
  rw [← e]
  refine nodup_len hnd fun x => ?_
  rw [hm, h2, look_mem]
  simp
theorem at_lenE {ops : Array Oper} {rest : List Oper} {o : Oper} {a : Act} {w : World} {Q : Exit → Act → World → Prop} (hg : o.guard = none) (m : Operand) (t : TypeId) (hop : o.op = Op.call { callee := Callee.builtin Builtin.len, args := #[m], argTypes := #[t] }) {b k : Nat}
    (hm : a.eval m = .map (some b)) (hrun : ∀ ty, (Builtin.len_ #[t] ty #[.map (some b)]).run Try.prog w = .ok (.int .i64 (k : Int)) w)
    (hK : wpList Try.prog ops Q rest (a.put o.dst (.int .i64 (k : Int))) w) : wpList Try.prog ops Q (o :: rest) a w := by
  refine wpList_plain hg fun K' hK' => ?_
  unfold Oper.wp
  simp [execOp, hop, resolve, invoke, builtin, hm, hrun, Result.andThen]
  exact hK' _ _ hK
theorem shut_of {ag : Gra} (h : ∀ p ∈ ag, ∀ y ∈ p.2, knows ag y = true) : Shut ag := fun x y hy => by
  unfold nxt at hy
  cases e : look ag x with
  | none => rw [e] at hy; simp at hy
  | some l =>
    rw [e] at hy
    obtain ⟨p, hp, -, rfl⟩ := look_in e
    exact h p hp y hy
set_option maxRecDepth 100000 in
set_option maxHeartbeats 3200000 in
theorem check12_c (n : Nat) (ts : List Et) (acs : List Ac) (w : World) (vt va : Value) (hx : Mx w) (hn : ∀ t ∈ ts, t.nm.s.size < 4294967281) (hs : ∀ t ∈ ts, Sm (n + 1) (recT t.ats)) (hs2 : ∀ a ∈ acs, Sm (n + 1) (recT a.ats)) (hg : FewG (ts.map Et.r)) (hg2 : FewG (acs.map Ac.r)) (h : EtsAt n w ts vt) (h2 : AcsAt n w acs va) :
    Calls Try.prog 10 #[.agg #[vt, va]] w fun e w' => e = .returned (.int .i64 (chkS n ts acs)) ∧ Low w w' := by
  obtain ⟨p, c, rfl, z1, z2⟩ := RowB.sl h
  obtain ⟨p', c', rfl, z3, z4⟩ := RowB.sl h2
  have hl1 : ts.length ≤ 100000 := by have := hg.1; simp at this; omega
  have hl2 : acs.length ≤ 100000 := by have := hg2.1; simp at this; omega
  obtain ⟨U, hU⟩ : ∃ U, U = w.alloc (.cells #[.slice p ts.length c, .slice p' acs.length c'] 25) := ⟨_, rfl⟩
  have LU := Lib.hid (show Low w U by rw [hU]; exact low_new (Low.refl w) _)
  have HB := Lib.hid fun (V : World) (hl : Low U V) => box2 (w := w) (wr := V) (c0 := .slice p ts.length c) (c1 := .slice p' acs.length c') (t := 25) (by rw [← hU]; exact hl)
  have HU := Lib.hid hU
  have HC := Lib.hid (show C12 U p p' ts.length c acs.length c' w.heap.size (ts.map Et.r) (acs.map Ac.r) from ⟨(HB.out U (Low.refl U)).1, (HB.out U (Low.refl U)).2, fun V hl => insT_c n ts V _ _ hl1 (h.low (LU.out.trans hl)), fun V hl => insA_c n acs V _ _ hl2 (h2.low (LU.out.trans hl))⟩)
  have HX := Lib.hid hx
  have HT := Lib.hid h
  have HA := Lib.hid h2
  have HN := Lib.hid hn
  have HS := Lib.hid hs
  have HS2 := Lib.hid hs2
  have HG2 := Lib.hid hg2
  obtain ⟨R, hR⟩ : ∃ R, R = chkS n ts acs := ⟨_, rfl⟩
  have HR := Lib.hid hR
  rw [← hR]
  clear hx hn hs hs2 hg hg2 h h2 hU hR
  go_enter Try.func10, Try.ntmps10
  go_upto_region 1 with fail
  rw [← HU.out]
  refine wp_region_any mixedT ?_
  refine s12_00000000 HC.out (fun x0 x1 b1 b2 w1 F => ?_) (low_drew (Low.refl U))
  obtain ⟨L1, e0, e1, ⟨n1, i1⟩, n2, i2⟩ := F
  obtain ⟨k1, hk1, hr1⟩ := i1.count
  obtain ⟨k2, hk2, hr2⟩ := i2.count
  have HL1 := Lib.hid L1
  have HR1 := Lib.hid hr1
  have HR2 := Lib.hid hr2
  have HI1 := Lib.hid i1
  have HI2 := Lib.hid i2
  have HE0 := Lib.hid e0
  have HE1 := Lib.hid e1
  rw [List.length_map, List.map_map] at hk1 hk2
  have HK1 := Lib.hid (show k1 < ts.length ↔ ¬ (ts.map Et.nm).Nodup from hk1)
  have HK2 := Lib.hid (show k2 < acs.length ↔ ¬ (acs.map Ac.nm).Nodup from hk2)
  obtain ⟨g0, g1⟩ := HB.out w1 L1
  have LW := Lib.hid (LU.out.trans L1)
  clear hk1 hk2 hr1 hr2 i1 i2 HC
  unfold fr12
  by_cases hq1 : k1 < ts.length
  · have HF := Lib.hid (show 13 = R by rw [HR.out, chkS, if_pos (.inl (HK1.out.1 hq1))])
    have zq : (k1 : Int) < (ts.length : Int) := by omega
    have r1 := HR1.out
    go_wp2_with fail
    go_ret
    exact ⟨retI HF.out, LW.out⟩
  · have zq : ¬ (k1 : Int) < (ts.length : Int) := by omega
    by_cases hq2 : k2 < acs.length
    · have HF := Lib.hid (show 13 = R by rw [HR.out, chkS, if_pos (.inr (HK2.out.1 hq2))])
      have zq2 : (k2 : Int) < (acs.length : Int) := by omega
      have r1 := HR1.out
      have r2 := HR2.out
      go_wp2_with fail
      go_ret
      exact ⟨retI HF.out, LW.out⟩
    · have zq2 : ¬ (k2 : Int) < (acs.length : Int) := by omega
      have HNO := Lib.hid (show ¬ (¬ (ts.map Et.nm).Nodup ∨ ¬ (acs.map Ac.nm).Nodup) from fun e => by
        rcases e with e | e
        · exact hq1 (HK1.out.2 e)
        · exact hq2 (HK2.out.2 e))
      have HCE := Lib.hid (conE_c n ts (fun t => !typeB (ts.map Et.r) n t) x0 w1 _ (HT.out.low LW.out) fun j hj V pi ci pa ca hl h1 h2 => chk1_c (ts.map Et.r) n ts[j] V b1 n1 x0 pi pa ci ca (HX.out.low (LW.out.trans hl)) (HN.out _ (List.getElem_mem hj)) (HS.out _ (List.getElem_mem hj)) h1 h2 (HI1.out.low hl) (hl.keep HE0.out))
      have HCA := Lib.hid fun (W : World) (l1 : Low w1 W) => conA_c n acs (fun a => !actB (ts.map Et.r) (acs.map Ac.r) n a) x0 x1 W _ (HA.out.low (LW.out.trans l1)) fun j hj V pi ci pp cp pr cr pa ca hl h1 h2 h3 h4 => chk2_c (ts.map Et.r) (acs.map Ac.r) n acs[j] V b1 n1 b2 n2 x0 x1 pi pp pr pa ci cp cr ca (HS2.out _ (List.getElem_mem hj)) h1 h2 h3 h4 (HI1.out.low (l1.trans hl)) (HI2.out.low (l1.trans hl)) ((l1.trans hl).keep HE0.out) ((l1.trans hl).keep HE1.out)
      obtain ⟨q1, hq1⟩ : ∃ q, q = ts.any fun t => !typeB (ts.map Et.r) n t := ⟨_, rfl⟩
      obtain ⟨q2, hq2⟩ : ∃ q, q = acs.any fun a => !actB (ts.map Et.r) (acs.map Ac.r) n a := ⟨_, rfl⟩
      rw [← hq1] at HCE
      rw [← hq2] at HCA
      have HQ1 := Lib.hid (show (!q1) = ts.all (typeB (ts.map Et.r) n) by rw [hq1]; exact not_any ts _)
      have HQ2 := Lib.hid (show (!q2) = acs.all (actB (ts.map Et.r) (acs.map Ac.r) n) by rw [hq2]; exact not_any acs _)
      have HRR := Lib.hid (show R = if (!(!q1) || !(!q2)) = true then 40 else if rounds (acs.map Ac.r) = true then 21 else 0 by rw [HR.out, chkS, if_neg HNO.out, HQ1.out, HQ2.out])
      clear hq1 hq2 HK1 HK2 HNO
      cases q1 with
      | true =>
        have HF := Lib.hid (show 40 = R by rw [HRR.out]; simp)
        have r1 := HR1.out
        have r2 := HR2.out
        go_wp2_with fail
        refine HCE.out.mono ?_
        rintro e w2 ⟨rfl, l2⟩
        go_wp2_with fail
        go_ret
        exact ⟨retI HF.out, LW.out.trans l2⟩
      | false =>
        have r1 := HR1.out
        have r2 := HR2.out
        go_wp2_with fail
        refine HCE.out.mono ?_
        rintro e w2 ⟨rfl, l2⟩
        have HCA2 := Lib.hid (HCA.out w2 l2)
        have L2 := Lib.hid l2
        obtain ⟨g0, g1⟩ := HB.out w2 (HL1.out.trans l2)
        replace e0 := l2.keep HE0.out
        replace e1 := l2.keep HE1.out
        clear l2 HCA HCE
        cases q2 with
        | true =>
          have HF := Lib.hid (show 40 = R by rw [HRR.out]; simp)
          go_wp2_with fail
          refine HCA2.out.mono ?_
          rintro e w3 ⟨rfl, l3⟩
          go_wp2_with fail
          go_ret
          exact ⟨retI HF.out, LW.out.trans (L2.out.trans l3)⟩
        | false =>
          have HSH := Lib.hid (shut_of (ag := acs.map Ac.r) fun p hp y hy => by
            obtain ⟨a, ha, rfl⟩ := List.mem_map.1 hp
            have h1 := HQ2.out
            rw [show (!false) = true from rfl] at h1
            have h2 := List.all_eq_true.1 h1.symm a ha
            unfold actB at h2
            rw [Bool.and_eq_true] at h2
            exact List.all_eq_true.1 h2.1 y hy)
          have HRR2 := Lib.hid (show R = if rounds (acs.map Ac.r) = true then 21 else 0 by rw [HRR.out]; simp)
          go_wp2_with fail
          refine HCA2.out.mono ?_
          rintro e w3 ⟨rfl, l3⟩
          have L3 := Lib.hid (L2.out.trans l3)
          have HRD := Lib.hid (round_c (acs.map Ac.r) w3 b2 n2 HG2.out HSH.out (HI2.out.low L3.out))
          obtain ⟨q3, hq3⟩ : ∃ q, q = rounds (acs.map Ac.r) := ⟨_, rfl⟩
          rw [← hq3] at HRD
          have HR3 := Lib.hid (show R = if q3 = true then 21 else 0 by rw [HRR2.out, hq3])
          replace e1 := L3.out.keep HE1.out
          clear l3 hq3 HCA2
          cases q3 with
          | true =>
            have HF := Lib.hid (show 21 = R by rw [HR3.out]; rfl)
            go_wp2_with fail
            refine HRD.out.mono ?_
            rintro e w4 ⟨rfl, l4⟩
            go_wp2_with fail
            go_ret
            exact ⟨retI HF.out, LW.out.trans (L3.out.trans l4)⟩
          | false =>
            have HF := Lib.hid (show 0 = R by rw [HR3.out]; rfl)
            go_wp2_with fail
            refine HRD.out.mono ?_
            rintro e w4 ⟨rfl, l4⟩
            go_wp2_with fail
            go_ret
            exact ⟨retI HF.out, LW.out.trans (L3.out.trans l4)⟩
end Go.Proofs.Ytijjbfdbhfjfmaa
