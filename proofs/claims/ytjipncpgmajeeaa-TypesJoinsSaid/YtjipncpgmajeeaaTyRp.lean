/- pairs over what is joined of each pair of attributes. Condition: types that may be, small. -/
import Derived.Test.YtjipncpgmajeeaaTyRj
namespace Go.Proofs.Ytjipncpgmajeeaa
open Go.RowKit
theorem pairJ_at_none {f : T → T → Option T} {l m : List At} {i : Nat} (h1 : i < l.length) (h2 : i < m.length) (h : an l[i] ≠ an m[i] ∨ f (aty l[i]) (aty m[i]) = none) : pairJ f l m = none := by
  cases hr : pairJ f l m with
  | none => rfl
  | some r =>
    obtain ⟨-, h5, h6⟩ := pairJ_some.1 hr
    obtain ⟨k1, k2, -⟩ := h6 i h1 h2 (by omega)
    rcases h with h | h
    · exact (h k1).elim
    · rw [k2] at h; cases h
theorem pairJ_len {f : T → T → Option T} {l m : List At} (h : l.length ≠ m.length) : pairJ f l m = none := by
  cases hr : pairJ f l m with
  | none => rfl
  | some r => exact (h (pairJ_some.1 hr).1).elim
/-- What pairs leaves. -/
def PrP (w0 : World) (B rb n : Nat) (o : Option (List At)) (e : Ending) (w' : World) : Prop :=
  ∃ (b : Bool) (vr : Value) (ps : List Ae), e = .returned (.bool b) ∧ b = o.isSome ∧ RecSt w0 B rb n w' vr ps ∧ ∀ r, o = some r → ps.map Ae.x = r
set_option maxHeartbeats 6400000 in
set_option maxRecDepth 100000 in
theorem pairsJ_c {n : Nat} (hj : JnPC n) {A A' : Nat → Prop} (l m : List At) (w0 : World) (B rb : Nat) (w : World) (v v' vr0 : Value) (h : RAs A w0 n l v) (h' : RAs A' w0 n m v')
    (hx : ∀ j (h1 : j < l.length), Sm n (aty l[j]) ∧ mayB n (aty l[j]) = true) (hy : ∀ j (h1 : j < m.length), Sm n (aty m[j]) ∧ mayB n (aty m[j]) = true) (hst : RecSt w0 B rb n w vr0 []) (hl : l.length ≤ 1000) :
    Calls Try.prog 41 #[v, v', .func (.func 51) #[] #[.pointer (some ⟨rb, 0, none⟩)]] w (PrP w0 B rb n (pairJ (jn n) l m)) := by
  obtain ⟨p, c, rfl, z1, z2⟩ := RowR.sl h
  obtain ⟨p', c', rfl, z3, z4⟩ := RowR.sl h'
  have HA := Lib.hid h
  have HB := Lib.hid h'
  have HX := Lib.hid hx
  have HY := Lib.hid hy
  have HJ := Lib.hid hj
  have HST := Lib.hid hst
  have HL := Lib.hid hl
  obtain ⟨r, hr⟩ : ∃ r, r = pairJ (jn n) l m := ⟨_, rfl⟩
  have CL := Lib.hid (show l.length ≠ m.length → r = none from fun h => hr.trans (pairJ_len h))
  have CN := Lib.hid (show ∀ j (h1 : j < l.length) (h2 : j < m.length), an l[j] ≠ an m[j] ∨ jn n (aty l[j]) (aty m[j]) = none → r = none from fun j h1 h2 h => hr.trans (pairJ_at_none h1 h2 h))
  have CY := Lib.hid (show ∀ ps : List Ae, l.length = m.length → ps.length = l.length → (∀ j (h1 : j < l.length) (h2 : j < m.length) (h3 : j < ps.length), an l[j] = an m[j] ∧ jn n (aty l[j]) (aty m[j]) = some (aty ps[j].x) ∧ an ps[j].x = an l[j] ∧ ao ps[j].x = (ao l[j] || ao m[j])) → r = some (ps.map Ae.x) from fun ps h1 h2 h3 => by
    rw [hr, pairJ_some]
    exact ⟨h1, by simp [h2], fun j j1 j2 j3 => by simpa using h3 j j1 j2 (by simpa using j3)⟩)
  rw [← hr]
  clear h h' hr hj hx hy hst hl
  by_cases hlen : l.length = m.length
  case neg =>
    have HQ := Lib.hid (CL.out hlen)
    have bl : ((l.length : Int) == (m.length : Int)) = false := by simp; omega
    clear hlen
    go_enter Try.func41, Try.ntmps41
    go_wp2_with fail
    go_ret
    exact ⟨false, vr0, [], rfl, by rw [HQ.out]; rfl, HST.out, fun r h => by rw [HQ.out] at h; cases h⟩
  have HLEN := Lib.hid hlen
  rw [← hlen]
  clear hlen
  go_enter Try.func41, Try.ntmps41
  go_wp2_with fail
  go_loopg [7, 15] l.length (fun gk vx vi wr => ∃ (i : Nat) (vr : Value) (ps : List Ae), vi = .int .i64 (i : Int) ∧ i ≤ l.length ∧ l.length - i ≤ gk ∧ Hid (ps.length = i) ∧ Hid (RecSt w0 B rb n wr vr ps) ∧ Hid (∀ j (h1 : j < l.length) (h2 : j < m.length) (h3 : j < ps.length), an l[j] = an m[j] ∧ jn n (aty l[j]) (aty m[j]) = some (aty ps[j].x) ∧ an ps[j].x = an l[j] ∧ ao ps[j].x = (ao l[j] || ao m[j])))
  case atStart => exact ⟨0, vr0, [], rfl, Nat.zero_le _, Nat.le_refl _, Lib.hid rfl, HST, Lib.hid fun j h1 h2 h => absurd h (Nat.not_lt_zero _)⟩
  case round =>
    obtain ⟨i, vr, ps, rfl, hi, hg, PL, G, K⟩ := hrel
    by_cases hlt : i < l.length
    · have zl : (i : Int) < (l.length : Int) := by omega
      have hlt' : i < m.length := by have := HLEN.out; omega
      obtain ⟨b, o, qe, de, qv, dv, rfl, -, e0, e1, e2, e3, e4, e5, hsz, hx⟩ := RAs.at (RAs.low HA.out G.out.low) hlt
      obtain ⟨b', o', qe', de', qv', dv', rfl, -, d0, d1, d2, d3, d4, d5, -, hy⟩ := RAs.at (RAs.low HB.out G.out.low) hlt'
      have HF := Lib.hid fun q : InL wr => (show Calls Try.prog 51 #[.agg #[.string (an l[i]), .int .i64 (aty l[i]).k, .string (aty l[i]).n, .slice qe (aty l[i]).l.length de, .slice qv (aty l[i]).ats.length dv, .bool (ao l[i])], .agg #[.string (an m[i]), .int .i64 (aty m[i]).k, .string (aty m[i]).n, .slice qe' (aty m[i]).l.length de', .slice qv' (aty m[i]).ats.length dv', .bool (ao m[i])], .pointer (some ⟨rb, 0, none⟩)] q.w _ from joinf_c HJ.out w0 B rb l[i] m[i] ps vr q.w _ _ _ _ (hx.low q.ok) (hy.low q.ok) (HX.out i hlt).1 (HY.out i hlt').1 (HX.out i hlt).2 (HY.out i hlt').2 hsz (G.out.to q.ok) (by have := PL.out; have := HL.out; omega))
      obtain ⟨q, hq⟩ : ∃ q, q = jn n (aty l[i]) (aty m[i]) := ⟨_, rfl⟩

      have HQ := Lib.hid hq
      clear hx hy hq hsz
      haveI := InL.some wr
      by_cases he : an l[i] = an m[i]
      · rw [← he] at d0 HF
        have HE := Lib.hid he
        clear he
        have e0 := fun q : InL wr => q.cell e0
        have e1 := fun q : InL wr => q.cell e1
        have e2 := fun q : InL wr => q.cell e2
        have e3 := fun q : InL wr => q.cell e3
        have e4 := fun q : InL wr => q.cell e4
        have e5 := fun q : InL wr => q.cell e5
        have d0 := fun q : InL wr => q.cell d0
        have d1 := fun q : InL wr => q.cell d1
        have d2 := fun q : InL wr => q.cell d2
        have d3 := fun q : InL wr => q.cell d3
        have d4 := fun q : InL wr => q.cell d4
        have d5 := fun q : InL wr => q.cell d5
        go_wp2_with fail
        refine wp_region_head (C := fun w' => ∃ p : InL wr, w' = p.w) 21 mixedT (by kernel_rfl) ⟨⟨wr.drew, low_drew (Low.refl wr)⟩, rfl⟩ ?_
        simp only [List.take_succ_cons, List.take_zero]
        repeat (go_big_quiet_step (fail))
        refine wpQuiet_nil ?_
        rintro W9 ⟨p9, rfl⟩
        refine wpAny_ready (fuel := 2) (rs := [21]) (by kernel_rfl) (by simp) ?_
        refine AllReady.cons rfl (fun K' hK => ?_) ?_
        · go_simp
          refine (HF.out p9).mono ?_
          rintro e w1 ⟨t, er, vr2, pp, rfl, hjr, hpx, hst2⟩
          clear HF
          have hjr2 : JR q t er := by rw [HQ.out]; exact hjr
          have HPX := Lib.hid hpx
          have HS2 := Lib.hid hst2
          clear hjr hpx hst2
          cases q with
          | none =>
            obtain ⟨rfl, rfl⟩ := hjr2
            go_simp
            refine hK _ _ ?_
            clear hK K'
            refine wpAny_ready (fuel := 1) (rs := [22]) (by kernel_rfl) (by simp) ?_
            refine AllReady.cons rfl (fun K' hK => ?_) ?_
            · go_simp
              refine hK _ _ ?_
              clear hK K'
              refine wpAny_ready (fuel := 0) (rs := [23]) (by kernel_rfl) (by simp) ?_
              refine AllReady.cons rfl (fun K' hK => ?_) ?_
              · go_simp
                refine hK _ _ ?_
                clear hK K'
                refine wpAny_done (by kernel_rfl) ?_ _
                clear e0 e1 e2 e3 e4 e5 d0 d1 d2 d3 d4 d5 this
                have HFF := Lib.hid (CN.out i hlt hlt' (.inr HQ.out.symm))
                go_wp2_with fail
                go_ret
                exact ⟨false, vr2, ps ++ [pp], rfl, by rw [HFF.out]; rfl, HS2.out, fun r h => by rw [HFF.out] at h; cases h⟩
              exact AllReady.nil
            exact AllReady.nil
          | some q =>
            obtain ⟨rfl, rfl⟩ := hjr2
            go_simp
            refine hK _ _ ?_
            clear hK K'
            refine wpAny_ready (fuel := 1) (rs := [22]) (by kernel_rfl) (by simp) ?_
            refine AllReady.cons rfl (fun K' hK => ?_) ?_
            · go_simp
              refine hK _ _ ?_
              clear hK K'
              refine wpAny_ready (fuel := 0) (rs := [23]) (by kernel_rfl) (by simp) ?_
              refine AllReady.cons rfl (fun K' hK => ?_) ?_
              · go_simp
                refine hK _ _ ?_
                clear hK K'
                refine wpAny_done (by kernel_rfl) ?_ _
                clear e0 e1 e2 e3 e4 e5 d0 d1 d2 d3 d4 d5 this
                go_wp2_with fail
                go_roundg (l.length - (i + 1))
                case measure => omega
                case rel =>
                  refine ⟨i + 1, vr2, ps ++ [pp], by go_num, by omega, by omega, Lib.hid (by simp [PL.out]), HS2, Lib.hid fun j h1 h2 h3 => ?_⟩
                  have pl := PL.out
                  rcases Nat.lt_or_ge j i with h | h
                  · rw [List.getElem_append_left (by omega)]
                    exact K.out j h1 h2 (by omega)
                  · obtain rfl : j = i := by simp at h3; omega
                    rw [List.getElem_append_right (by omega)]
                    simp only [pl, Nat.sub_self, List.getElem_cons_zero]
                    rw [HPX.out]
                    exact ⟨HE.out, HQ.out.symm, rfl, rfl⟩
              exact AllReady.nil
            exact AllReady.nil
        exact AllReady.nil
      · have HFF := Lib.hid (CN.out i hlt hlt' (.inl he))
        have he2 : ¬ (an l[i]).toList = (an m[i]).toList := fun h => he (tl_inj.1 h)
        have he3 : ((an l[i]).toList == (an m[i]).toList) = false := by simpa using he2
        have he4 : (!(an l[i]).toList == (an m[i]).toList) = true := by rw [he3]; rfl
        clear he HF
        have e0 := fun q : InL wr => q.cell e0
        have d0 := fun q : InL wr => q.cell d0
        go_wp2_with fail
        refine wp_region_low mixedT (by kernel_rfl) ?_
        repeat (go_big_quiet_step (fail))
        refine wpQuiet_nil ?_
        rintro W8 ⟨p8, hW8⟩
        have L8 := Lib.hid (show RecSt w0 B rb n W8 vr ps by rw [hW8]; exact G.out.to p8.ok)
        clear hW8 p8 e0 e1 e2 e3 e4 e5 d0 d1 d2 d3 d4 d5 this
        go_wp2_with fail
        go_ret
        exact ⟨false, vr, ps, rfl, by rw [HFF.out]; rfl, L8.out, fun r h => by rw [HFF.out] at h; cases h⟩
    · have zl : ¬ (i : Int) < (l.length : Int) := by omega
      have hil : i = l.length := by omega
      have HQ := Lib.hid (CY.out ps HLEN.out (PL.out.trans hil) K.out)
      clear hil
      go_wp2_with fail
      go_ret
      exact ⟨true, vr, ps, rfl, by rw [HQ.out]; rfl, G.out, fun r h => by rw [HQ.out] at h; exact Option.some.inj h⟩
end Go.Proofs.Ytjipncpgmajeeaa
