/- The program's truth and elem; pairs of attributes. Condition: what a closure answers of each pair. -/
import Derived.Test.YtjipncpgmajeeaaTyH
namespace Go.Proofs.Ytjipncpgmajeeaa
open Go.RowKit
theorem truth_c (t : T) (w : World) (pe pv : Option Addr) (ce cv : Nat) : Calls Try.prog 39 #[.agg #[.int .i64 t.k, .string t.n, .slice pe t.l.length ce, .slice pv t.ats.length cv]] w fun e w' => e = .returned (.bool (trB t)) ∧ Low w w' := by
  by_cases h1 : t.k = 1
  · have HQ := Lib.hid (show true = trB t from (decide_eq_true (.inl h1)).symm)
    have b1 := beq_t h1
    clear h1
    go_enter Try.func39, Try.ntmps39
    go_wp2_with fail
    go_ret
    exact ⟨retB HQ.out, low_new (Low.refl w) _⟩
  have b1 := beq_f h1
  by_cases h2 : t.k = 2
  · have HQ := Lib.hid (show true = trB t from (decide_eq_true (.inr (.inl h2))).symm)
    have b2 := beq_t h2
    clear h1 h2
    go_enter Try.func39, Try.ntmps39
    go_wp2_with fail
    go_ret
    exact ⟨retB HQ.out, low_new (Low.refl w) _⟩
  have b2 := beq_f h2
  by_cases h3 : t.k = 3
  · have HQ := Lib.hid (show true = trB t from (decide_eq_true (.inr (.inr h3))).symm)
    have b3 := beq_t h3
    clear h1 h2 h3
    go_enter Try.func39, Try.ntmps39
    go_wp2_with fail
    go_ret
    exact ⟨retB HQ.out, low_new (Low.refl w) _⟩
  have b3 := beq_f h3
  have HQ := Lib.hid (show false = trB t from (decide_eq_false (by omega)).symm)
  clear h1 h2 h3
  go_enter Try.func39, Try.ntmps39
  go_wp2_with fail
  go_ret
  exact ⟨retB HQ.out, low_new (Low.refl w) _⟩
/-- A type in a row of its own. -/
theorem elem_c (k : Int) (s : ByteArray) (x : T) (b o ce : Nat) (va : Value) (qe qv : Option Addr) (de dv : Nat) (w : World) (e0 : w.cell? ⟨b, o, none⟩ = some (.int .i64 x.k)) (e1 : w.cell? ⟨b, o + 1, none⟩ = some (.string x.n)) (e2 : w.cell? ⟨b, o + 2, none⟩ = some (.slice qe x.l.length de)) (e3 : w.cell? ⟨b, o + 3, none⟩ = some (.slice qv x.ats.length dv)) :
    Calls Try.prog 40 #[.agg #[.int .i64 k, .string s, .slice (some ⟨b, o, none⟩) 1 ce, va]] w fun e w' => e = .returned (.agg #[.int .i64 x.k, .string x.n, .slice qe x.l.length de, .slice qv x.ats.length dv]) ∧ Low w w' := by
  have g0 := fun X => (low_new (Low.refl w) X).keep e0
  have g1 := fun X => (low_new (Low.refl w) X).keep e1
  have g2 := fun X => (low_new (Low.refl w) X).keep e2
  have g3 := fun X => (low_new (Low.refl w) X).keep e3
  have h0 := fun X Y => (low_new (low_new (Low.refl w) X) Y).keep e0
  have h1 := fun X Y => (low_new (low_new (Low.refl w) X) Y).keep e1
  have h2 := fun X Y => (low_new (low_new (Low.refl w) X) Y).keep e2
  have h3 := fun X Y => (low_new (low_new (Low.refl w) X) Y).keep e3
  clear e0 e1 e2 e3
  go_enter Try.func40, Try.ntmps40
  go_wp2_with fail
  refine bodyPost_ret (v := .agg #[.int .i64 x.k, .string x.n, .slice qe x.l.length de, .slice qv x.ats.length dv]) (by simp [results, Try.results40, go_sem]) rfl ?_
  exact ⟨rfl, low_new (low_new (Low.refl w) _) _⟩
/-- An attribute's value. -/
def av (x : At) (e v : Value) : Value := .agg #[.string (an x), .int .i64 (aty x).k, .string (aty x).n, e, v, .bool (ao x)]
set_option maxHeartbeats 3200000 in
set_option maxRecDepth 100000 in
theorem pairsB_c {A A' : Nat → Prop} {n : Nat} (l m : List At) (f : At → At → Bool) (w : World) (v v' : Value) (h : RAs A w n l v) (h' : RAs A' w n m v')
    (hc : ∀ i (h1 : i < l.length) (h2 : i < m.length) (W : World) (e u e' u' : Value), RT A W n (aty l[i]) e u → RT A' W n (aty m[i]) e' u' → Calls Try.prog 42 #[av l[i] e u, av m[i] e' u'] W fun r W' => r = .returned (.bool (f l[i] m[i])) ∧ Low W W') :
    Calls Try.prog 41 #[v, v', .func (.func 42) #[] #[]] w fun e w' => e = .returned (.bool (pairB f l m)) ∧ Low w w' := by
  obtain ⟨p, c, rfl, z1, z2⟩ := RowR.sl h
  obtain ⟨p', c', rfl, z3, z4⟩ := RowR.sl h'
  have HA := Lib.hid h
  have HB := Lib.hid h'
  have HC := Lib.hid hc
  obtain ⟨r, hr⟩ : ∃ r, r = pairB f l m := ⟨_, rfl⟩
  have CL := Lib.hid (show l.length ≠ m.length → false = r from fun h => by
    rw [hr]; symm; rw [Bool.eq_false_iff]; intro k; exact h ((pairB_iff l m).1 k).1)
  have CN := Lib.hid (show ∀ j (h1 : j < l.length) (h2 : j < m.length), an l[j] ≠ an m[j] ∨ f l[j] m[j] = false → false = r from fun j h1 h2 h => by
    rw [hr]; symm; rw [Bool.eq_false_iff]; intro k
    obtain ⟨k1, k2⟩ := ((pairB_iff l m).1 k).2 j h1 h2
    rcases h with h | h
    · exact h k1
    · rw [k2] at h; simp at h)
  have CY := Lib.hid (show l.length = m.length → (∀ j (h1 : j < l.length) (h2 : j < m.length), an l[j] = an m[j] ∧ f l[j] m[j] = true) → true = r from fun h1 h2 => by rw [hr, (pairB_iff l m).2 ⟨h1, h2⟩])
  rw [← hr]
  clear h h' hr hc
  by_cases hlen : l.length = m.length
  case neg =>
    have HQ := Lib.hid (CL.out hlen)
    have bl : ((l.length : Int) == (m.length : Int)) = false := by simp; omega
    clear hlen
    go_enter Try.func41, Try.ntmps41
    go_wp2_with fail
    go_ret
    exact ⟨retB HQ.out, Low.refl _⟩
  have HLEN := Lib.hid hlen
  rw [← hlen]
  clear hlen
  go_enter Try.func41, Try.ntmps41
  go_wp2_with fail
  go_loopg [7, 15] l.length (fun gk vx vi wr => ∃ i : Nat, vi = .int .i64 (i : Int) ∧ i ≤ l.length ∧ l.length - i ≤ gk ∧ Hid (Low w wr) ∧ Hid (∀ j (h1 : j < l.length) (h2 : j < m.length), j < i → an l[j] = an m[j] ∧ f l[j] m[j] = true))
  case atStart => exact ⟨0, rfl, Nat.zero_le _, Nat.le_refl _, Lib.hid (Low.refl _), Lib.hid fun j h1 h2 h => absurd h (Nat.not_lt_zero _)⟩
  case round =>
    obtain ⟨i, rfl, hi, hg, G, K⟩ := hrel
    by_cases hlt : i < l.length
    · have zl : (i : Int) < (l.length : Int) := by omega
      have hlt' : i < m.length := by have := HLEN.out; omega
      obtain ⟨b, o, qe, de, qv, dv, rfl, -, e0, e1, e2, e3, e4, e5, -, hx⟩ := RAs.at (RAs.low HA.out G.out) hlt
      obtain ⟨b', o', qe', de', qv', dv', rfl, -, d0, d1, d2, d3, d4, d5, -, hy⟩ := RAs.at (RAs.low HB.out G.out) hlt'
      have HF := Lib.hid fun q : InL wr => Calls.low q (show Calls Try.prog 42 #[.agg #[.string (an l[i]), .int .i64 (aty l[i]).k, .string (aty l[i]).n, .slice qe (aty l[i]).l.length de, .slice qv (aty l[i]).ats.length dv, .bool (ao l[i])], .agg #[.string (an m[i]), .int .i64 (aty m[i]).k, .string (aty m[i]).n, .slice qe' (aty m[i]).l.length de', .slice qv' (aty m[i]).ats.length dv', .bool (ao m[i])]] q.w _ from HC.out i hlt hlt' q.w _ _ _ _ (hx.low q.ok) (hy.low q.ok))
      obtain ⟨q, hq⟩ : ∃ q, q = f l[i] m[i] := ⟨_, rfl⟩
      rw [← hq] at HF
      have HQ := Lib.hid hq
      clear hx hy hq
      haveI := InL.some wr
      by_cases he : an l[i] = an m[i]
      · rw [← he] at d0 HF
        have HE := Lib.hid he
        clear he
        have e0 := fun q : InL wr => q.cell e0
        have e1 := fun q : InL wr => q.cell e1
        have e2 := fun q : InL wr => q.cell e2
        have e3 := fun q : InL wr => q.cell e3
        have e4 := fun q : InL wr => q.cell e4
        have e5 := fun q : InL wr => q.cell e5
        have d0 := fun q : InL wr => q.cell d0
        have d1 := fun q : InL wr => q.cell d1
        have d2 := fun q : InL wr => q.cell d2
        have d3 := fun q : InL wr => q.cell d3
        have d4 := fun q : InL wr => q.cell d4
        have d5 := fun q : InL wr => q.cell d5
        go_wp2_with fail
        refine wp_region_low mixedT (by kernel_rfl) ?_
        repeat (go_big_quiet_step (with_reducible exact HF.out _))
        refine wpQuiet_nil ?_
        rintro W8 ⟨p8, hW8⟩
        have L8 := Lib.hid (show Low w W8 by rw [hW8]; exact G.out.trans p8.ok)
        clear hW8 p8 HF e0 e1 e2 e3 e4 e5 d0 d1 d2 d3 d4 d5 this
        cases q with
        | true =>
          go_wp2_with fail
          go_roundg (l.length - (i + 1))
          case measure => omega
          case rel =>
            refine ⟨i + 1, by go_num, by omega, by omega, L8, Lib.hid fun j h1 h2 hji => ?_⟩
            rcases Nat.lt_succ_iff_lt_or_eq.1 hji with h | rfl
            · exact K.out j h1 h2 h
            · exact ⟨HE.out, HQ.out.symm⟩
        | false =>
          have HFF := Lib.hid (CN.out i hlt hlt' (.inr HQ.out.symm))
          go_wp2_with fail
          go_ret
          exact ⟨retB HFF.out, L8.out⟩
      · have HFF := Lib.hid (CN.out i hlt hlt' (.inl he))
        have he2 : ¬ (an l[i]).toList = (an m[i]).toList := fun h => he (tl_inj.1 h)
        have he3 : ((an l[i]).toList == (an m[i]).toList) = false := by simpa using he2
        have he4 : (!(an l[i]).toList == (an m[i]).toList) = true := by rw [he3]; rfl
        clear he HF
        have e0 := fun q : InL wr => q.cell e0
        have d0 := fun q : InL wr => q.cell d0
        go_wp2_with fail
        refine wp_region_low mixedT (by kernel_rfl) ?_
        repeat (go_big_quiet_step (fail))
        refine wpQuiet_nil ?_
        rintro W8 ⟨p8, hW8⟩
        have L8 := Lib.hid (show Low w W8 by rw [hW8]; exact G.out.trans p8.ok)
        clear hW8 p8 e0 e1 e2 e3 e4 e5 d0 d1 d2 d3 d4 d5 this
        go_wp2_with fail
        go_ret
        exact ⟨retB HFF.out, L8.out⟩
    · have zl : ¬ (i : Int) < (l.length : Int) := by omega
      have HQ := Lib.hid (CY.out HLEN.out fun j h1 h2 => K.out j h1 h2 (by omega))
      go_wp2_with fail
      go_ret
      exact ⟨retB HQ.out, G.out⟩
set_option maxHeartbeats 3200000 in
set_option maxRecDepth 100000 in
theorem pairsS_c {A A' : Nat → Prop} {n : Nat} (l m : List At) (f : At → At → Bool) (w : World) (v v' : Value) (h : RAs A w n l v) (h' : RAs A' w n m v')
    (hc : ∀ i (h1 : i < l.length) (h2 : i < m.length) (W : World) (e u e' u' : Value), RT A W n (aty l[i]) e u → RT A' W n (aty m[i]) e' u' → Calls Try.prog 43 #[av l[i] e u, av m[i] e' u'] W fun r W' => r = .returned (.bool (f l[i] m[i])) ∧ Low W W') :
    Calls Try.prog 41 #[v, v', .func (.func 43) #[] #[]] w fun e w' => e = .returned (.bool (pairB f l m)) ∧ Low w w' := by
  obtain ⟨p, c, rfl, z1, z2⟩ := RowR.sl h
  obtain ⟨p', c', rfl, z3, z4⟩ := RowR.sl h'
  have HA := Lib.hid h
  have HB := Lib.hid h'
  have HC := Lib.hid hc
  obtain ⟨r, hr⟩ : ∃ r, r = pairB f l m := ⟨_, rfl⟩
  have CL := Lib.hid (show l.length ≠ m.length → false = r from fun h => by
    rw [hr]; symm; rw [Bool.eq_false_iff]; intro k; exact h ((pairB_iff l m).1 k).1)
  have CN := Lib.hid (show ∀ j (h1 : j < l.length) (h2 : j < m.length), an l[j] ≠ an m[j] ∨ f l[j] m[j] = false → false = r from fun j h1 h2 h => by
    rw [hr]; symm; rw [Bool.eq_false_iff]; intro k
    obtain ⟨k1, k2⟩ := ((pairB_iff l m).1 k).2 j h1 h2
    rcases h with h | h
    · exact h k1
    · rw [k2] at h; simp at h)
  have CY := Lib.hid (show l.length = m.length → (∀ j (h1 : j < l.length) (h2 : j < m.length), an l[j] = an m[j] ∧ f l[j] m[j] = true) → true = r from fun h1 h2 => by rw [hr, (pairB_iff l m).2 ⟨h1, h2⟩])
  rw [← hr]
  clear h h' hr hc
  by_cases hlen : l.length = m.length
  case neg =>
    have HQ := Lib.hid (CL.out hlen)
    have bl : ((l.length : Int) == (m.length : Int)) = false := by simp; omega
    clear hlen
    go_enter Try.func41, Try.ntmps41
    go_wp2_with fail
    go_ret
    exact ⟨retB HQ.out, Low.refl _⟩
  have HLEN := Lib.hid hlen
  rw [← hlen]
  clear hlen
  go_enter Try.func41, Try.ntmps41
  go_wp2_with fail
  go_loopg [7, 15] l.length (fun gk vx vi wr => ∃ i : Nat, vi = .int .i64 (i : Int) ∧ i ≤ l.length ∧ l.length - i ≤ gk ∧ Hid (Low w wr) ∧ Hid (∀ j (h1 : j < l.length) (h2 : j < m.length), j < i → an l[j] = an m[j] ∧ f l[j] m[j] = true))
  case atStart => exact ⟨0, rfl, Nat.zero_le _, Nat.le_refl _, Lib.hid (Low.refl _), Lib.hid fun j h1 h2 h => absurd h (Nat.not_lt_zero _)⟩
  case round =>
    obtain ⟨i, rfl, hi, hg, G, K⟩ := hrel
    by_cases hlt : i < l.length
    · have zl : (i : Int) < (l.length : Int) := by omega
      have hlt' : i < m.length := by have := HLEN.out; omega
      obtain ⟨b, o, qe, de, qv, dv, rfl, -, e0, e1, e2, e3, e4, e5, -, hx⟩ := RAs.at (RAs.low HA.out G.out) hlt
      obtain ⟨b', o', qe', de', qv', dv', rfl, -, d0, d1, d2, d3, d4, d5, -, hy⟩ := RAs.at (RAs.low HB.out G.out) hlt'
      have HF := Lib.hid fun q : InL wr => Calls.low q (show Calls Try.prog 43 #[.agg #[.string (an l[i]), .int .i64 (aty l[i]).k, .string (aty l[i]).n, .slice qe (aty l[i]).l.length de, .slice qv (aty l[i]).ats.length dv, .bool (ao l[i])], .agg #[.string (an m[i]), .int .i64 (aty m[i]).k, .string (aty m[i]).n, .slice qe' (aty m[i]).l.length de', .slice qv' (aty m[i]).ats.length dv', .bool (ao m[i])]] q.w _ from HC.out i hlt hlt' q.w _ _ _ _ (hx.low q.ok) (hy.low q.ok))
      obtain ⟨q, hq⟩ : ∃ q, q = f l[i] m[i] := ⟨_, rfl⟩
      rw [← hq] at HF
      have HQ := Lib.hid hq
      clear hx hy hq
      haveI := InL.some wr
      by_cases he : an l[i] = an m[i]
      · rw [← he] at d0 HF
        have HE := Lib.hid he
        clear he
        have e0 := fun q : InL wr => q.cell e0
        have e1 := fun q : InL wr => q.cell e1
        have e2 := fun q : InL wr => q.cell e2
        have e3 := fun q : InL wr => q.cell e3
        have e4 := fun q : InL wr => q.cell e4
        have e5 := fun q : InL wr => q.cell e5
        have d0 := fun q : InL wr => q.cell d0
        have d1 := fun q : InL wr => q.cell d1
        have d2 := fun q : InL wr => q.cell d2
        have d3 := fun q : InL wr => q.cell d3
        have d4 := fun q : InL wr => q.cell d4
        have d5 := fun q : InL wr => q.cell d5
        go_wp2_with fail
        refine wp_region_low mixedT (by kernel_rfl) ?_
        repeat (go_big_quiet_step (with_reducible exact HF.out _))
        refine wpQuiet_nil ?_
        rintro W8 ⟨p8, hW8⟩
        have L8 := Lib.hid (show Low w W8 by rw [hW8]; exact G.out.trans p8.ok)
        clear hW8 p8 HF e0 e1 e2 e3 e4 e5 d0 d1 d2 d3 d4 d5 this
        cases q with
        | true =>
          go_wp2_with fail
          go_roundg (l.length - (i + 1))
          case measure => omega
          case rel =>
            refine ⟨i + 1, by go_num, by omega, by omega, L8, Lib.hid fun j h1 h2 hji => ?_⟩
            rcases Nat.lt_succ_iff_lt_or_eq.1 hji with h | rfl
            · exact K.out j h1 h2 h
            · exact ⟨HE.out, HQ.out.symm⟩
        | false =>
          have HFF := Lib.hid (CN.out i hlt hlt' (.inr HQ.out.symm))
          go_wp2_with fail
          go_ret
          exact ⟨retB HFF.out, L8.out⟩
      · have HFF := Lib.hid (CN.out i hlt hlt' (.inl he))
        have he2 : ¬ (an l[i]).toList = (an m[i]).toList := fun h => he (tl_inj.1 h)
        have he3 : ((an l[i]).toList == (an m[i]).toList) = false := by simpa using he2
        have he4 : (!(an l[i]).toList == (an m[i]).toList) = true := by rw [he3]; rfl
        clear he HF
        have e0 := fun q : InL wr => q.cell e0
        have d0 := fun q : InL wr => q.cell d0
        go_wp2_with fail
        refine wp_region_low mixedT (by kernel_rfl) ?_
        repeat (go_big_quiet_step (fail))
        refine wpQuiet_nil ?_
        rintro W8 ⟨p8, hW8⟩
        have L8 := Lib.hid (show Low w W8 by rw [hW8]; exact G.out.trans p8.ok)
        clear hW8 p8 e0 e1 e2 e3 e4 e5 d0 d1 d2 d3 d4 d5 this
        go_wp2_with fail
        go_ret
        exact ⟨retB HFF.out, L8.out⟩
    · have zl : ¬ (i : Int) < (l.length : Int) := by omega
      have HQ := Lib.hid (CY.out HLEN.out fun j h1 h2 => K.out j h1 h2 (by omega))
      go_wp2_with fail
      go_ret
      exact ⟨retB HQ.out, G.out⟩

end Go.Proofs.Ytjipncpgmajeeaa
