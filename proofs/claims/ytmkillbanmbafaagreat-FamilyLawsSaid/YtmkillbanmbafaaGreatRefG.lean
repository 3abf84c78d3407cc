/- Plain: the reference's way of telling whether one is above another: by steps. No condition. The reference's Above and In. Condition: the list is as it must be, of no more than 300 entities. -/
import Derived.Test.YtmkillbanmbafaaGreatStoG
import Derived.Test.YtmkillbanmbafaaGreatNilX
namespace Go.Proofs.YtmkillbanmbafaaGreat
structure RIn (c : List En) (a b : Us) (R : List Us) (i k : Nat) : Prop where
  nd : R.Nodup
  way : ∀ x ∈ R, x = a ∨ Way (stepE c) a x
  fst : a ∈ R
  done : ∀ j (hj : j < R.length), j < i → ∀ y ∈ PE c R[j], y ∈ R ∧ y ≠ b
  now : ∀ (hi : i < R.length) m (hm : m < (PE c R[i]).length), m < k → (PE c R[i])[m] ∈ R ∧ (PE c R[i])[m] ≠ b
theorem RIn.start (c : List En) (a b : Us) : RIn c a b [a] 0 0 where
  nd := by simp
  way := fun x hx => by simp at hx; exact .inl hx
  fst := by simp
  done := fun j _ h => absurd h (Nat.not_lt_zero _)
  now := fun _ m _ h => absurd h (Nat.not_lt_zero _)
theorem RIn.old {c : List En} {a b : Us} {R : List Us} {i k : Nat} (h : RIn c a b R i k) (hi : i < R.length) (hk : k < (PE c R[i]).length) (h1 : (PE c R[i])[k] ∈ R) (h2 : (PE c R[i])[k] ≠ b) : RIn c a b R i (k + 1) where
  nd := h.nd
  way := h.way
  fst := h.fst
  done := h.done
  now := fun hi' m hm hmk => by
    rcases Nat.lt_succ_iff_lt_or_eq.1 hmk with h3 | rfl
    · exact h.now hi' m hm h3
    · exact ⟨h1, h2⟩
theorem RIn.step {c : List En} (hc : Closed c) {a b : Us} {R : List Us} {i k : Nat} (h : RIn c a b R i k) (hi : i < R.length) (hk : k < (PE c R[i]).length) : Way (stepE c) a (PE c R[i])[k] := by
  have hs : stepE c R[i] (PE c R[i])[k] := (step_iff hc).2 (List.getElem_mem hk)
  obtain ⟨p, hp⟩ : ∃ p, (PE c R[i])[k] = p := ⟨_, rfl⟩
  rw [hp] at hs ⊢
  rcases h.way R[i] (List.getElem_mem hi) with e | e
  · rw [e] at hs; exact .one hs
  · exact e.more hs
theorem RIn.new {c : List En} (hc : Closed c) {a b : Us} {R : List Us} {i k : Nat} (h : RIn c a b R i k) (hi : i < R.length) (hk : k < (PE c R[i]).length) (h1 : (PE c R[i])[k] ∉ R) (h2 : (PE c R[i])[k] ≠ b) : RIn c a b (R ++ [(PE c R[i])[k]]) i (k + 1) := by
  have hw := h.step hc hi hk
  obtain ⟨p, hp⟩ : ∃ p, (PE c R[i])[k] = p := ⟨_, rfl⟩
  rw [hp] at h1 h2 hw ⊢
  have hget : ∀ j (hj : j < R.length), (R ++ [p])[j]'(by simp; omega) = R[j] := fun j hj => List.getElem_append_left hj
  refine ⟨?_, fun x hx => ?_, List.mem_append.2 (.inl h.fst), fun j hj hji y hy => ?_, fun hi' m hm hmk => ?_⟩
  · rw [List.nodup_append]
    refine ⟨h.nd, by simp, fun x hx y hy e => ?_⟩
    simp at hy
    rw [← hy, ← e] at h1
    exact h1 hx
  · rcases List.mem_append.1 hx with hx | hx
    · exact h.way x hx
    · simp at hx
      rw [hx]; exact .inr hw
  · have hj' : j < R.length := by omega
    rw [hget j hj'] at hy
    have := h.done j hj' hji y hy
    exact ⟨List.mem_append.2 (.inl this.1), this.2⟩
  · have e := hget i hi
    have hm2 : m < (PE c R[i]).length := by rw [e] at hm; exact hm
    have e2 : (PE c ((R ++ [p])[i]'hi'))[m]'hm = (PE c R[i])[m] := by simp only [e]
    rw [e2]
    rcases Nat.lt_succ_iff_lt_or_eq.1 hmk with h3 | rfl
    · have := h.now hi m hm2 h3
      exact ⟨List.mem_append.2 (.inl this.1), this.2⟩
    · rw [hp]
      exact ⟨List.mem_append.2 (.inr (by simp)), h2⟩
theorem RIn.next {c : List En} {a b : Us} {R : List Us} {i k : Nat} (h : RIn c a b R i k) (hi : i < R.length) (hk : (PE c R[i]).length ≤ k) : RIn c a b R (i + 1) 0 where
  nd := h.nd
  way := h.way
  fst := h.fst
  done := fun j hj hji y hy => by
    rcases Nat.lt_succ_iff_lt_or_eq.1 hji with h3 | rfl
    · exact h.done j hj h3 y hy
    · obtain ⟨m, hm, rfl⟩ := List.getElem_of_mem hy
      exact h.now hi m hm (by omega)
  now := fun _ m _ h => absurd h (Nat.not_lt_zero _)
theorem RIn.fin {c : List En} {a b : Us} {R : List Us} {i : Nat} (h : RIn c a b R i 0) (hi : R.length ≤ i) : ¬ Way (stepE c) a b := by
  have key : ∀ y, Way (stepE c) a y → y ∈ R ∧ y ≠ b := fun y hw => by
    induction hw with
    | one s =>
      obtain ⟨j, hj, e⟩ := List.getElem_of_mem h.fst
      exact h.done j hj (by omega) _ (by rw [e]; exact s.2.1)
    | more _ s ih =>
      obtain ⟨j, hj, e⟩ := List.getElem_of_mem ih.1
      exact h.done j hj (by omega) _ (by rw [e]; exact s.2.1)
  exact fun hw => (key b hw).2 rfl
theorem RIn.len {c : List En} {a b : Us} {R : List Us} {i k : Nat} (h : RIn c a b R i k) : R.length ≤ c.length + 1 := by
  have := len_sub R (a :: namesE c) h.nd fun x hx => by
    rcases h.way x hx with rfl | hw
    · simp
    · exact List.mem_cons_of_mem _ (way_to hw)
  simpa [namesE] using this
end Go.Proofs.YtmkillbanmbafaaGreat
namespace Go.Proofs.YtmkillbanmbafaaGreat
open Go.RowKit Go.Sort Go.Maps
theorem findI_no {l : List Sh} {u : Us} (h : (fS l u).isSome = false) : findI l u = -1 := findI_none h
set_option maxHeartbeats 8000000 in
set_option maxRecDepth 100000 in
theorem rabove_c (qs : List Ee) (w : World) (r : Value) (u : Us) (h : EtAt w r qs) (hg : GoodC (ensOf qs)) : Calls Tryz.prog 17 #[r, .agg #[.string u.t, .string u.i]] w fun e w' => ∃ v, e = .returned v ∧ UsAt w' v (abvN (ensOf qs) u) ∧ Low w w' := by
  obtain ⟨ao, c, rfl, ⟨hlc, hc9⟩, hx⟩ := h.at
  have HX := Lib.hid hx
  have HE := Lib.hid h
  have HG := Lib.hid hg
  have hq3 : qs.length ≤ 300 := by have := hg.len; unfold ensOf at this; rwa [List.length_map] at this
  obtain ⟨U0, hU0⟩ : ∃ W, W = w.alloc (.cells #[.string u.t, .string u.i] 24) := ⟨_, rfl⟩
  have HU0 := Lib.hid hU0
  have L0 := Lib.hid (show Low w U0 by rw [hU0]; exact Low.alloc (Low.refl w) _)
  have BU := Lib.hid (show BoxAt U0 w.heap.size [.string u.t, .string u.i] from BoxAt.made hU0 rfl rfl)
  have HF := Lib.hid (show Calls Tryz.prog 13 #[.slice ao qs.length c, .agg #[.string u.t, .string u.i]] U0 _ from find_c (qs.map Ee.sh) u U0 _ (h.1.low L0.out))
  clear hx h hg hU0
  obtain ⟨N, hN⟩ : ∃ N, N = qs.length := ⟨_, rfl⟩
  rw [← hN] at hlc hq3 HF ⊢
  have HN := Lib.hid hN
  clear hN
  go_enter Tryz.func17, Tryz.ntmps17
  go_upto_region 1 with fail
  rw [← HU0.out]
  clear HU0
  obtain ⟨a0, a1⟩ := BU.out.at2
  by_cases hin : (fS (qs.map Ee.sh) u).isSome = true
  case neg =>
    have hno : (fS (qs.map Ee.sh) u).isSome = false := by simpa using hin
    rw [findI_no hno] at HF
    have HNO := Lib.hid (show u ∉ namesE (ensOf qs) from fun hm => hin (fS_names.2 hm))
    clear hin hno
    go_wp2_with fail
    refine HF.out.mono ?_
    rintro e w1 ⟨rfl, l1⟩
    have L1 := Lib.hid (L0.out.trans l1)
    clear l1 a0 a1 HF
    go_wp2_with fail
    go_ret
    refine ⟨_, rfl, ?_, L1.out⟩
    rw [abvN_no HNO.out]
    exact ⟨none, 0, rfl, ⟨Nat.le_refl _, by decide⟩, fun j hj => absurd hj (Nat.not_lt_zero _)⟩
  case pos =>
    obtain ⟨at', hat⟩ : ∃ t, t = idxS (qs.map Ee.sh) u := ⟨_, rfl⟩
    rw [findI_idx hin, ← hat] at HF
    obtain ⟨hat1, hat2⟩ := idx_lt hin
    simp only [← hat] at hat1 hat2
    have hatq : at' < qs.length := by simpa using hat1
    have HAU := Lib.hid (show qs[at'].e.u = u by rw [List.getElem_map] at hat2; exact hat2)
    clear hat hat1 hat2 hin
    have hatn : at' < N := by rw [HN.out]; exact hatq
    have zat : ¬ ((at' : Int) < 0) := by omega
    go_wp2_with fail
    refine HF.out.mono ?_
    rintro e w1 ⟨rfl, l1⟩
    have L1 := Lib.hid (L0.out.trans l1)
    clear l1 a0 a1 HF BU L0
    have hab := (above_c (qs.map Ee.sh) (Rq qs) (by rw [List.length_map]; have := HN.out; omega) w1 _ (HE.out.1.low L1.out) (fun i hi => by
      have hi' : i < qs.length := by simpa using hi
      rw [Rq_at hi', List.getElem_map]
      exact ((HE.out.2 _ (List.getElem_mem hi')).1.any).low L1.out))
    rw [← HN.out] at hab
    have HAB := Lib.hid hab
    clear hab
    have hml : (qs.map Ee.sh).length = N := by rw [List.length_map, HN.out]
    go_wp2_with fail
    refine HAB.out.mono ?_
    rintro e w2 ⟨tb, T, rfl, -, htab, hT, l2⟩
    rw [hml] at htab ⊢
    have HTAB := Lib.hid htab
    have HT := Lib.hid hT
    have L2 := Lib.hid (L1.out.trans l2)
    clear htab hT l2 L1 hml HAB zat
    have hnl : (namesE (ensOf qs)).length = N := by rw [names_len, HN.out]; simp [ensOf]
    have HNL := Lib.hid hnl
    have HND := Lib.hid (rises_names HG.out.rises)
    clear hnl
    go_wp2_with fail
    go_loopg [5, 8] N (fun gk vs vi wr => ∃ (vr : Value) (i : Nat) (R : List Us), vr = vs ∧ vi = .int .i64 (i : Int) ∧ i ≤ N ∧ N - i ≤ gk ∧ R.length ≤ i ∧ Hid (Low w2 wr) ∧ Hid (UsAt wr vr R) ∧ Hid (R = ((namesE (ensOf qs)).take i).filter fun n => @decide (Way (stepE (ensOf qs)) u n) (Classical.propDecidable _)))
    case atStart => exact ⟨_, 0, [], rfl, rfl, Nat.zero_le _, Nat.le_refl _, Nat.le_refl _, Lib.hid (Low.refl _), Lib.hid ⟨none, 0, rfl, ⟨Nat.le_refl _, by decide⟩, fun j hj => absurd hj (Nat.not_lt_zero _)⟩, Lib.hid rfl⟩
    case round =>
      obtain ⟨vr, i, R, rfl, rfl, hi, hg, hR, G, O, K⟩ := hrel
      by_cases hlt : i < N
      · have zl : (i : Int) < (N : Int) := by omega
        have hiq : i < qs.length := by rw [← HN.out]; exact hlt
        have hin : i < (namesE (ensOf qs)).length := by rw [HNL.out]; exact hlt
        obtain ⟨b, o, rfl, hcs⟩ := HX.out i hiq
        obtain ⟨e0, e1, -⟩ := ee11 ((L2.out.trans G.out).cells hcs)
        obtain ⟨n, hn⟩ : ∃ n, n = qs[i].e.u := ⟨_, rfl⟩
        rw [← hn] at e0 e1
        have hni : (namesE (ensOf qs))[i] = n := by rw [hn]; simp [namesE, ensOf]
        have hst := abvN_step (u := u) (c := ensOf qs) hin
        rw [hni] at hst
        have HSTEP := Lib.hid hst
        have hT2 : T at' i = true ↔ Way (stepE (ensOf qs)) u n := by
          rw [HT.out at' i, num_way HND.out (by rw [← HN.out]; exact hatn) hiq, HAU.out, hn]
        obtain ⟨t, ht⟩ : ∃ t, t = T at' i := ⟨_, rfl⟩
        rw [← ht] at hT2
        have tc := (HTAB.out.low G.out).cell at' i hatn hlt
        rw [← ht] at tc
        have HT2 := Lib.hid hT2
        have hsq := sq_lt hatn hlt
        have hn9 : N * N ≤ 90000 := by have := Nat.mul_le_mul hq3 hq3; omega
        have hle : at' * N ≤ at' * N + i := Nat.le_add_right _ _
        have zw1 : IntKind.i64.wrap ((at' : Int) * (N : Int)) = ((at' * N : Nat) : Int) := by rw [← Int.natCast_mul, IntKind.wrap_i64]; omega
        have zw2 : IntKind.i64.wrap (((at' * N : Nat) : Int) + (i : Int)) = ((at' * N + i : Nat) : Int) := by rw [← Int.natCast_add, IntKind.wrap_i64]; omega
        have zsq : ((at' * N + i : Nat) : Int) < ((N * N : Nat) : Int) := by omega
        have HPUT := Lib.hid (rput_c R n wr vr (by omega) O.out)
        have HRS := Lib.hid (show Way (stepE (ensOf qs)) u n → putS n R false = R ++ [n] from fun _ => putS_last fun x hx => by
          rw [K.out] at hx
          have hx2 := (List.mem_filter.1 hx).1
          obtain ⟨k, hk, e⟩ := List.getElem_of_mem hx2
          rw [List.length_take] at hk
          rw [List.getElem_take] at e
          have hki : k < i := by omega
          have hr := HG.out.rises
          unfold Rises at hr
          rw [List.pairwise_iff_getElem] at hr
          have h1 := hr k i (by have := names_len (ensOf qs); omega) (by have := names_len (ensOf qs); omega) hki
          unfold cmpE at h1
          have e2 : ((ensOf qs)[k]'(by have := names_len (ensOf qs); omega)).u = x := by rw [← e]; simp [namesE]
          have e3 : ((ensOf qs)[i]'(by have := names_len (ensOf qs); omega)).u = n := by rw [← hni]; simp [namesE]
          rw [e2, e3] at h1
          exact h1)
        clear hn hcs hni hst hT2 ht hin
        cases t with
        | true =>
          have HW := Lib.hid (HT2.out.1 rfl)
          have HPS := Lib.hid (HRS.out HW.out)
          go_wp2_with fail
          refine HPUT.out.mono ?_
          rintro e w5 ⟨v5, rfl, O5, l5⟩
          rw [HPS.out] at O5
          have L5 := Lib.hid (G.out.trans l5)
          have U5 := Lib.hid (OwnR.usIn (A := fun _ => True) O5 fun _ _ => trivial).any
          clear l5 O5 HPUT e0 e1 tc
          go_wp2_with fail
          go_roundg (N - (i + 1))
          case measure => omega
          case rel => exact ⟨_, i + 1, R ++ [n], rfl, by go_num, by omega, by omega, by simp; omega, L5, U5, Lib.hid (by rw [HSTEP.out, if_pos HW.out, K.out])⟩
        | false =>
          have HW := Lib.hid (show ¬ Way (stepE (ensOf qs)) u n from fun h => by have := HT2.out.2 h; simp at this)
          go_wp2_with fail
          go_roundg (N - (i + 1))
          case measure => omega
          case rel => exact ⟨_, i + 1, R, rfl, by go_num, by omega, by omega, by omega, G, O, Lib.hid (by rw [HSTEP.out, if_neg HW.out, List.append_nil, K.out])⟩
      · have zl : ¬ (i : Int) < (N : Int) := by omega
        obtain rfl : i = N := by omega
        go_wp2_with fail
        go_ret
        refine ⟨_, rfl, ?_, L2.out.trans G.out⟩
        have hR2 : R = abvN (ensOf qs) u := by
          rw [K.out, ← HNL.out, List.take_length]; rfl
        rw [← hR2]
        exact O.out

set_option maxHeartbeats 16000000 in
set_option maxRecDepth 100000 in
theorem rin_c (qs : List Ee) (w : World) (r : Value) (a b : Us) (h : EtAt w r qs) (hg : GoodC (ensOf qs)) : Calls Tryz.prog 19 #[r, .agg #[.string a.t, .string a.i], .agg #[.string b.t, .string b.i]] w fun e w' => e = .returned (.bool (inB (ensOf qs) a b)) ∧ Low w w' := by
  obtain ⟨ao, c, rfl, ⟨hlc, hc9⟩, hx⟩ := h.at
  have mixed : Tryz.prog.follows .mixedOrders = true := by kernel_rfl
  have HX := Lib.hid hx
  have HE := Lib.hid h
  have HG := Lib.hid hg
  have hq3 : qs.length ≤ 300 := by have := hg.len; unfold ensOf at this; rwa [List.length_map] at this
  obtain ⟨U0, hU0⟩ : ∃ W, W = (w.alloc (.cells #[.string a.t, .string a.i] 24)).alloc (.cells #[.string b.t, .string b.i] 24) := ⟨_, rfl⟩
  have HU0 := Lib.hid hU0
  have L0 := Lib.hid (show Low w U0 by rw [hU0]; exact Low.alloc (Low.alloc (Low.refl w) _) _)
  have BA := Lib.hid (show BoxAt U0 w.heap.size [.string a.t, .string a.i] from BoxAt.low (BoxAt.made (w := w) (W := w.alloc (.cells #[.string a.t, .string a.i] 24)) rfl rfl rfl) (show Low (w.alloc (.cells #[.string a.t, .string a.i] 24)) U0 by rw [hU0]; exact Low.alloc (Low.refl _) _))
  have BB := Lib.hid (show BoxAt U0 (w.heap.size + 1) [.string b.t, .string b.i] from BoxAt.made hU0 (by simp) rfl)
  clear hx h hg hU0
  obtain ⟨N, hN⟩ : ∃ N, N = qs.length := ⟨_, rfl⟩
  rw [← hN] at hlc hq3 ⊢
  have HN := Lib.hid hN
  clear hN
  have qE := fun W => us_eql a b W
  go_enter Tryz.func19, Tryz.ntmps19
  go_upto_region 1 with fail
  rw [← HU0.out]
  clear HU0
  obtain ⟨a0, a1⟩ := BA.out.at2
  obtain ⟨b0, b1⟩ := BB.out.at2
  obtain ⟨t, ht⟩ : ∃ t, t = decide (a = b) := ⟨_, rfl⟩
  rw [← ht] at qE
  have HT := Lib.hid ht
  clear ht
  cases t with
  | true =>
    go_wp2_with fail
    go_ret
    exact ⟨by rw [inB_iff.2 (.inl (by have := HT.out; simpa using this.symm))]; rfl, L0.out⟩
  | false =>
    have HAB := Lib.hid (show a ≠ b by have := HT.out; simpa using this.symm)
    have HSB := Lib.hid (show w.heap.size + 1 < U0.heap.size from BB.out.lt)
    obtain ⟨U1, hU1⟩ : ∃ W, W = U0.alloc (.cells #[.string a.t, .string a.i] 24) := ⟨_, rfl⟩
    have HU1 := Lib.hid hU1
    have L01 := Lib.hid (show Low U0 U1 by rw [hU1]; exact Low.alloc (Low.refl U0) _)
    have OW := Lib.hid (show OwnU U0.heap.size U1 (.slice (some ⟨U0.heap.size, 0, none⟩) 1 1) [a] from ownU_box a hU1 (Nat.le_refl _))
    have BB1 := Lib.hid (BB.out.low L01.out)
    have L1 := Lib.hid (L0.out.trans L01.out)
    clear hU1 HT BA
    go_upto_region 4 with fail
    rw [← HU1.out]
    clear HU1 a0 a1 b0 b1 BB L01 qE
    go_wp2_with fail
    go_loopg [7, 8] (N + 2) (fun gk vs vi wr => ∃ (vr : Value) (i : Nat) (R : List Us), vr = vs ∧ vi = .int .i64 (i : Int) ∧ i ≤ R.length ∧ R.length ≤ N + 1 ∧ N + 2 - i ≤ gk ∧ Hid (RIn (ensOf qs) a b R i 0) ∧ Hid (Low w wr) ∧ Hid (OwnU U0.heap.size wr vr R) ∧ Hid (BoxAt wr (w.heap.size + 1) [.string b.t, .string b.i]) ∧ U0.heap.size ≤ wr.heap.size)
    case atStart => exact ⟨_, 0, [a], rfl, rfl, Nat.zero_le _, by simp, Nat.le_refl _, Lib.hid (RIn.start _ _ _), L1, OW, BB1, by have := OW.out.2; have := (World.ownsRow.lt OW.out U0.heap.size rfl).2; omega⟩
    case round =>
      clear L1 OW BB1
      obtain ⟨vr, i, R, rfl, rfl, hi, hR, hg, K, G, O, B, hsz⟩ := hrel
      obtain ⟨ar, cr, rfl, hr1, hr2, hro⟩ := OwnR.shape O.out
      by_cases hlt : i < R.length
      · have zl : (i : Int) < (R.length : Int) := by omega
        rcases hro with h0 | ⟨g, rfl, hgB, hgs⟩
        · rw [h0] at hlt; simp at hlt
        obtain ⟨r0, r1⟩ := ownU_cells O.out hlt
        obtain ⟨n, hn⟩ : ∃ n, n = R[i] := ⟨_, rfl⟩
        rw [← hn] at r0 r1
        have HNR := Lib.hid hn
        have hfind := (find_c (qs.map Ee.sh) n wr _ (HE.out.1.low G.out))
        rw [← HN.out] at hfind
        unfold usV at hfind
        clear hn
        by_cases hin : (fS (qs.map Ee.sh) n).isSome = true
        case neg =>
          have hno : (fS (qs.map Ee.sh) n).isSome = false := by simpa using hin
          rw [findI_no hno] at hfind
          have HF := Lib.hid hfind
          have HPE := Lib.hid (show PE (ensOf qs) R[i] = [] by
            rw [← HNR.out]
            unfold PE
            cases e : fstE (ensOf qs) n with
            | none => rfl
            | some q => exact absurd (fS_names.2 (fst_some.1 (by rw [e]; rfl))) hin)
          clear hin hno hfind
          go_wp2_with fail
          refine HF.out.mono ?_
          rintro e w5 ⟨rfl, l5⟩
          have L5 := Lib.hid l5
          clear l5 r0 r1 HF
          go_wp2_with fail
          go_roundg (N + 2 - (i + 1))
          case measure => omega
          case rel => exact ⟨_, i + 1, R, rfl, by go_num, by omega, by omega, by omega, Lib.hid (K.out.next hlt (by rw [HPE.out]; exact Nat.zero_le _)), Lib.hid (G.out.trans L5.out), Lib.hid (OwnR.low O.out L5.out), Lib.hid (B.out.low L5.out), Nat.le_trans hsz L5.out.size⟩
        case pos =>
          obtain ⟨at', hat⟩ : ∃ t, t = idxS (qs.map Ee.sh) n := ⟨_, rfl⟩
          rw [findI_idx hin, ← hat] at hfind
          obtain ⟨hat1, hat2⟩ := idx_lt hin
          simp only [← hat] at hat1 hat2
          have hatq : at' < qs.length := by simpa using hat1
          have HF := Lib.hid hfind
          have hau : qs[at'].e.u = n := by rw [List.getElem_map] at hat2; exact hat2
          obtain ⟨q, hq⟩ : ∃ q, q = qs[at'] := ⟨_, rfl⟩
          have HPE := Lib.hid (show q.e.ps = PE (ensOf qs) R[i] by
            rw [← HNR.out, ← hau, PE_of (rises_names HG.out.rises) (mem_ens hatq), hq])
          have HPQ := Lib.hid (show UsAt w (.slice q.ap q.e.ps.length q.cp) q.e.ps by rw [hq]; exact (HE.out.2 _ (List.getElem_mem hatq)).1.any)
          obtain ⟨bq, oq, rfl, hcs⟩ := HX.out at' hatq
          rw [← hq] at hcs
          have HCS := Lib.hid hcs
          clear hat hat1 hat2 hin hfind hau hq hcs
          have hatn : at' < N := by rw [HN.out]; exact hatq
          have zat : ¬ ((at' : Int) < 0) := by omega
          have zat2 : (at' : Int) < (N : Int) := by omega
          go_wp2_with fail
          refine HF.out.mono ?_
          rintro e w5 ⟨rfl, l5⟩
          have G5 := Lib.hid (G.out.trans l5)
          have O5 := Lib.hid (OwnR.low O.out l5)
          have B5 := Lib.hid (B.out.low l5)
          have hsz5 : U0.heap.size ≤ w5.heap.size := Nat.le_trans hsz l5.size
          clear l5 r0 r1 HF G O B
          obtain ⟨m, hm⟩ : ∃ m, m = q.e.ps.length := ⟨_, rfl⟩
          have HM := Lib.hid hm
          clear hm
          have HKN := Lib.hid (show ∃ h : i < R.length, R[i] = n from ⟨hlt, HNR.out.symm⟩)
          have hm20 : m ≤ 300 := by rw [HM.out, HPE.out]; exact HG.out.pe _
          have HPN := Lib.hid (show q.e.ps = PE (ensOf qs) n by rw [HPE.out, ← HNR.out])
          go_wp2_with fail
          go_loopg [7, 10] m (fun gj vs vj wi => ∃ (vr : Value) (j : Nat) (R' : List Us), vr = vs ∧ vj = .int .i64 (j : Int) ∧ j ≤ m ∧ m - j ≤ gj ∧ R'.length ≤ N + 1 ∧ i < R'.length ∧ Hid (∃ h : i < R'.length, R'[i] = n) ∧ Hid (RIn (ensOf qs) a b R' i j) ∧ Hid (Low w wi) ∧ Hid (OwnU U0.heap.size wi vr R') ∧ Hid (BoxAt wi (w.heap.size + 1) [.string b.t, .string b.i]) ∧ U0.heap.size ≤ wi.heap.size)
          case atStart => exact ⟨_, 0, R, rfl, rfl, Nat.zero_le _, Nat.le_refl _, hR, hlt, HKN, K, G5, O5, B5, hsz5⟩
          case round =>
            clear HKN K G5 O5 B5 hsz5 HNR HPE
            obtain ⟨vr, j, R', rfl, rfl, hj, hgj, hR', hiR, KN, K, G, O, B, hszi⟩ := hrel
            obtain ⟨ar', cr', rfl, hr1', hr2', hro'⟩ := OwnR.shape O.out
            rcases hro' with h0 | ⟨g', rfl, hgB', hgs'⟩
            · rw [h0] at hiR; simp at hiR
            obtain ⟨-, -, e2, -⟩ := ee11 (G.out.cells HCS.out)
            rw [← HM.out] at e2
            by_cases hjt : j < m
            · have zj : (j : Int) < (m : Int) := by omega
              obtain ⟨ap, cp, hpv, -, hp3⟩ := HPQ.out
              obtain ⟨az, haz⟩ : ∃ x, x = q.ap := ⟨_, rfl⟩
              obtain ⟨cz, hcz⟩ : ∃ x, x = q.cp := ⟨_, rfl⟩
              rw [← haz, ← hcz] at hpv e2
              simp only [Value.slice.injEq, true_and] at hpv
              obtain ⟨rfl, rfl⟩ := hpv
              have hjp : j < q.e.ps.length := by rw [← HM.out]; exact hjt
              obtain ⟨pb, po, rfl, hpc⟩ := hp3 j hjp
              obtain ⟨d0, d1⟩ := cells2 (G.out.cells hpc)
              obtain ⟨p, hp⟩ : ∃ p, p = q.e.ps[j] := ⟨_, rfl⟩
              rw [← hp] at d0 d1
              have hPR : q.e.ps = PE (ensOf qs) (R'[i]'hiR) := by obtain ⟨_, e⟩ := KN.out; rw [e]; exact HPN.out
              have hjm : j < (PE (ensOf qs) (R'[i]'hiR)).length := by rw [← hPR]; exact hjp
              have HPJ := Lib.hid (show ∀ h, (PE (ensOf qs) (R'[i]'hiR))[j]'h = p from fun h => by rw [hp]; simp only [hPR])
              obtain ⟨W3, hW3⟩ : ∃ W, W = wr.alloc (.cells #[.string p.t, .string p.i] 24) := ⟨_, rfl⟩
              have HW3 := Lib.hid hW3
              have L3 := Lib.hid (show Low wr W3 by rw [hW3]; exact Low.alloc (Low.refl wr) _)
              have BP := Lib.hid (show BoxAt W3 wr.heap.size [.string p.t, .string p.i] from BoxAt.made hW3 rfl rfl)
              have B3 := Lib.hid (B.out.low L3.out)
              have O3 := Lib.hid (OwnR.low O.out L3.out)
              have G3 := Lib.hid (G.out.trans L3.out)
              have HZW := Lib.hid (show W3.heap.size = wr.heap.size + 1 by rw [hW3]; simp)
              have hsz3 : U0.heap.size ≤ W3.heap.size := Nat.le_trans hszi L3.out.size
              have qE := fun W => us_eql p b W
              obtain ⟨t, ht⟩ : ∃ t, t = decide (p = b) := ⟨_, rfl⟩
              rw [← ht] at qE
              have HT := Lib.hid ht
              clear hp hpc hPR haz hcz hp3 hW3 ht O B G
              go_upto_region 13 with fail
              rw [← HW3.out]
              clear HW3 d0 d1 e2
              obtain ⟨p0, p1⟩ := BP.out.at2
              obtain ⟨b0, b1⟩ := B3.out.at2
              cases t with
              | true =>
                go_wp2_with fail
                go_ret
                refine ⟨?_, G3.out⟩
                have hpb : p = b := by have := HT.out; simpa using this.symm
                have hw := K.out.step HG.out.closed hiR hjm
                rw [HPJ.out, hpb] at hw
                rw [inB_iff.2 (.inr hw)]; rfl
              | false =>
                have HPB := Lib.hid (show p ≠ b by have := HT.out; simpa using this.symm)
                clear HT
                obtain ⟨L, hL⟩ : ∃ L, L = R'.length := ⟨_, rfl⟩
                have HLL := Lib.hid hL
                have hLN : L ≤ N + 1 := by omega
                rw [← hL] at O3 hr1' hiR ⊢
                clear hL
                have BP3 := Lib.hid BP.out
                clear BP
                go_wp2_with fail
                clear p0 p1 b0 b1 qE
                go_loopg [12, 13] L (fun gz vx vy wz => ∃ (s : Bool) (k : Nat), vx = .bool s ∧ vy = .int .i64 (k : Int) ∧ k ≤ L ∧ L - k ≤ gz ∧ Hid (s = decide (p ∈ R'.take k)) ∧ Hid (Low W3 wz))
                case atStart => exact ⟨false, 0, rfl, rfl, Nat.zero_le _, Nat.le_refl _, Lib.hid (by simp), Lib.hid (Low.refl _)⟩
                case round =>
                  obtain ⟨s, k, rfl, rfl, hk, hgz, HSS, GZ⟩ := hrel
                  have OZ := Lib.hid (OwnR.low O3.out GZ.out)
                  obtain ⟨p0, p1⟩ := (BP3.out.low GZ.out).at2
                  by_cases hkt : k < L
                  · have zk : (k : Int) < (L : Int) := by omega
                    have hkr : k < R'.length := by rw [← HLL.out]; exact hkt
                    obtain ⟨r0, r1⟩ := ownU_cells OZ.out hkr
                    obtain ⟨x, hx⟩ : ∃ x, x = R'[k] := ⟨_, rfl⟩
                    rw [← hx] at r0 r1
                    have HTK := Lib.hid (show R'.take (k + 1) = R'.take k ++ [x] by rw [hx, List.take_succ_eq_append_getElem hkr])
                    clear hx
                    cases s with
                    | true =>
                      go_wp2_with fail
                      go_quiet (fail)
                      have LQ := Lib.hid (Low.drewN wr nq)
                      obtain ⟨WQ, hWQ⟩ : ∃ Y, Y = wr.drewN nq := ⟨_, rfl⟩
                      rw [← hWQ] at LQ ⊢
                      clear hWQ r0 r1 p0 p1
                      go_wp2_with fail
                      go_roundg (L - (k + 1))
                      case measure => omega
                      case rel =>
                        refine ⟨true, k + 1, rfl, by go_num, by omega, by omega, Lib.hid ?_, Lib.hid (GZ.out.trans LQ.out)⟩
                        have h1 : p ∈ R'.take k := by have := HSS.out; simpa using this.symm
                        rw [HTK.out, decide_eq_true (List.mem_append.2 (.inl h1))]
                    | false =>
                      have qE := fun W => us_eql x p W
                      obtain ⟨t, ht⟩ : ∃ t, t = decide (x = p) := ⟨_, rfl⟩
                      rw [← ht] at qE
                      have HT := Lib.hid ht
                      clear ht
                      go_wp2_with fail
                      go_quiet (fail)
                      have LQ := Lib.hid (Low.drewN wr nq)
                      obtain ⟨WQ, hWQ⟩ : ∃ Y, Y = wr.drewN nq := ⟨_, rfl⟩
                      rw [← hWQ] at LQ ⊢
                      clear hWQ r0 r1 p0 p1 qE
                      go_wp2_with fail
                      go_roundg (L - (k + 1))
                      case measure => omega
                      case rel =>
                        refine ⟨t, k + 1, rfl, by go_num, by omega, by omega, Lib.hid ?_, Lib.hid (GZ.out.trans LQ.out)⟩
                        have h1 : p ∉ R'.take k := by have := HSS.out; simpa using this.symm
                        rw [HTK.out, HT.out]
                        have : (x = p) ↔ (p ∈ R'.take k ++ [x]) := by
                          rw [List.mem_append, List.mem_singleton]
                          exact ⟨fun e => .inr e.symm, fun e => e.elim (fun e => absurd e h1) fun e => e.symm⟩
                        simp only [this]
                  · have zk : ¬ (k : Int) < (L : Int) := by omega
                    have HSR := Lib.hid (show s = decide (p ∈ R') by
                      have h1 := HSS.out
                      rwa [show k = R'.length by have := HLL.out; omega, List.take_length] at h1)
                    have GG := Lib.hid (G3.out.trans GZ.out)
                    have BZ := Lib.hid (B3.out.low GZ.out)
                    have hszz : U0.heap.size ≤ wr.heap.size := Nat.le_trans hsz3 GZ.out.size
                    have hiR2 : i < R'.length := by rw [← HLL.out]; exact hiR
                    cases s with
                    | true =>
                      have HIN := Lib.hid (show p ∈ R' by have := HSR.out; simpa using this.symm)
                      clear p0 p1
                      go_wp2_with fail
                      go_roundg (m - (j + 1))
                      case measure => omega
                      case rel => exact ⟨_, j + 1, R', rfl, by go_num, by omega, by omega, by have := HLL.out; omega, hiR2, KN, Lib.hid (K.out.old hiR2 hjm (by rw [HPJ.out]; exact HIN.out) (by rw [HPJ.out]; exact HPB.out)), GG, OZ, BZ, hszz⟩
                    | false =>
                      have HIN := Lib.hid (show p ∉ R' by have := HSR.out; simpa using this.symm)
                      have HNEW := Lib.hid (show RIn (ensOf qs) a b (R' ++ [p]) i (j + 1) by
                        have h1 := K.out.new HG.out.closed hiR2 hjm (by rw [HPJ.out]; exact HIN.out) (by rw [HPJ.out]; exact HPB.out)
                        rwa [HPJ.out] at h1)
                      have hlen : (R' ++ [p]).length ≤ N + 1 := by have h1 := HNEW.out.len; rw [HN.out]; simpa [ensOf] using h1
                      have hL6 : R'.length ≤ 1000000 := by have := HLL.out; omega
                      have HKN2 := Lib.hid (show ∃ h : i < (R' ++ [p]).length, (R' ++ [p])[i] = n by
                        obtain ⟨h1, h2⟩ := KN.out
                        exact ⟨by rw [List.length_append]; omega, by rw [List.getElem_append_left h1]; exact h2⟩)
                      go_wp2_with (first
                        | (at_builtin; go_loud (refine appR rfl _ _ _ rfl Tryz.underlying33 u_info rfl (by decide) (by decide) encU_len encU_one U0.heap.size _ R' rfl (OwnR.alloc OZ.out _) p ⟨wr.heap.size, 0, none⟩ 1 rfl (fun j u hj => newcell_at _ _ _ _ _ rfl hj) hL6 (by show U0.heap.size ≤ (wr.alloc _).heap.size; rw [size_alloc9]; omega) ?_); intro v6 w6 O6 B6 K6 N6))
                      have hal := Low.alloc (Low.refl wr) (.cells #[.string p.t, .string p.i] 24)
                      have O6' := Lib.hid O6
                      have G6 := Lib.hid (show Low w w6 from (GG.out.trans hal).trans_belowU B6 L0.out.size)
                      have BZ6 := Lib.hid ((BZ.out.low hal).below B6 HSB.out)
                      have hsz6 : U0.heap.size ≤ w6.heap.size := Nat.le_trans (Nat.le_trans hszz hal.size) B6.size
                      clear O6 B6 K6 N6 hal p0 p1
                      go_roundg (m - (j + 1))
                      case measure => omega
                      case rel => exact ⟨_, j + 1, R' ++ [p], rfl, by go_num, by omega, by omega, hlen, by rw [List.length_append]; omega, HKN2, HNEW, G6, O6', BZ6, hsz6⟩
            · have zj : ¬ (j : Int) < (m : Int) := by omega
              go_wp2_with fail
              go_roundg (N + 2 - (i + 1))
              case measure => omega
              case rel => exact ⟨_, i + 1, R', rfl, by go_num, by omega, by omega, by omega, Lib.hid (K.out.next hiR (by obtain ⟨_, e⟩ := KN.out; rw [e, ← HPN.out, ← HM.out]; omega)), G, O, B, hszi⟩
      · have zl : ¬ (i : Int) < (R.length : Int) := by omega
        go_wp2_with fail
        go_ret
        refine ⟨?_, G.out⟩
        have : inB (ensOf qs) a b = false := by
          rw [Bool.eq_false_iff]
          intro hb
          rcases inB_iff.1 hb with hb | hb
          · exact HAB.out hb
          · exact K.out.fin (by omega) hb
        rw [this]; rfl
end Go.Proofs.YtmkillbanmbafaaGreat
