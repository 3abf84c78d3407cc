/- A value in any number of sets is that much deeper, and may be just up to the depth that is allowed. No condition. -/
import Derived.Test.YtmpoalejoafadaaNestS
namespace Go.Proofs.Ytmpoalejoafadaa
open Go.RowKit Go.Sort
theorem low_boxA {w wr : World} {c0 c1 c2 c3 c4 c5 c6 c7 : Value} {t : TypeId} (h : Low (w.alloc (.cells #[c0, c1, c2, c3, c4, c5, c6, c7] t)) wr) :
    (∀ X, (wr.alloc X).cell? ⟨w.heap.size, 0, none⟩ = some c0) ∧ (∀ X, (wr.alloc X).cell? ⟨w.heap.size, 1, none⟩ = some c1) ∧ (∀ X, (wr.alloc X).cell? ⟨w.heap.size, 2, none⟩ = some c2) ∧ (∀ X, (wr.alloc X).cell? ⟨w.heap.size, 3, none⟩ = some c3) ∧ (∀ X, (wr.alloc X).cell? ⟨w.heap.size, 4, none⟩ = some c4) ∧ (∀ X, (wr.alloc X).cell? ⟨w.heap.size, 5, none⟩ = some c5) ∧ (∀ X, (wr.alloc X).cell? ⟨w.heap.size, 6, none⟩ = some c6) ∧ (∀ X, (wr.alloc X).cell? ⟨w.heap.size, 7, none⟩ = some c7) := by
  have k := fun X => low_box (h.alloc X)
  exact ⟨fun X => (k X).1, fun X => (k X).2.1, fun X => (k X).2.2.1, fun X => (k X).2.2.2.1, fun X => (k X).2.2.2.2.1, fun X => (k X).2.2.2.2.2.1, fun X => (k X).2.2.2.2.2.2.1, fun X => (k X).2.2.2.2.2.2.2⟩
set_option maxHeartbeats 8000000 in
set_option maxRecDepth 100000 in
theorem valueNested_v (v : V) (z : Int) (hz0 : 0 ≤ z) (_hz1 : z ≤ 255) (w : World) (vit vnm : Value) (hv : R w v vit vnm) :
    Calls Try.prog 7 #[av v.h vit vnm, .int .u8 z] w fun e w' => e = .returned (.bool true) ∧ Low w w' := by
  obtain ⟨vai, vci, van, vcn, rfl, rfl⟩ := r_slices hv
  obtain ⟨k, hk⟩ : ∃ k : Nat, z.tmod 60 = k := ⟨(z.tmod 60).toNat, by have := Int.tmod_nonneg 60 hz0; omega⟩
  have hk60 : k < 60 := by have := Int.tmod_lt_of_pos z (show (0 : Int) < 60 by decide); omega
  have L0 := Lib.hid (Low.alloc (Low.refl w) _ : Low w (w.alloc (.cells #[.int .i64 v.h.k, .bool v.h.b, .int .i64 v.h.n, .string v.h.s, .string v.h.t, .string v.h.i, (.slice vai v.l.length vci), (.slice van v.ns.length vcn)] 27)))
  have HV := Lib.hid hv
  clear hv
  unfold av
  go_enter Try.func7, Try.ntmps7
  go_wp2_with fail
  refine (awake_c _).mono ?_
  rintro e w1 ⟨rfl, l1⟩
  have L1 := Lib.hid l1
  obtain ⟨a0, a1, a2, a3, a4, a5, a6, a7⟩ := low_box L1.out
  clear l1
  go_wp2_with fail
  refine (few_c (dep v) v _ 0 _ _ _ (Nat.le_refl _) ((HV.out.low L0.out).low L1.out) (by decide) (by decide)).mono ?_
  rintro e w2 ⟨p1, rfl, hp1, g2⟩
  have L2 := Lib.hid (L1.out.trans g2.low)
  clear a0 a1 a2 a3 a4 a5 a6 a7
  obtain ⟨a0, a1, a2, a3, a4, a5, a6, a7⟩ := low_box L2.out
  have P1 := Lib.hid hp1
  clear g2 hp1
  cases p1 with
  | false =>
    go_wp2_with fail
    go_ret
    exact ⟨rfl, L0.out.trans L2.out⟩
  | true =>
    go_wp2_with fail
    refine (size_c (dep v) v _ _ _ _ (Nat.le_refl _) ((HV.out.low L0.out).low L2.out)).mono ?_
    rintro e w4 ⟨n1, rfl, g4⟩
    have L4 := Lib.hid (L2.out.trans g4.low)
    clear a0 a1 a2 a3 a4 a5 a6 a7
    obtain ⟨a0, a1, a2, a3, a4, a5, a6, a7⟩ := low_box L4.out
    clear g4
    by_cases hn1 : 100 < n1
    · go_wp2_with fail
      go_ret
      exact ⟨rfl, L0.out.trans L4.out⟩
    · go_wp2_with fail
      have SM := Lib.hid (P1.out trivial).1
      have hd61 : dep v ≤ 61 := by have := (P1.out trivial).2; omega
      refine (Canon_c v _ _ _ ((HV.out.low L0.out).low L4.out) SM.out).mono ?_
      rintro e w5 ⟨bi, di, bn, dn, rfl, hrep, hlow⟩
      have L5 := Lib.hid (L4.out.trans hlow)
      clear a0 a1 a2 a3 a4 a5 a6 a7
      obtain ⟨a0, a1, a2, a3, a4, a5, a6, a7⟩ := low_boxA L5.out
      clear hrep hlow
      go_wp2_with fail
      have L5' := Lib.hid (L5.out.alloc (.cells #[.int .i64 (canD v).2.h.k, .bool (canD v).2.h.b, .int .i64 (canD v).2.h.n, .string (canD v).2.h.s, .string (canD v).2.h.t, .string (canD v).2.h.i, (.slice bi (canD v).2.l.length di), (.slice bn (canD v).2.ns.length dn)] 27))
      refine (depth_c v (by omega) _ _ _ ((HV.out.low L0.out).low L5'.out)).mono ?_
      rintro e w6 ⟨rfl, g6⟩
      have L6 := Lib.hid (L5'.out.trans g6.low)
      clear a0 a1 a2 a3 a4 a5 a6 a7
      obtain ⟨a0, a1, a2, a3, a4, a5, a6, a7⟩ := low_box L6.out
      clear g6
      generalize hD : (canD v).2 = cv at *
      generalize hE : (canD v).1 = ce at *
      have HD := Lib.hid hD
      have HE := Lib.hid hE
      have hdp := dpt_le_dep v
      have hdn : ∀ n, (dpt (nestV v n) : Int) = (dpt v : Int) + n := fun n => by rw [dpt_nest]; simp
      have hcn := fun (h : ¬ 50 < dpt v + k) => canD_nest (v := v) (n := k) h
      have HN := Lib.hid hcn
      have hcd := fun (h : 50 < dpt v + k) => canD_nest_deep (v := v) (n := k) h
      have HQ := Lib.hid hcd
      have HDN := Lib.hid (hdn k)
      have HDK := Lib.hid (show dep (nestV v k) ≤ 1000000 by rw [dep_nest]; omega)
      have SK := Lib.hid (sm_nest SM.out k)
      generalize dpt v = dv at *
      clear hD hE hdn hcn hcd
      go_wp2_with fail
      go_loopg [12] k (fun gk vi wr => ∃ (i : Nat) (ai : Option Addr) (ci : Nat) (an : Option Addr) (cn : Nat), vi = .int .i64 (i : Int) ∧ i ≤ k ∧ k - i ≤ gk ∧ Hid (NestSt w6 w6.heap.size wr (nestV v i) (.slice ai (nestV v i).l.length ci) (.slice an (nestV v i).ns.length cn)))
      case atStart => exact ⟨0, vai, vci, van, vcn, rfl, Nat.zero_le _, Nat.le_refl _, Lib.hid (nest_new ((HV.out.low L0.out).low L6.out))⟩
      case round =>
        clear a0 a1 a2 a3 a4 a5 a6 a7
        obtain ⟨i, ai, ci, an, cn, rfl, hi, hg, ST0⟩ := hrel
        obtain ⟨x, hx⟩ : ∃ x, x = nestV v i := ⟨_, rfl⟩
        rw [← hx] at ST0
        have ST := Lib.hid ST0.out
        have HX := Lib.hid hx
        clear hx ST0
        obtain ⟨e0, e1, e2, e3, e4, e5, e6, e7⟩ := ST.out.cells
        by_cases hlt : i < k
        · have z1 : (i : Int) < (k : Int) := by omega
          obtain ⟨g0, g1, g2, g3, g4, g5, g6, g7⟩ := ST.out.behind (Low.refl wr)
          have f0 := ST.out.free 0
          have f1 := ST.out.free 1
          have f2 := ST.out.free 2
          have f3 := ST.out.free 3
          have f4 := ST.out.free 4
          have f5 := ST.out.free 5
          have f6 := ST.out.free 6
          have f7 := ST.out.free 7
          go_wp2_with fail
          go_roundg (k - (i + 1))
          case measure => omega
          case rel =>
            have hs := nest_step ST.out
            rw [HX.out] at hs
            rw [HX.out]
            exact ⟨i + 1, some ⟨wr.heap.size, 0, none⟩, 1, none, 0, by go_num, by omega, by omega, Lib.hid hs⟩
        · have z1 : ¬ (i : Int) < (k : Int) := by omega
          have hik : i = k := by omega
          have hxk : x = nestV v k := by rw [HX.out, hik]
          obtain ⟨cx, hcx⟩ : ∃ c, c = (canD x).2 := ⟨_, rfl⟩
          obtain ⟨ex, hex⟩ : ∃ c, c = (canD x).1 := ⟨_, rfl⟩
          have q1 : 50 < dv + k → ex = 11 := fun h => by rw [hex, hxk, HQ.out h]
          have q2 : ¬ 50 < dv + k → ex = ce ∧ (ce = 0 → (dpt cx : Int) = (dv : Int) + (k : Int) ∧ dep cx ≤ 1000000) := fun h => by
            obtain ⟨h1, h2⟩ := HN.out h
            rw [hex, hcx, hxk, h1, HE.out]
            refine ⟨rfl, fun h0 => ?_⟩
            have h3 := h2 (HE.out.trans h0)
            refine ⟨by rw [h3]; simp, ?_⟩
            have h4 : canD (nestV v k) = can (nestV v k) := by
              have h5 := HDN.out
              unfold canD
              rw [if_neg (by omega)]
            rw [dep_cn (by rw [h4]; exact can_cn (by rw [← h4, h1, HE.out]; exact h0)), h3]
            omega
          have CC := Canon_c x wr _ _ ST.out.rep.any (by rw [hxk]; exact SK.out)
          rw [← hcx, ← hex] at CC
          have HCC := Lib.hid CC
          have Q1 := Lib.hid q1
          have Q2 := Lib.hid q2
          have CD := Lib.hid (depth_c x (by rw [hxk]; exact HDK.out))
          have hdx : (dpt x : Int) = (dv : Int) + (k : Int) := by rw [hxk]; exact HDN.out
          have HDX := Lib.hid hdx
          clear hik hxk hcx hex q1 q2 CC hdx
          have LR := Lib.hid (L6.out.trans ST.out.low)
          unfold CanPost at HCC
          go_wp2_with fail
          refine HCC.out.mono ?_
          rintro e w8 ⟨bi2, di2, bn2, dn2, rfl, hrep2, hlow2⟩
          clear e0 e1 e2 e3 e4 e5 e6 e7
          obtain ⟨e0, e1, e2, e3, e4, e5, e6, e7⟩ := ST.out.behind hlow2
          have HR2 := Lib.hid hrep2.any
          have L8 := Lib.hid (hlow2.alloc (.cells #[.int .i64 cx.h.k, .bool cx.h.b, .int .i64 cx.h.n, .string cx.h.s, .string cx.h.t, .string cx.h.i, (.slice bi2 cx.l.length di2), (.slice bn2 cx.ns.length dn2)] 27))
          clear hrep2 hlow2
          go_wp2_with fail
          refine (CD.out _ _ _ (ST.out.rep.any.low L8.out)).mono ?_
          rintro e w9 ⟨rfl, g9⟩
          rw [HDX.out]
          have L9 := Lib.hid (L8.out.trans g9.low)
          obtain ⟨b0, b1, b2, b3, b4, b5, b6, b7⟩ := low_box g9.low
          have HR9 := Lib.hid ((HR2.out.low (Low.alloc (Low.refl w8) (.cells #[.int .i64 cx.h.k, .bool cx.h.b, .int .i64 cx.h.n, .string cx.h.s, .string cx.h.t, .string cx.h.i, (.slice bi2 cx.l.length di2), (.slice bn2 cx.ns.length dn2)] 27))).low g9.low)
          clear e0 e1 e2 e3 e4 e5 e6 e7 g9
          by_cases h50 : 50 < dv + k
          · have z5 : (50 : Int) < (dv : Int) + (k : Int) := by omega
            obtain rfl := Q1.out h50
            go_wp2_with fail
            go_ret
            exact ⟨rfl, L0.out.trans (LR.out.trans L9.out)⟩
          · have z5 : ¬ (50 : Int) < (dv : Int) + (k : Int) := by omega
            obtain ⟨rfl, q3⟩ := Q2.out h50
            have Q3 := Lib.hid q3
            clear q3
            by_cases h0 : ex = 0
            · obtain ⟨q4, q5⟩ := Q3.out h0
              have Q4 := Lib.hid q4
              have Q5 := Lib.hid q5
              clear q4 q5
              subst h0
              go_wp2_with fail
              refine (depth_c cx Q5.out _ _ _ HR9.out).mono ?_
              rintro e w10 ⟨rfl, g10⟩
              rw [Q4.out]
              go_wp2_with fail
              go_ret
              exact ⟨rfl, L0.out.trans (LR.out.trans (L9.out.trans g10.low))⟩
            · clear Q3 Q1 Q2
              go_wp2_with fail
              go_ret
              exact ⟨rfl, L0.out.trans (LR.out.trans L9.out)⟩
end Go.Proofs.Ytmpoalejoafadaa
