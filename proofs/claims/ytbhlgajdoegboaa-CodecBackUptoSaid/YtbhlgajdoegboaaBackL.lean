/- CodecBack: what is encoded is decoded as it must be; values that must be unlike have other bytes. Condition: the arguments' size. -/
import Derived.Test.YtbhlgajdoegboaaGetD
import Derived.Test.YtbhlgajdoegboaaRdW
namespace Go.Proofs.Ytbhlgajdoegboaa
open Go.RowKit Go.Sort
theorem b8_any (W : World) (c0 c1 c2 c3 c4 c5 c6 c7 : Value) (nb : Nat) (hnb : W.heap.size = nb) : B8 (W.alloc (.cells #[c0, c1, c2, c3, c4, c5, c6, c7] 29)) nb c0 c1 c2 c3 c4 c5 c6 c7 := by
  subst hnb
  obtain ⟨h1, h2⟩ := kept_new (rb := W.heap.size + 1) (KeptBut.refl (W.alloc (.cells #[c0, c1, c2, c3, c4, c5, c6, c7] 29)) _) (by omega)
  exact ⟨h1, by simp, h2⟩
/-- Decode of a value's bytes. -/
theorem dec_must {k : V} (hk : Must k) (hlen : (lay k).length ≤ 65536) (B : Nat) (w : World) (ao : Option Addr) (cap n : Nat) (hn : (lay k).length = n) (h : Own B w (.slice ao n cap) (lay k)) :
    Calls Try.prog 14 #[.slice ao n cap] w fun e w' => CanPost k 0 w e w' ∧ ∀ c, Must c → lay k = lay c → k = c := by
  subst hn
  refine (dec_c (lay k) hlen _ rfl w ao cap (own_bytes h)).mono fun e w' ⟨hl, h⟩ => ?_
  rcases h with ⟨x, ai, ci, an, cn, ⟨h1, h2, h3⟩, he, hr⟩ | ⟨h1, -⟩
  · obtain rfl : x = k := h3 k hk rfl
    exact ⟨⟨ai, ci, an, cn, he, hr, hl⟩, h3⟩
  · exact absurd ⟨k, hk, rfl⟩ h1
theorem enc_must {v : V} (h : (encD v).1 = 0) (hi : Iv v) : ∃ k, Must k ∧ (lay k).length ≤ 65536 ∧ (encD v).2 = lay k ∧ canD v = (0, k) := by
  have h0 : (canD v).1 = 0 := by
    by_cases hc : (canD v).1 = 0
    · exact hc
    · rw [encD_bad hc] at h
      exact absurd h hc
  have h1 : ¬ 65536 < (lay (canD v).2).length := fun hc => by
    rw [encD_long h0 hc] at h
    exact absurd h (by decide)
  refine ⟨(canD v).2, must_can h0 hi, by omega, by rw [encD_ok h0 h1], ?_⟩
  rw [← h0]
set_option maxHeartbeats 4000000 in
set_option maxRecDepth 100000 in
theorem codecBack_v (v u : V) (w : World) (v0 v1 u0 u1 : Value) (hr : R w v v0 v1) (hvb : vb v ≤ 1099511627776) (hiv : Iv v) (hru : R w u u0 u1) (hub : vb u ≤ 1099511627776) (hiu : Iv u) :
    Calls Try.prog 5 #[av v.h v0 v1, av u.h u0 u1] w fun e w' => e = .returned (.bool true) ∧ Low w w' := by
  obtain ⟨ai1, ci1, an1, cn1, rfl, rfl⟩ := r_slices hr
  obtain ⟨ai2, ci2, an2, cn2, rfl, rfl⟩ := r_slices hru
  have mixed : Try.prog.follows .mixedOrders = true := by kernel_rfl
  have HR := Lib.hid hr
  have HU := Lib.hid hru
  have HB := Lib.hid hvb
  have HB2 := Lib.hid hub
  have HI := Lib.hid hiv
  have HI2 := Lib.hid hiu
  have FV := Lib.hid (fun W (h : Low w W) => few_c (dep v) v (fun _ => True) 0 W _ _ (Nat.le_refl _) (hr.low h) (by omega) (by omega))
  have FU := Lib.hid (fun W (h : Low w W) => few_c (dep u) u (fun _ => True) 0 W _ _ (Nat.le_refl _) (hru.low h) (by omega) (by omega))
  have SV := Lib.hid (fun W (h : Low w W) => size_c (dep v) v (fun _ => True) W _ _ (Nat.le_refl _) (hr.low h))
  have SU := Lib.hid (fun W (h : Low w W) => size_c (dep u) u (fun _ => True) W _ _ (Nat.le_refl _) (hru.low h))
  have L0 := Lib.hid (Low.alloc (Low.alloc (Low.refl w) (.cells #[.int .i64 v.h.k, .bool v.h.b, .int .i64 v.h.n, .string v.h.s, .string v.h.t, .string v.h.i, .slice ai1 v.l.length ci1, .slice an1 v.ns.length cn1] 29)) (.cells #[.int .i64 u.h.k, .bool u.h.b, .int .i64 u.h.n, .string u.h.s, .string u.h.t, .string u.h.i, .slice ai2 u.l.length ci2, .slice an2 u.ns.length cn2] 29))
  have BV := Lib.hid ((b8_any w (.int .i64 v.h.k) (.bool v.h.b) (.int .i64 v.h.n) (.string v.h.s) (.string v.h.t) (.string v.h.i) (.slice ai1 v.l.length ci1) (.slice an1 v.ns.length cn1) _ rfl).low (Low.alloc (Low.refl _) (.cells #[.int .i64 u.h.k, .bool u.h.b, .int .i64 u.h.n, .string u.h.s, .string u.h.t, .string u.h.i, .slice ai2 u.l.length ci2, .slice an2 u.ns.length cn2] 29)))
  have BU := Lib.hid (b8_any (w.alloc (.cells #[.int .i64 v.h.k, .bool v.h.b, .int .i64 v.h.n, .string v.h.s, .string v.h.t, .string v.h.i, .slice ai1 v.l.length ci1, .slice an1 v.ns.length cn1] 29)) (.int .i64 u.h.k) (.bool u.h.b) (.int .i64 u.h.n) (.string u.h.s) (.string u.h.t) (.string u.h.i) (.slice ai2 u.l.length ci2) (.slice an2 u.ns.length cn2) (w.heap.size + 1) (by simp))
  unfold av at FV FU SV SU ⊢
  clear hr hru hvb hub hiv hiu
  go_enter Try.func5, Try.ntmps5
  go_wp2_with (first
    | (go_at_call 11; refine (awake4_c _).mono ?_; rintro e w1 ⟨rfl, L1⟩; have LW := Lib.hid L1; obtain ⟨⟨a0, a1, a2, a3, a4, a5, a6, a7⟩, -, -⟩ := BV.out.low (LW.out); obtain ⟨⟨e0, e1, e2, e3, e4, e5, e6, e7⟩, -, -⟩ := BU.out.low (LW.out); clear L1))
  refine (FV.out w1 (L0.out.trans LW.out)).mono ?_
  rintro e w2 ⟨b1, rfl, hb1, g1⟩
  have LX := Lib.hid (LW.out.trans g1.low)
  have HF1 := Lib.hid hb1
  clear hb1 g1 LW
  clear a0 a1 a2 a3 a4 a5 a6 a7 e0 e1 e2 e3 e4 e5 e6 e7
  obtain ⟨⟨a0, a1, a2, a3, a4, a5, a6, a7⟩, -, -⟩ := BV.out.low (LX.out); obtain ⟨⟨e0, e1, e2, e3, e4, e5, e6, e7⟩, -, -⟩ := BU.out.low (LX.out)
  go_wp2_with fail
  refine (FU.out w2 (L0.out.trans LX.out)).mono ?_
  rintro e w3 ⟨b2, rfl, hb2, g2⟩
  have LW := Lib.hid (LX.out.trans g2.low)
  have HF2 := Lib.hid hb2
  clear hb2 g2 LX
  clear a0 a1 a2 a3 a4 a5 a6 a7 e0 e1 e2 e3 e4 e5 e6 e7
  obtain ⟨⟨a0, a1, a2, a3, a4, a5, a6, a7⟩, -, -⟩ := BV.out.low (LW.out); obtain ⟨⟨e0, e1, e2, e3, e4, e5, e6, e7⟩, -, -⟩ := BU.out.low (LW.out)
  cases b1 with
  | false =>
    go_wp2_with fail
    go_ret
    exact ⟨rfl, L0.out.trans LW.out⟩
  | true =>
    cases b2 with
    | false =>
      go_wp2_with fail
      go_ret
      exact ⟨rfl, L0.out.trans LW.out⟩
    | true =>
      obtain ⟨hsm1, hdp1⟩ := HF1.out rfl
      obtain ⟨hsm2, hdp2⟩ := HF2.out rfl
      have HS1 := Lib.hid hsm1
      have HS2 := Lib.hid hsm2
      have HD1 := Lib.hid (show dep v ≤ 1000000 by omega)
      have HD2 := Lib.hid (show dep u ≤ 1000000 by omega)
      clear hsm1 hsm2 hdp1 hdp2 FV FU
      go_wp2_with fail
      refine (SV.out w3 (L0.out.trans LW.out)).mono ?_
      rintro e w4 ⟨n1, rfl, g⟩
      have LX := Lib.hid (LW.out.trans g.low)
      clear g LW
      clear a0 a1 a2 a3 a4 a5 a6 a7 e0 e1 e2 e3 e4 e5 e6 e7
      obtain ⟨⟨a0, a1, a2, a3, a4, a5, a6, a7⟩, -, -⟩ := BV.out.low (LX.out); obtain ⟨⟨e0, e1, e2, e3, e4, e5, e6, e7⟩, -, -⟩ := BU.out.low (LX.out)
      by_cases hn1 : (400 : Int) < n1
      · go_wp2_with fail
        go_ret
        exact ⟨rfl, L0.out.trans LX.out⟩
      go_wp2_with fail
      refine (SU.out w4 (L0.out.trans LX.out)).mono ?_
      rintro e w5 ⟨n2, rfl, g⟩
      have LW := Lib.hid (LX.out.trans g.low)
      clear g LX
      clear a0 a1 a2 a3 a4 a5 a6 a7 e0 e1 e2 e3 e4 e5 e6 e7
      obtain ⟨⟨a0, a1, a2, a3, a4, a5, a6, a7⟩, -, -⟩ := BV.out.low (LW.out); obtain ⟨⟨e0, e1, e2, e3, e4, e5, e6, e7⟩, -, -⟩ := BU.out.low (LW.out)
      by_cases hn2 : (400 : Int) < n2
      · go_wp2_with fail
        go_ret
        exact ⟨rfl, L0.out.trans LW.out⟩
      have E1 := Lib.hid (fun W (h : Low w W) => enc_c v W _ _ (HR.out.low h) HS1.out HB.out)
      have E2 := Lib.hid (fun W (h : Low w W) => enc_c u W _ _ (HU.out.low h) HS2.out HB2.out)
      unfold av EncPost at E1 E2
      obtain ⟨bs1, hbs1⟩ : ∃ bs, bs = (encD v).2 := ⟨_, rfl⟩
      obtain ⟨er1, her1⟩ : ∃ er, er = (encD v).1 := ⟨_, rfl⟩
      obtain ⟨bs2, hbs2⟩ : ∃ bs, bs = (encD u).2 := ⟨_, rfl⟩
      obtain ⟨er2, her2⟩ : ∃ er, er = (encD u).1 := ⟨_, rfl⟩
      rw [← hbs1, ← her1] at E1
      rw [← hbs2, ← her2] at E2
      have HBS1 := Lib.hid hbs1
      have HBS2 := Lib.hid hbs2
      have HER1 := Lib.hid her1
      have HER2 := Lib.hid her2
      clear hbs1 hbs2 her1 her2
      go_wp2_with fail
      refine (E1.out w5 (L0.out.trans LW.out)).mono ?_
      rintro e w6 ⟨ao1, cap1, rfl, O1, L6⟩
      have LX := Lib.hid (LW.out.trans L6)
      have HO1 := Lib.hid O1
      clear O1 L6 LW
      clear a0 a1 a2 a3 a4 a5 a6 a7 e0 e1 e2 e3 e4 e5 e6 e7
      obtain ⟨⟨a0, a1, a2, a3, a4, a5, a6, a7⟩, -, -⟩ := BV.out.low (LX.out); obtain ⟨⟨e0, e1, e2, e3, e4, e5, e6, e7⟩, -, -⟩ := BU.out.low (LX.out)
      go_wp2_with fail
      refine (E2.out w6 (L0.out.trans LX.out)).mono ?_
      rintro e w7 ⟨ao2, cap2, rfl, O2, L7⟩
      have HO1b := Lib.hid (HO1.out.low L7)
      have LW := Lib.hid (LX.out.trans L7)
      have HO2 := Lib.hid O2
      clear O2 L7 LX HO1
      clear a0 a1 a2 a3 a4 a5 a6 a7 e0 e1 e2 e3 e4 e5 e6 e7
      obtain ⟨⟨a0, a1, a2, a3, a4, a5, a6, a7⟩, -, -⟩ := BV.out.low (LW.out); obtain ⟨⟨e0, e1, e2, e3, e4, e5, e6, e7⟩, -, -⟩ := BU.out.low (LW.out)
      by_cases z1 : er1 ≠ 0
      · have q1 : (er1 == 0) = false := by simpa using z1
        have q2 : (er1 != 0) = true := by simpa using z1
        clear z1
        go_wp2_with fail
        go_ret
        exact ⟨rfl, L0.out.trans LW.out⟩
      by_cases z2 : er2 ≠ 0
      · have q1 : (er2 == 0) = false := by simpa using z2
        have q2 : (er2 != 0) = true := by simpa using z2
        obtain rfl : er1 = 0 := Classical.not_not.1 z1
        clear z1 z2
        go_wp2_with fail
        go_ret
        exact ⟨rfl, L0.out.trans LW.out⟩
      obtain rfl : er1 = 0 := Classical.not_not.1 z1
      obtain rfl : er2 = 0 := Classical.not_not.1 z2
      clear z1 z2
      obtain ⟨k, hk, hkl, hkb, hke⟩ := enc_must HER1.out.symm HI.out
      obtain ⟨k2, hk2, hkl2, hkb2, hke2⟩ := enc_must HER2.out.symm HI2.out
      have RC1 := Lib.hid (fun W (h : Low w W) => rCanon_c v W _ _ (HR.out.low h) HS1.out HD1.out)
      have RC2 := Lib.hid (fun W (h : Low w W) => rCanon_c u W _ _ (HU.out.low h) HS2.out HD2.out)
      rw [hke] at RC1
      rw [hke2] at RC2
      unfold av CanPost at RC1 RC2
      have hb1 : bs1 = lay k := by rw [HBS1.out, hkb]
      have hb2 : bs2 = lay k2 := by rw [HBS2.out, hkb2]
      have DC := Lib.hid (fun W (h : Low w7 W) => dec_must hk (by rw [← hkb, ← HBS1.out, hb1]; exact hkl) _ W ao1 cap1 bs1.length (by rw [hb1]) (by have o := HO1b.out.low h; rw [hb1] at o ⊢; exact o))
      unfold CanPost at DC
      have HK2 := Lib.hid hk2
      have HBY1 := Lib.hid hb1
      have HBY2 := Lib.hid hb2
      clear hk hkl hkb hke hk2 hkl2 hkb2 hke2 hb1 hb2 E1 E2 SV SU
      go_wp2_with fail
      refine (DC.out w7 (Low.refl _)).mono ?_
      rintro e w8 ⟨⟨ai3, ci3, an3, cn3, rfl, hr3, L8⟩, hun⟩
      have hqq : ∃ q : Bool, (bs1 == bs2) = q ∧ eqB k k2 = q := by
        by_cases hkk : k = k2
        · exact ⟨true, by rw [HBY1.out, HBY2.out, hkk]; simp, (eqB_true hkk).symm⟩
        · refine ⟨false, ?_, (eqB_false hkk).symm⟩
          have hne : ¬ bs1 = bs2 := fun e => hkk ?_
          · simpa using hne
          · rw [HBY1.out, HBY2.out] at e
            exact hun k2 HK2.out e
      obtain ⟨q, hq1, hq2⟩ := hqq
      have HQ1 := Lib.hid hq1
      have HQ2 := Lib.hid hq2
      clear hq1 hq2 hun
      have B3' := Lib.hid (b8_any w8 (.int .i64 k.h.k) (.bool k.h.b) (.int .i64 k.h.n) (.string k.h.s) (.string k.h.t) (.string k.h.i) (.slice ai3 k.l.length ci3) (.slice an3 k.ns.length cn3) _ rfl)
      have LX := Lib.hid (L8.trans (Low.alloc (Low.refl w8) (.cells #[.int .i64 k.h.k, .bool k.h.b, .int .i64 k.h.n, .string k.h.s, .string k.h.t, .string k.h.i, .slice ai3 k.l.length ci3, .slice an3 k.ns.length cn3] 29)))
      have R3 := Lib.hid (hr3.any.low (Low.alloc (Low.refl w8) (.cells #[.int .i64 k.h.k, .bool k.h.b, .int .i64 k.h.n, .string k.h.s, .string k.h.t, .string k.h.i, .slice ai3 k.l.length ci3, .slice an3 k.ns.length cn3] 29)))
      have LY := Lib.hid (LW.out.trans LX.out)
      clear hr3 L8
      clear a0 a1 a2 a3 a4 a5 a6 a7 e0 e1 e2 e3 e4 e5 e6 e7
      obtain ⟨⟨a0, a1, a2, a3, a4, a5, a6, a7⟩, -, -⟩ := BV.out.low (LY.out); obtain ⟨⟨e0, e1, e2, e3, e4, e5, e6, e7⟩, -, -⟩ := BU.out.low (LY.out)
      go_wp2_with fail
      refine (RC1.out _ (L0.out.trans LY.out)).mono ?_
      rintro e w9 ⟨ai4, ci4, an4, cn4, rfl, hr4, L9⟩
      have B4' := Lib.hid (b8_any w9 (.int .i64 k.h.k) (.bool k.h.b) (.int .i64 k.h.n) (.string k.h.s) (.string k.h.t) (.string k.h.i) (.slice ai4 k.l.length ci4) (.slice an4 k.ns.length cn4) _ rfl)
      have LZ := Lib.hid (L9.trans (Low.alloc (Low.refl w9) (.cells #[.int .i64 k.h.k, .bool k.h.b, .int .i64 k.h.n, .string k.h.s, .string k.h.t, .string k.h.i, .slice ai4 k.l.length ci4, .slice an4 k.ns.length cn4] 29)))
      have R4 := Lib.hid (hr4.any.low (Low.alloc (Low.refl w9) (.cells #[.int .i64 k.h.k, .bool k.h.b, .int .i64 k.h.n, .string k.h.s, .string k.h.t, .string k.h.i, .slice ai4 k.l.length ci4, .slice an4 k.ns.length cn4] 29)))
      have LV := Lib.hid (LY.out.trans LZ.out)
      clear hr4 L9
      clear a0 a1 a2 a3 a4 a5 a6 a7 e0 e1 e2 e3 e4 e5 e6 e7
      obtain ⟨⟨a0, a1, a2, a3, a4, a5, a6, a7⟩, -, -⟩ := BV.out.low (LV.out); obtain ⟨⟨e0, e1, e2, e3, e4, e5, e6, e7⟩, -, -⟩ := BU.out.low (LV.out)
      go_wp2_with fail
      refine (RC2.out _ (L0.out.trans LV.out)).mono ?_
      rintro e wa ⟨ai5, ci5, an5, cn5, rfl, hr5, La⟩
      have B5' := Lib.hid (b8_any wa (.int .i64 k2.h.k) (.bool k2.h.b) (.int .i64 k2.h.n) (.string k2.h.s) (.string k2.h.t) (.string k2.h.i) (.slice ai5 k2.l.length ci5) (.slice an5 k2.ns.length cn5) _ rfl)
      have LQ := Lib.hid (La.trans (Low.alloc (Low.refl wa) (.cells #[.int .i64 k2.h.k, .bool k2.h.b, .int .i64 k2.h.n, .string k2.h.s, .string k2.h.t, .string k2.h.i, .slice ai5 k2.l.length ci5, .slice an5 k2.ns.length cn5] 29)))
      have R5 := Lib.hid (hr5.any.low (Low.alloc (Low.refl wa) (.cells #[.int .i64 k2.h.k, .bool k2.h.b, .int .i64 k2.h.n, .string k2.h.s, .string k2.h.t, .string k2.h.i, .slice ai5 k2.l.length ci5, .slice an5 k2.ns.length cn5] 29)))
      have LT := Lib.hid (LV.out.trans LQ.out)
      clear hr5 La
      clear a0 a1 a2 a3 a4 a5 a6 a7 e0 e1 e2 e3 e4 e5 e6 e7
      have P3 := Lib.hid (B3'.out.low (LZ.out.trans LQ.out))
      have P4 := Lib.hid (B4'.out.low LQ.out)
      have WC1 := Lib.hid (whole_c k k (wa.alloc (.cells #[.int .i64 k2.h.k, .bool k2.h.b, .int .i64 k2.h.n, .string k2.h.s, .string k2.h.t, .string k2.h.i, .slice ai5 k2.l.length ci5, .slice an5 k2.ns.length cn5] 29)) _ _ _ _ (R3.out.low (LZ.out.trans LQ.out)) (R4.out.low LQ.out))
      unfold av at WC1
      rw [← eqB_true rfl] at WC1
      obtain ⟨⟨c0, c1, c2, c3, c4, c5, c6, c7⟩, -, -⟩ := P3.out
      obtain ⟨⟨d0, d1, d2, d3, d4, d5, d6, d7⟩, -, -⟩ := P4.out
      go_wp2_with fail
      refine WC1.out.mono ?_
      rintro e wb ⟨rfl, gb⟩
      have KW := fun n os => gb.low.trans (Gr.grow (Gr.refl wb) n os).low
      have U4 := Lib.hid fun n os => P4.out.low (KW n os)
      have U5 := Lib.hid fun n os => B5'.out.low (KW n os)
      have CV1 := Lib.hid fun n os => own_conv (HO1b.out.low (LX.out.trans (LZ.out.trans (LQ.out.trans (KW n os)))))
      have CV2 := Lib.hid fun n os => own_conv (HO2.out.low (LX.out.trans (LZ.out.trans (LQ.out.trans (KW n os)))))
      have HC := Lib.hid fun n os => whole_c k k2 (grow (wb.drewN n) os) _ _ _ _ (R4.out.low (LQ.out.trans (KW n os))) (R5.out.low (KW n os))
      have GG := Lib.hid fun n os => L0.out.trans (LT.out.trans (KW n os))
      unfold av at HC
      rw [HQ2.out] at HC
      clear KW gb c0 c1 c2 c3 c4 c5 c6 c7 d0 d1 d2 d3 d4 d5 d6 d7
      have cv1 := CV1.out
      have cv2 := CV2.out
      have d0 := fun n os => (U4.out n os).1.1
      have d1 := fun n os => (U4.out n os).1.2.1
      have d2 := fun n os => (U4.out n os).1.2.2.1
      have d3 := fun n os => (U4.out n os).1.2.2.2.1
      have d4 := fun n os => (U4.out n os).1.2.2.2.2.1
      have d5 := fun n os => (U4.out n os).1.2.2.2.2.2.1
      have d6 := fun n os => (U4.out n os).1.2.2.2.2.2.2.1
      have d7 := fun n os => (U4.out n os).1.2.2.2.2.2.2.2
      have c0 := fun n os => (U5.out n os).1.1
      have c1 := fun n os => (U5.out n os).1.2.1
      have c2 := fun n os => (U5.out n os).1.2.2.1
      have c3 := fun n os => (U5.out n os).1.2.2.2.1
      have c4 := fun n os => (U5.out n os).1.2.2.2.2.1
      have c5 := fun n os => (U5.out n os).1.2.2.2.2.2.1
      have c6 := fun n os => (U5.out n os).1.2.2.2.2.2.2.1
      have c7 := fun n os => (U5.out n os).1.2.2.2.2.2.2.2
      have hq1 := HQ1.out
      go_wp2_with fail
      go_quiet_grown (first | (go_at_call 16; refine Calls.grown_of (HC.out _ _)))
      go_wp2_with fail
      go_ret
      exact ⟨by simp, GG.out _ _⟩
end Go.Proofs.Ytbhlgajdoegboaa
