/- A set of two sets' members has just those that one of both has. No condition. -/
import Derived.Test.YtkjkhjkbedgcfaaUniP
import Derived.Test.YtkjkhjkbedgcfaaFinds
namespace Go.Proofs.Ytkjkhjkbedgcfaa
open Go.RowKit Go.Sort
theorem low_boxN {w wr : World} {c0 c1 c2 c3 c4 c5 c6 c7 : Value} {t : TypeId} (n : Nat) (h : Low (w.alloc (.cells #[c0, c1, c2, c3, c4, c5, c6, c7] t)) wr) (hn : w.heap.size = n) :
    wr.cell? ⟨n, 0, none⟩ = some c0 ∧ wr.cell? ⟨n, 1, none⟩ = some c1 ∧ wr.cell? ⟨n, 2, none⟩ = some c2 ∧ wr.cell? ⟨n, 3, none⟩ = some c3 ∧ wr.cell? ⟨n, 4, none⟩ = some c4 ∧ wr.cell? ⟨n, 5, none⟩ = some c5 ∧ wr.cell? ⟨n, 6, none⟩ = some c6 ∧ wr.cell? ⟨n, 7, none⟩ = some c7 := by subst hn; exact low_box h
theorem low_boxB {w wr : World} {c0 c1 c2 c3 c4 c5 c6 c7 : Value} {t : TypeId} (n : Nat) (h : Low (w.alloc (.cells #[c0, c1, c2, c3, c4, c5, c6, c7] t)) wr) (hn : w.heap.size = n) :
    (∀ X, (wr.alloc X).cell? ⟨n, 0, none⟩ = some c0) ∧ (∀ X, (wr.alloc X).cell? ⟨n, 1, none⟩ = some c1) ∧ (∀ X, (wr.alloc X).cell? ⟨n, 2, none⟩ = some c2) ∧ (∀ X, (wr.alloc X).cell? ⟨n, 3, none⟩ = some c3) ∧ (∀ X, (wr.alloc X).cell? ⟨n, 4, none⟩ = some c4) ∧ (∀ X, (wr.alloc X).cell? ⟨n, 5, none⟩ = some c5) ∧ (∀ X, (wr.alloc X).cell? ⟨n, 6, none⟩ = some c6) ∧ (∀ X, (wr.alloc X).cell? ⟨n, 7, none⟩ = some c7) := by subst hn; exact low_boxA h
theorem calls_grown {P : Program} {f : FuncId} {args : Array Value} {w : World} {n : Nat} {os : Array Obj} {v : Value}
    (h : Calls P f args (grow (w.drewN n) os) fun e w' => e = .returned v ∧ Gr (grow (w.drewN n) os) w') : Calls P f args (grow (w.drewN n) os) fun e w'' => e = .returned v ∧ ∃ p : GrownBy, w'' = grow (w.drewN p.n) p.os := Calls.grown_of h
theorem sm_set {l : List V} (hn : l.length ≤ 20) (h : ∀ x ∈ l, Sm x) : Sm (sV l) := by
  rw [sm_v]
  exact ⟨hn, Nat.zero_le _, h⟩
theorem r_set {w : World} {l : List V} {it : Value} (h : Ro w l it) : R w (sV l) it (.slice none 0 0) :=
  rep_v.2 ⟨⟨Nat.zero_le _, Nat.zero_le _, Nat.zero_le _⟩, names_nil _ _, h⟩
theorem own_uni {B : Nat} {w : World} {v : Value} {ps qs : List El} {a b : List V} (h : OwnV B w v ([] ++ ps ++ qs)) (hp : ∀ p ∈ ps, R w p.v p.it p.nm) (hq : ∀ p ∈ qs, R w p.v p.it p.nm) (ea : ps.map (·.v) = a) (eb : qs.map (·.v) = b) :
    ∃ ao cap, v = .slice ao (a ++ b).length cap ∧ Ro w (a ++ b) (.slice ao (a ++ b).length cap) := by
  have hr : Ro w (([] ++ ps ++ qs : List El).map (·.v)) v := ownV_row h (A := fun _ => True) (fun p hp' => by
    rw [List.nil_append] at hp'
    exact (List.mem_append.1 hp').elim (hp p) (hq p)) (fun _ _ => trivial) (fun _ _ => trivial)
  rw [List.nil_append, List.map_append, ea, eb] at hr
  obtain ⟨ao, cap, rfl, h2⟩ := hr
  exact ⟨ao, cap, rfl, ao, cap, rfl, h2⟩
theorem src_low {w w' : World} {ps : List El} {ao : Option Addr} (l : Low w w') (h : ps = [] ∨ ∃ ad, ao = some ad ∧ ∀ j u, (ps.flatMap encV)[j]? = some u → w.cell? (ad.add j) = some u) :
    ps = [] ∨ ∃ ad, ao = some ad ∧ ∀ j u, (ps.flatMap encV)[j]? = some u → w'.cell? (ad.add j) = some u :=
  h.imp id fun ⟨ad, h, k⟩ => ⟨ad, h, fun j u hj => l.keep (k j u hj)⟩
set_option maxHeartbeats 8000000 in
set_option maxRecDepth 100000 in
theorem valueUnions_v (a b : List V) (x : V) (w : World) (ait bit xit xnm : Value) (ha : Ro w a ait) (hb : Ro w b bit) (hx : R w x xit xnm) :
    Calls Try.prog 6 #[ait, bit, av x.h xit xnm] w fun e w' => e = .returned (.bool true) ∧ Low w w' := by
  obtain ⟨xai, xci, xan, xcn, rfl, rfl⟩ := r_slices hx
  obtain ⟨aao, acap, ps, rfl, ea, pa, ca⟩ := ro_els ha
  obtain ⟨bao, bcap, qs, rfl, eb, pb, cb⟩ := ro_els hb
  have mixed : Try.prog.follows .mixedOrders = true := by kernel_rfl
  have HA := Lib.hid ha
  have HB := Lib.hid hb
  have HX := Lib.hid hx
  have EA := Lib.hid ea
  have EB := Lib.hid eb
  have PA := Lib.hid pa
  have PB := Lib.hid pb
  have CA := Lib.hid ca
  have CB := Lib.hid cb
  clear ha hb hx ea eb pa pb ca cb
  have L0 := Lib.hid (Low.alloc (Low.refl w) (.cells #[.int .i64 x.h.k, .bool x.h.b, .int .i64 x.h.n, .string x.h.s, .string x.h.t, .string x.h.i, .slice xai x.l.length xci, .slice xan x.ns.length xcn] 27))
  have Hx0 := Lib.hid (Low.refl (w.alloc (.cells #[.int .i64 x.h.k, .bool x.h.b, .int .i64 x.h.n, .string x.h.s, .string x.h.t, .string x.h.i, .slice xai x.l.length xci, .slice xan x.ns.length xcn] 27)))
  unfold av
  go_enter Try.func6, Try.ntmps6
  go_wp2_with fail
  refine (awake_c _).mono ?_
  rintro e w1 ⟨rfl, l1⟩
  have Hx1 := Lib.hid (Hx0.out.trans l1)
  have L1 := Lib.hid (L0.out.trans l1)
  clear l1
  by_cases zA : (10 : Int) < (ps.length : Int)
  · go_wp2_with fail
    go_ret
    exact ⟨rfl, L1.out⟩
  by_cases zB : (10 : Int) < (qs.length : Int)
  · go_wp2_with fail
    go_ret
    exact ⟨rfl, L1.out⟩
  have zP : ps.length ≤ 10 := by omega
  have zQ : qs.length ≤ 10 := by omega
  have ZP := Lib.hid zP
  have ZQ := Lib.hid zQ
  clear zP zQ
  go_wp2_with (first | (at_builtin; refine appRs rfl _ _ _ rfl Try.underlying24 v_info rfl (by decide) (by decide) encV_len encV_one w1.heap.size (.slice none 0 0) [] rfl (OwnR.nil _ _ _ _ _) ps aao acap rfl (src_low L1.out CA.out) (by have := ZP.out; have := ZQ.out; simp; omega) (Nat.le_refl _) ?_; intro v1 w2 h1 b1 k1) | (at_builtin; refine appRs rfl _ _ _ rfl Try.underlying24 v_info rfl (by decide) (by decide) encV_len encV_one w1.heap.size v1 ([] ++ ps) rfl h1 qs bao bcap rfl (src_low (L1.out.trans (Low.trans_below (Low.refl w1) b1 (Nat.le_refl _))) CB.out) (by have := ZP.out; have := ZQ.out; simp; omega) b1.size ?_; intro v2 w3 h2 b2 k2))
  have l3 : Low w1 w3 := Low.trans_below (Low.trans_below (Low.refl w1) b1 (Nat.le_refl _)) b2 (Nat.le_refl _)
  obtain ⟨lao, lcap, rfl, hro⟩ := own_uni h2 (fun p hp => (PA.out p hp).low (L1.out.trans l3)) (fun p hp => (PB.out p hp).low (L1.out.trans l3)) EA.out EB.out
  have UN := Lib.hid (union_not (a := a) (b := b))
  have UI := Lib.hid (union_is (a := a) (b := b))
  have AL := Lib.hid (fun x (h : x ∈ a) => List.mem_append_left b h)
  have BL := Lib.hid (fun x (h : x ∈ b) => List.mem_append_right a h)
  have za : a.length ≤ 10 := by rw [← EA.out, List.length_map]; exact ZP.out
  have zb : b.length ≤ 10 := by rw [← EB.out, List.length_map]; exact ZQ.out
  have zl : (a ++ b).length ≤ 20 := by rw [List.length_append]; omega
  have ZA := Lib.hid za
  have ZB := Lib.hid zb
  have ZL := Lib.hid zl
  generalize a ++ b = l at *
  have HRO := Lib.hid hro
  have L3 := Lib.hid (L1.out.trans l3)
  have Hx2 := Lib.hid (Hx1.out.trans l3)
  clear h1 h2 b1 b2 k1 k2 hro za zb zl zA zB l3
  go_loopg [9] l.length (fun gk vi wr => ∃ i : Nat, vi = .int .i64 (i : Int) ∧ i ≤ l.length ∧ l.length - i ≤ gk ∧ Hid (Low w3 wr) ∧ Hid (∀ j (hj : j < l.length), j < i → Sm l[j]))
  case atStart => exact ⟨0, rfl, Nat.zero_le _, Nat.le_refl _, Lib.hid (Low.refl _), Lib.hid fun j hj h => absurd h (Nat.not_lt_zero _)⟩
  case round =>
    obtain ⟨i, rfl, hi, hg, LR, SR⟩ := hrel
    by_cases hlt : i < l.length
    · have z1 : (i : Int) < (l.length : Int) := by omega
      have z20 : i < 20 := by have := ZL.out; omega
      obtain ⟨b0, o0, ai, ci, an, cn, rfl, hcs, hrx⟩ := ro_at (HRO.out.low LR.out) hlt
      obtain ⟨e0, e1, e2, e3, e4, e5, e6, e7⟩ := cells8 hcs
      have HCS := Lib.hid hcs
      have HRX := Lib.hid hrx
      clear hcs hrx
      go_wp2_with fail
      refine (few_c (dep l[i]) l[i] _ 0 _ _ _ (Nat.le_refl _) HRX.out (by decide) (by decide)).mono ?_
      rintro e w4 ⟨p, rfl, hp, g⟩
      rcases p with _ | _
      · go_wp2_with fail
        go_ret
        exact ⟨rfl, L3.out.trans (LR.out.trans g.low)⟩
      · clear e0 e1 e2 e3 e4 e5 e6 e7
        obtain ⟨e0, e1, e2, e3, e4, e5, e6, e7⟩ := cells8 (g.low.cells HCS.out)
        have HP := Lib.hid (hp rfl).1
        have LG := Lib.hid (LR.out.trans g.low)
        have HRY := Lib.hid (HRX.out.low g.low)
        clear g hp
        go_wp2_with fail
        refine (size_c (dep l[i]) l[i] _ _ _ _ (Nat.le_refl _) HRY.out).mono ?_
        rintro e w5 ⟨n1, rfl, g⟩
        by_cases hn1 : 50 < n1
        · go_wp2_with fail
          go_ret
          exact ⟨rfl, L3.out.trans (LG.out.trans g.low)⟩
        · go_wp2_with fail
          go_roundg (l.length - (i + 1))
          case measure => omega
          case rel =>
            refine ⟨i + 1, by go_num, by omega, by omega, Lib.hid (LG.out.trans g.low), Lib.hid fun j hj hji => ?_⟩
            rcases Nat.lt_succ_iff_lt_or_eq.1 hji with h | rfl
            · exact SR.out j hj h
            · exact HP.out
    · have z1 : ¬ (i : Int) < (l.length : Int) := by omega
      have sml : ∀ x ∈ l, Sm x := fun x hx => by
        obtain ⟨j, hj, rfl⟩ := List.getElem_of_mem hx
        exact SR.out j hj (by omega)
      have SML := Lib.hid sml
      clear sml SR
      have Hx3 := Lib.hid (Hx2.out.trans LR.out)
      have L6 := Lib.hid (L3.out.trans LR.out)
      obtain ⟨xx0, xx1, xx2, xx3, xx4, xx5, xx6, xx7⟩ := low_boxN w.heap.size Hx3.out (by simp)
      go_wp2_with fail
      refine (few_c (dep x) x _ 0 _ _ _ (Nat.le_refl _) (HX.out.low L6.out) (by decide) (by decide)).mono ?_
      rintro e w6 ⟨p, rfl, hp, g⟩
      have Hx4 := Lib.hid (Hx3.out.trans g.low)
      have Hz4 := Lib.hid (LR.out.trans g.low)
      have L7 := Lib.hid (L6.out.trans g.low)
      have HP := Lib.hid hp
      clear g hp
      clear xx0 xx1 xx2 xx3 xx4 xx5 xx6 xx7
      rcases p with _ | _
      · go_wp2_with fail
        go_ret
        exact ⟨rfl, L7.out⟩
      have SX := Lib.hid (HP.out rfl).1
      clear HP
      obtain ⟨xx0, xx1, xx2, xx3, xx4, xx5, xx6, xx7⟩ := low_boxN w.heap.size Hx4.out (by simp)
      go_wp2_with fail
      refine (size_c (dep x) x _ _ _ _ (Nat.le_refl _) (HX.out.low L7.out)).mono ?_
      rintro e w7 ⟨n1, rfl, g⟩
      have Hx5 := Lib.hid (Hx4.out.trans g.low)
      have Hz5 := Lib.hid (Hz4.out.trans g.low)
      have L8 := Lib.hid (L7.out.trans g.low)
      clear g
      clear xx0 xx1 xx2 xx3 xx4 xx5 xx6 xx7
      by_cases hn1 : 50 < n1
      · go_wp2_with fail
        go_ret
        exact ⟨rfl, L8.out⟩
      obtain ⟨es, s, hqs⟩ : ∃ p q, canD (sV a) = (p, q) := ⟨_, _, rfl⟩
      go_wp2_with fail
      have CN := Canon_c (sV a) _ _ _ (r_set (HA.out.low L8.out)) (sm_set (Nat.le_trans ZA.out (by decide)) fun x h => SML.out x (AL.out x h))
      rw [hqs] at CN
      change Calls _ _ _ _ (CanPost s es _) at CN
      have Qs := Lib.hid hqs
      clear hqs
      refine CN.mono ?_
      rintro e w8 ⟨sai, sci, san, scn, rfl, hrep, g⟩
      have Hx6 := Lib.hid (Hx5.out.trans g)
      have Hz6 := Lib.hid (Hz5.out.trans g)
      have L9 := Lib.hid (L8.out.trans g)
      have Rsw8 := Lib.hid hrep.any
      clear g hrep CN
      obtain ⟨et, t, hqt⟩ : ∃ p q, canD (sV b) = (p, q) := ⟨_, _, rfl⟩
      go_wp2_with fail
      have Bs := Lib.hid (Low.alloc (Low.refl w8) (.cells #[.int .i64 s.h.k, .bool s.h.b, .int .i64 s.h.n, .string s.h.s, .string s.h.t, .string s.h.i, .slice sai s.l.length sci, .slice san s.ns.length scn] 27))
      have Hx7 := Lib.hid (Hx6.out.trans Bs.out)
      have Hz7 := Lib.hid (Hz6.out.trans Bs.out)
      have Hs7 := Lib.hid (Low.refl (w8.alloc (.cells #[.int .i64 s.h.k, .bool s.h.b, .int .i64 s.h.n, .string s.h.s, .string s.h.t, .string s.h.i, .slice sai s.l.length sci, .slice san s.ns.length scn] 27)))
      have CN := Canon_c (sV b) _ _ _ (r_set (HB.out.low (L9.out.trans Bs.out))) (sm_set (Nat.le_trans ZB.out (by decide)) fun x h => SML.out x (BL.out x h))
      rw [hqt] at CN
      change Calls _ _ _ _ (CanPost t et _) at CN
      have Qt := Lib.hid hqt
      clear hqt
      refine CN.mono ?_
      rintro e w9 ⟨tai, tci, tan, tcn, rfl, hrep, g⟩
      have Hx8 := Lib.hid (Hx7.out.trans g)
      have Hz8 := Lib.hid (Hz7.out.trans g)
      have Hs8 := Lib.hid (Hs7.out.trans g)
      have L10 := Lib.hid ((L9.out.trans Bs.out).trans g)
      have Rsw9 := Lib.hid (Rsw8.out.low (Bs.out.trans g))
      have Rtw9 := Lib.hid hrep.any
      clear g hrep CN
      obtain ⟨eu, u, hqu⟩ : ∃ p q, canD (sV l) = (p, q) := ⟨_, _, rfl⟩
      go_wp2_with fail
      have Bt := Lib.hid (Low.alloc (Low.refl w9) (.cells #[.int .i64 t.h.k, .bool t.h.b, .int .i64 t.h.n, .string t.h.s, .string t.h.t, .string t.h.i, .slice tai t.l.length tci, .slice tan t.ns.length tcn] 27))
      have Hx9 := Lib.hid (Hx8.out.trans Bt.out)
      have Hz9 := Lib.hid (Hz8.out.trans Bt.out)
      have Hs9 := Lib.hid (Hs8.out.trans Bt.out)
      have Ht9 := Lib.hid (Low.refl (w9.alloc (.cells #[.int .i64 t.h.k, .bool t.h.b, .int .i64 t.h.n, .string t.h.s, .string t.h.t, .string t.h.i, .slice tai t.l.length tci, .slice tan t.ns.length tcn] 27)))
      have CN := Canon_c (sV l) _ _ _ (r_set (HRO.out.low Hz9.out)) (sm_set ZL.out SML.out)
      rw [hqu] at CN
      change Calls _ _ _ _ (CanPost u eu _) at CN
      have Qu := Lib.hid hqu
      clear hqu
      refine CN.mono ?_
      rintro e w10 ⟨uai, uci, uan, ucn, rfl, hrep, g⟩
      have Hx10 := Lib.hid (Hx9.out.trans g)
      have Hz10 := Lib.hid (Hz9.out.trans g)
      have Hs10 := Lib.hid (Hs9.out.trans g)
      have Ht10 := Lib.hid (Ht9.out.trans g)
      have L11 := Lib.hid ((L10.out.trans Bt.out).trans g)
      have Rsw10 := Lib.hid (Rsw9.out.low (Bt.out.trans g))
      have Rtw10 := Lib.hid (Rtw9.out.low (Bt.out.trans g))
      have Ruw10 := Lib.hid hrep.any
      clear g hrep CN
      obtain ⟨xx0, xx1, xx2, xx3, xx4, xx5, xx6, xx7⟩ := low_boxB w.heap.size Hx10.out (by simp)
      obtain ⟨ey, y, hqy⟩ : ∃ p q, canD x = (p, q) := ⟨_, _, rfl⟩
      go_wp2_with fail
      have Bu := Lib.hid (Low.alloc (Low.refl w10) (.cells #[.int .i64 u.h.k, .bool u.h.b, .int .i64 u.h.n, .string u.h.s, .string u.h.t, .string u.h.i, .slice uai u.l.length uci, .slice uan u.ns.length ucn] 27))
      have Hx11 := Lib.hid (Hx10.out.trans Bu.out)
      have Hz11 := Lib.hid (Hz10.out.trans Bu.out)
      have Hs11 := Lib.hid (Hs10.out.trans Bu.out)
      have Ht11 := Lib.hid (Ht10.out.trans Bu.out)
      have Hu11 := Lib.hid (Low.refl (w10.alloc (.cells #[.int .i64 u.h.k, .bool u.h.b, .int .i64 u.h.n, .string u.h.s, .string u.h.t, .string u.h.i, .slice uai u.l.length uci, .slice uan u.ns.length ucn] 27)))
      have CN := Canon_c x _ _ _ (HX.out.low (L11.out.trans Bu.out)) (SX.out)
      rw [hqy] at CN
      change Calls _ _ _ _ (CanPost y ey _) at CN
      have Qy := Lib.hid hqy
      clear hqy
      refine CN.mono ?_
      rintro e w11 ⟨yai, yci, yan, ycn, rfl, hrep, g⟩
      have Hx12 := Lib.hid (Hx11.out.trans g)
      have Hz12 := Lib.hid (Hz11.out.trans g)
      have Hs12 := Lib.hid (Hs11.out.trans g)
      have Ht12 := Lib.hid (Ht11.out.trans g)
      have Hu12 := Lib.hid (Hu11.out.trans g)
      have L12 := Lib.hid ((L11.out.trans Bu.out).trans g)
      have Rsw11 := Lib.hid (Rsw10.out.low (Bu.out.trans g))
      have Rtw11 := Lib.hid (Rtw10.out.low (Bu.out.trans g))
      have Ruw11 := Lib.hid (Ruw10.out.low (Bu.out.trans g))
      have Ryw11 := Lib.hid hrep.any
      clear g hrep CN
      clear xx0 xx1 xx2 xx3 xx4 xx5 xx6 xx7
      have UN2 := Lib.hid (fun (h : es ≠ 0 ∨ et ≠ 0) => (by have q := UN.out (by rw [Qs.out, Qt.out]; exact h); rwa [Qu.out] at q : eu ≠ 0))
      have UI2 := Lib.hid (fun (h : es = 0) (k : et = 0) => (by have q := UI.out (by rw [Qs.out]; exact h) (by rw [Qt.out]; exact k); rwa [Qs.out, Qt.out, Qu.out] at q : eu = 0 ∧ (∀ y, holdsB u y = (holdsB s y || holdsB t y)) ∧ u.l.length ≤ s.l.length + t.l.length))
      clear UN UI
      by_cases hes : es = 0
      case neg =>
        have heu : ¬ eu = 0 := UN2.out (.inl hes)
        go_wp2_with fail
        go_ret
        exact ⟨rfl, L12.out.alloc _⟩
      by_cases het : et = 0
      case neg =>
        have heu : ¬ eu = 0 := UN2.out (.inr het)
        subst hes
        go_wp2_with fail
        go_ret
        exact ⟨rfl, L12.out.alloc _⟩
      obtain ⟨heu, hh, hn⟩ := UI2.out hes het
      have HH := Lib.hid hh
      have HN := Lib.hid hn
      clear hh hn UN2 UI2
      subst hes het heu
      by_cases hey : ey = 0
      case neg =>
        go_wp2_with fail
        go_ret
        exact ⟨rfl, L12.out.alloc _⟩
      subst hey
      obtain ⟨WM, hWM⟩ : ∃ W, W = w11.alloc (.cells #[.int .i64 y.h.k, .bool y.h.b, .int .i64 y.h.n, .string y.h.s, .string y.h.t, .string y.h.i, .slice yai y.l.length yci, .slice yan y.ns.length ycn] 27) := ⟨_, rfl⟩
      have lM : Low w11 WM := hWM ▸ Low.alloc (Low.refl w11) _
      have Hx13 := Lib.hid (Hx12.out.trans lM)
      have Hz13 := Lib.hid (Hz12.out.trans lM)
      have Hs13 := Lib.hid (Hs12.out.trans lM)
      have Ht13 := Lib.hid (Ht12.out.trans lM)
      have Hu13 := Lib.hid (Hu12.out.trans lM)
      have Hy13 : Hid (Low (w11.alloc (.cells #[.int .i64 y.h.k, .bool y.h.b, .int .i64 y.h.n, .string y.h.s, .string y.h.t, .string y.h.i, .slice yai y.l.length yci, .slice yan y.ns.length ycn] 27)) WM) := Lib.hid (hWM ▸ Low.refl _)
      have LM := Lib.hid (L12.out.trans lM)
      have RsM := Lib.hid (Rsw11.out.low lM)
      have RtM := Lib.hid (Rtw11.out.low lM)
      have RuM := Lib.hid (Ruw11.out.low lM)
      have RyM := Lib.hid (Ryw11.out.low lM)
      obtain ⟨sx0, sx1, sx2, sx3, sx4, sx5, sx6, sx7⟩ := low_boxN w8.heap.size Hs13.out (by simp)
      obtain ⟨tx0, tx1, tx2, tx3, tx4, tx5, tx6, tx7⟩ := low_boxN w9.heap.size Ht13.out (by simp)
      obtain ⟨ux0, ux1, ux2, ux3, ux4, ux5, ux6, ux7⟩ := low_boxN w10.heap.size Hu13.out (by simp)
      obtain ⟨yx0, yx1, yx2, yx3, yx4, yx5, yx6, yx7⟩ := low_boxN w11.heap.size Hy13.out (by simp)
      have up : ∀ (a : Addr) (u : Value), WM.cell? a = some u → ∀ n os, (grow (WM.drewN n) os).cell? a = some u := fun _ _ h n os => (Gr.grow (Gr.refl WM) n os).cell h
      have sv0 := up _ _ sx0
      have sv1 := up _ _ sx1
      have sv2 := up _ _ sx2
      have sv3 := up _ _ sx3
      have sv4 := up _ _ sx4
      have sv5 := up _ _ sx5
      have sv6 := up _ _ sx6
      have sv7 := up _ _ sx7
      have tv0 := up _ _ tx0
      have tv1 := up _ _ tx1
      have tv2 := up _ _ tx2
      have tv3 := up _ _ tx3
      have tv4 := up _ _ tx4
      have tv5 := up _ _ tx5
      have tv6 := up _ _ tx6
      have tv7 := up _ _ tx7
      have uv0 := up _ _ ux0
      have uv1 := up _ _ ux1
      have uv2 := up _ _ ux2
      have uv3 := up _ _ ux3
      have uv4 := up _ _ ux4
      have uv5 := up _ _ ux5
      have uv6 := up _ _ ux6
      have uv7 := up _ _ ux7
      have yv0 := up _ _ yx0
      have yv1 := up _ _ yx1
      have yv2 := up _ _ yx2
      have yv3 := up _ _ yx3
      have yv4 := up _ _ yx4
      have yv5 := up _ _ yx5
      have yv6 := up _ _ yx6
      have yv7 := up _ _ yx7
      have KW := fun n os => (Gr.grow (Gr.refl WM) n os).low
      have O1 := fun n os => calls_grown (holds_c u y (grow (WM.drewN n) os) _ _ _ _ (RuM.out.low (KW n os)) (RyM.out.low (KW n os)))
      have O2 := fun n os => calls_grown (holds_c t y (grow (WM.drewN n) os) _ _ _ _ (RtM.out.low (KW n os)) (RyM.out.low (KW n os)))
      have O3 := fun n os => calls_grown (holds_c s y (grow (WM.drewN n) os) _ _ _ _ (RsM.out.low (KW n os)) (RyM.out.low (KW n os)))
      rw [HH.out] at O1
      have zs : s.l.length ≤ 20 := by have h := canD_sm (v := sV a) (by rw [Qs.out]) (sm_set (Nat.le_trans ZA.out (by decide)) fun x h => SML.out x (AL.out x h)); rw [Qs.out, sm_v] at h; exact h.1
      have zt : t.l.length ≤ 20 := by have h := canD_sm (v := sV b) (by rw [Qt.out]) (sm_set (Nat.le_trans ZB.out (by decide)) fun x h => SML.out x (BL.out x h)); rw [Qt.out, sm_v] at h; exact h.1
      have zw : IntKind.i64.wrap ((s.l.length : Int) + (t.l.length : Int)) = (s.l.length : Int) + (t.l.length : Int) := by rw [IntKind.wrap_i64]; omega
      have zn : decide ((u.l.length : Int) ≤ (s.l.length : Int) + (t.l.length : Int)) = true := decide_eq_true (by have := HN.out; omega)
      generalize holdsB s y = hs at O1 O3
      generalize holdsB t y = ht at O1 O2
      unfold av at O1 O2 O3
      have V1 := Lib.hid O1
      have V2 := Lib.hid O2
      have V3 := Lib.hid O3
      have KH := Lib.hid KW
      clear O1 O2 O3 up KW lM HH HN zs zt
      clear sx0 sx1 sx2 sx3 sx4 sx5 sx6 sx7 tx0 tx1 tx2 tx3 tx4 tx5 tx6 tx7 ux0 ux1 ux2 ux3 ux4 ux5 ux6 ux7 yx0 yx1 yx2 yx3 yx4 yx5 yx6 yx7
      cases hs with
      | true =>
        go_wp2_with fail
        rw [← hWM]
        clear hWM
        go_quiet_grown (first | (with_reducible exact V1.out _ _) | (with_reducible exact V2.out _ _) | (with_reducible exact V3.out _ _))
        go_wp2_with fail
        go_ret
        exact ⟨rfl, LM.out.trans (KH.out _ _)⟩
      | false =>
        cases ht with
        | true =>
          go_wp2_with fail
          rw [← hWM]
          clear hWM
          go_quiet_grown (first | (with_reducible exact V1.out _ _) | (with_reducible exact V2.out _ _) | (with_reducible exact V3.out _ _))
          go_wp2_with fail
          go_ret
          exact ⟨rfl, LM.out.trans (KH.out _ _)⟩
        | false =>
          go_wp2_with fail
          rw [← hWM]
          clear hWM
          go_quiet_grown (first | (with_reducible exact V1.out _ _) | (with_reducible exact V2.out _ _) | (with_reducible exact V3.out _ _))
          go_wp2_with fail
          go_ret
          exact ⟨rfl, LM.out.trans (KH.out _ _)⟩
end Go.Proofs.Ytkjkhjkbedgcfaa
