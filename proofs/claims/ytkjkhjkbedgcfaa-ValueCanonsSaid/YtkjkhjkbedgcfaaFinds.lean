/- Whether a set has any value, and a record's attribute of any name, are the reference's. No condition. -/
import Derived.Test.YtkjkhjkbedgcfaaOpenV
namespace Go.Proofs.Ytkjkhjkbedgcfaa
open Go.RowKit Go.Sort
theorem low_box {w wr : World} {c0 c1 c2 c3 c4 c5 c6 c7 : Value} {t : TypeId} (h : Low (w.alloc (.cells #[c0, c1, c2, c3, c4, c5, c6, c7] t)) wr) :
    wr.cell? ⟨w.heap.size, 0, none⟩ = some c0 ∧ wr.cell? ⟨w.heap.size, 1, none⟩ = some c1 ∧ wr.cell? ⟨w.heap.size, 2, none⟩ = some c2 ∧ wr.cell? ⟨w.heap.size, 3, none⟩ = some c3 ∧
    wr.cell? ⟨w.heap.size, 4, none⟩ = some c4 ∧ wr.cell? ⟨w.heap.size, 5, none⟩ = some c5 ∧ wr.cell? ⟨w.heap.size, 6, none⟩ = some c6 ∧ wr.cell? ⟨w.heap.size, 7, none⟩ = some c7 := by
  obtain ⟨a0, a1, a2, a3, a4, a5, a6, a7⟩ := gr_box (Gr.refl (w.alloc (.cells #[c0, c1, c2, c3, c4, c5, c6, c7] t)))
  exact ⟨h.keep a0, h.keep a1, h.keep a2, h.keep a3, h.keep a4, h.keep a5, h.keep a6, h.keep a7⟩
theorem low_box2 {w wr : World} {C : Obj} {c0 c1 c2 c3 c4 c5 c6 c7 : Value} {t : TypeId} (h : Low ((w.alloc C).alloc (.cells #[c0, c1, c2, c3, c4, c5, c6, c7] t)) wr) :
    wr.cell? ⟨w.heap.size + 1, 0, none⟩ = some c0 ∧ wr.cell? ⟨w.heap.size + 1, 1, none⟩ = some c1 ∧ wr.cell? ⟨w.heap.size + 1, 2, none⟩ = some c2 ∧ wr.cell? ⟨w.heap.size + 1, 3, none⟩ = some c3 ∧
    wr.cell? ⟨w.heap.size + 1, 4, none⟩ = some c4 ∧ wr.cell? ⟨w.heap.size + 1, 5, none⟩ = some c5 ∧ wr.cell? ⟨w.heap.size + 1, 6, none⟩ = some c6 ∧ wr.cell? ⟨w.heap.size + 1, 7, none⟩ = some c7 := by
  have h8 := low_box h
  rwa [show (w.alloc C).heap.size = w.heap.size + 1 by simp] at h8
theorem eqB_refl (a : V) : eqB a a = true := by unfold eqB; simp
theorem low_boxA {w wr : World} {c0 c1 c2 c3 c4 c5 c6 c7 : Value} {t : TypeId} (h : Low (w.alloc (.cells #[c0, c1, c2, c3, c4, c5, c6, c7] t)) wr) :
    (∀ X, (wr.alloc X).cell? ⟨w.heap.size, 0, none⟩ = some c0) ∧ (∀ X, (wr.alloc X).cell? ⟨w.heap.size, 1, none⟩ = some c1) ∧ (∀ X, (wr.alloc X).cell? ⟨w.heap.size, 2, none⟩ = some c2) ∧ (∀ X, (wr.alloc X).cell? ⟨w.heap.size, 3, none⟩ = some c3) ∧
    (∀ X, (wr.alloc X).cell? ⟨w.heap.size, 4, none⟩ = some c4) ∧ (∀ X, (wr.alloc X).cell? ⟨w.heap.size, 5, none⟩ = some c5) ∧ (∀ X, (wr.alloc X).cell? ⟨w.heap.size, 6, none⟩ = some c6) ∧ (∀ X, (wr.alloc X).cell? ⟨w.heap.size, 7, none⟩ = some c7) := by
  have k := fun X => low_box (h.alloc X)
  exact ⟨fun X => (k X).1, fun X => (k X).2.1, fun X => (k X).2.2.1, fun X => (k X).2.2.2.1, fun X => (k X).2.2.2.2.1, fun X => (k X).2.2.2.2.2.1, fun X => (k X).2.2.2.2.2.2.1, fun X => (k X).2.2.2.2.2.2.2⟩
/-- How far a set has been looked through. -/
def heldTo (v x : V) (i : Nat) : Bool := v.h.k == 5 && (v.l.take i).any fun y => ord y x == 0
theorem heldTo_all (v x : V) : heldTo v x v.l.length = holdsB v x := by unfold heldTo holdsB; rw [List.take_length]
theorem heldTo_step {v x : V} {i : Nat} (h : i < v.l.length) : heldTo v x (i + 1) = (heldTo v x i || (v.h.k == 5 && ord v.l[i] x == 0)) := by
  unfold heldTo
  rw [take_snoc h, List.any_append]
  cases (v.h.k == 5) <;> simp
set_option maxHeartbeats 8000000 in
set_option maxRecDepth 100000 in
theorem valueFinds_v (v x : V) (name : ByteArray) (w : World) (vit vnm xit xnm : Value) (hv : R w v vit vnm) (hx : R w x xit xnm) :
    Calls Try.prog 4 #[av v.h vit vnm, av x.h xit xnm, .string name] w fun e w' => e = .returned (.bool true) ∧ Low w w' := by
  obtain ⟨vai, vci, van, vcn, rfl, rfl⟩ := r_slices hv
  obtain ⟨xai, xci, xan, xcn, rfl, rfl⟩ := r_slices hx
  have mixed : Try.prog.follows .mixedOrders = true := by kernel_rfl
  have L0 := Lib.hid (Low.alloc (Low.alloc (Low.refl w) _) _ : Low w ((w.alloc (.cells #[.int .i64 v.h.k, .bool v.h.b, .int .i64 v.h.n, .string v.h.s, .string v.h.t, .string v.h.i, .slice vai v.l.length vci, .slice van v.ns.length vcn] 27)).alloc (.cells #[.int .i64 x.h.k, .bool x.h.b, .int .i64 x.h.n, .string x.h.s, .string x.h.t, .string x.h.i, .slice xai x.l.length xci, .slice xan x.ns.length xcn] 27)))
  have HV := Lib.hid hv
  have HX := Lib.hid hx
  obtain ⟨zl, zc⟩ : v.l.length ≤ vci ∧ vci ≤ 9223372036854775807 := by obtain ⟨_, _, h, h1, _⟩ := (rep_v.1 hv).2.2; simp only [Value.slice.injEq] at h; obtain ⟨_, _, rfl⟩ := h; exact h1
  clear hv hx
  unfold av
  go_enter Try.func4, Try.ntmps4
  go_wp2_with fail
  refine (awake_c _).mono ?_
  rintro e w1 ⟨rfl, l1⟩
  have L1 := Lib.hid l1
  obtain ⟨a0, a1, a2, a3, a4, a5, a6, a7⟩ := low_box ((Low.alloc (Low.refl _) (.cells #[.int .i64 x.h.k, .bool x.h.b, .int .i64 x.h.n, .string x.h.s, .string x.h.t, .string x.h.i, .slice xai x.l.length xci, .slice xan x.ns.length xcn] 27)).trans L1.out)
  obtain ⟨b0, b1, b2, b3, b4, b5, b6, b7⟩ := low_box2 L1.out
  clear l1
  go_wp2_with fail
  refine (few_c (dep v) v _ 0 _ _ _ (Nat.le_refl _) ((HV.out.low L0.out).low L1.out) (by decide) (by decide)).mono ?_
  rintro e w2 ⟨p1, rfl, hp1, g2⟩
  have L2 := Lib.hid (L1.out.trans g2.low)
  clear a0 a1 a2 a3 a4 a5 a6 a7 b0 b1 b2 b3 b4 b5 b6 b7
  obtain ⟨a0, a1, a2, a3, a4, a5, a6, a7⟩ := low_box ((Low.alloc (Low.refl _) (.cells #[.int .i64 x.h.k, .bool x.h.b, .int .i64 x.h.n, .string x.h.s, .string x.h.t, .string x.h.i, .slice xai x.l.length xci, .slice xan x.ns.length xcn] 27)).trans L2.out)
  obtain ⟨b0, b1, b2, b3, b4, b5, b6, b7⟩ := low_box2 L2.out
  have P1 := Lib.hid hp1
  clear g2 hp1
  go_wp2_with fail
  refine (few_c (dep x) x _ 0 _ _ _ (Nat.le_refl _) ((HX.out.low L0.out).low L2.out) (by decide) (by decide)).mono ?_
  rintro e w3 ⟨p2, rfl, hp2, g3⟩
  have L3 := Lib.hid (L2.out.trans g3.low)
  clear a0 a1 a2 a3 a4 a5 a6 a7 b0 b1 b2 b3 b4 b5 b6 b7
  obtain ⟨a0, a1, a2, a3, a4, a5, a6, a7⟩ := low_box ((Low.alloc (Low.refl _) (.cells #[.int .i64 x.h.k, .bool x.h.b, .int .i64 x.h.n, .string x.h.s, .string x.h.t, .string x.h.i, .slice xai x.l.length xci, .slice xan x.ns.length xcn] 27)).trans L3.out)
  obtain ⟨b0, b1, b2, b3, b4, b5, b6, b7⟩ := low_box2 L3.out
  have P2 := Lib.hid hp2
  clear g3 hp2
  cases p1 with
  | false =>
    go_wp2_with fail
    go_ret
    exact ⟨rfl, L0.out.trans L3.out⟩
  | true =>
    cases p2 with
    | false =>
      go_wp2_with fail
      go_ret
      exact ⟨rfl, L0.out.trans L3.out⟩
    | true =>
      go_wp2_with fail
      refine (size_c (dep v) v _ _ _ _ (Nat.le_refl _) ((HV.out.low L0.out).low L3.out)).mono ?_
      rintro e w4 ⟨n1, rfl, g4⟩
      have L4 := Lib.hid (L3.out.trans g4.low)
      clear a0 a1 a2 a3 a4 a5 a6 a7 b0 b1 b2 b3 b4 b5 b6 b7
      obtain ⟨a0, a1, a2, a3, a4, a5, a6, a7⟩ := low_box ((Low.alloc (Low.refl _) (.cells #[.int .i64 x.h.k, .bool x.h.b, .int .i64 x.h.n, .string x.h.s, .string x.h.t, .string x.h.i, .slice xai x.l.length xci, .slice xan x.ns.length xcn] 27)).trans L4.out)
      obtain ⟨b0, b1, b2, b3, b4, b5, b6, b7⟩ := low_box2 L4.out
      clear g4
      by_cases hn1 : 500 < n1
      · go_wp2_with fail
        go_ret
        exact ⟨rfl, L0.out.trans L4.out⟩
      · go_wp2_with fail
        refine (size_c (dep x) x _ _ _ _ (Nat.le_refl _) ((HX.out.low L0.out).low L4.out)).mono ?_
        rintro e w5 ⟨n2, rfl, g5⟩
        have L5 := Lib.hid (L4.out.trans g5.low)
        clear a0 a1 a2 a3 a4 a5 a6 a7 b0 b1 b2 b3 b4 b5 b6 b7
        clear g5
        by_cases hn2 : 500 < n2
        · go_wp2_with fail
          go_ret
          exact ⟨rfl, L0.out.trans L5.out⟩
        · go_wp2_with fail
          go_loopg [10, 11] v.l.length (fun gk vh vi wr => ∃ i : Nat, vh = .bool (heldTo v x i) ∧ vi = .int .i64 (i : Int) ∧ i ≤ v.l.length ∧ v.l.length - i ≤ gk ∧ Hid (Low ((w.alloc (.cells #[.int .i64 v.h.k, .bool v.h.b, .int .i64 v.h.n, .string v.h.s, .string v.h.t, .string v.h.i, .slice vai v.l.length vci, .slice van v.ns.length vcn] 27)).alloc (.cells #[.int .i64 x.h.k, .bool x.h.b, .int .i64 x.h.n, .string x.h.s, .string x.h.t, .string x.h.i, .slice xai x.l.length xci, .slice xan x.ns.length xcn] 27)) wr))
          case atStart => exact ⟨0, by unfold heldTo; simp, rfl, Nat.zero_le _, Nat.le_refl _, L5⟩
          case round =>
            obtain ⟨i, rfl, rfl, hi, hg, LR⟩ := hrel
            obtain ⟨a0, a1, a2, a3, a4, a5, a6, a7⟩ := low_box ((Low.alloc (Low.refl _) (.cells #[.int .i64 x.h.k, .bool x.h.b, .int .i64 x.h.n, .string x.h.s, .string x.h.t, .string x.h.i, .slice xai x.l.length xci, .slice xan x.ns.length xcn] 27)).trans LR.out)
            obtain ⟨b0, b1, b2, b3, b4, b5, b6, b7⟩ := low_box2 LR.out
            by_cases hlt : i < v.l.length
            · have z1 : (i : Int) < (v.l.length : Int) := by omega
              obtain ⟨b, o, ai, ci, an, cn, rfl, hcs, hrx⟩ := ro_at (show Ro wr v.l (.slice vai v.l.length vci) from ((rep_v.1 HV.out).2.2.low L0.out).low LR.out) hlt
              obtain ⟨e0, e1, e2, e3, e4, e5, e6, e7⟩ := cells8 hcs
              have up : ∀ (a : Addr) (u : Value), wr.cell? a = some u → ∀ n os, (grow (wr.drewN n) os).cell? a = some u := fun _ _ h n os => (Gr.grow (Gr.refl wr) n os).cell h
              have UP := Lib.hid up
              have KW := fun n os => (Gr.grow (Gr.refl wr) n os).low
              have hcon := fun n os => rOrder_c v.l[i] x (grow (wr.drewN n) os) _ _ _ _ (hrx.low (KW n os)) (((HX.out.low L0.out).low LR.out).low (KW n os))
              have hst := heldTo_step (x := x) hlt
              generalize heldTo v x i = hb at *
              generalize ord v.l[i] x = c at hcon hst
              have HC := Lib.hid hcon
              have HS := Lib.hid hst
              unfold av at HC
              clear hcon hst hcs hrx up KW
              have GG := Lib.hid fun n os => LR.out.trans (Gr.grow (Gr.refl wr) n os).low
              cases hb with
              | true =>
                go_wp2_with fail
                go_quiet (fail)
                go_wp2_with fail
                go_roundg (v.l.length - (i + 1))
                case measure => omega
                case rel => exact ⟨i + 1, by rw [HS.out]; rfl, by go_num, by omega, by omega, Lib.hid (LR.out.trans (Low.drewN _ _))⟩
              | false =>
                by_cases hk : v.h.k = 5
                · have hkb : (v.h.k == 5) = true := by simpa using hk
                  have HKB := Lib.hid hkb
                  clear hk
                  go_wp2_with fail
                  have ua0 := UP.out _ _ a0
                  have ub0 := UP.out _ _ b0
                  have ue0 := UP.out _ _ e0
                  have ua1 := UP.out _ _ a1
                  have ub1 := UP.out _ _ b1
                  have ue1 := UP.out _ _ e1
                  have ua2 := UP.out _ _ a2
                  have ub2 := UP.out _ _ b2
                  have ue2 := UP.out _ _ e2
                  have ua3 := UP.out _ _ a3
                  have ub3 := UP.out _ _ b3
                  have ue3 := UP.out _ _ e3
                  have ua4 := UP.out _ _ a4
                  have ub4 := UP.out _ _ b4
                  have ue4 := UP.out _ _ e4
                  have ua5 := UP.out _ _ a5
                  have ub5 := UP.out _ _ b5
                  have ue5 := UP.out _ _ e5
                  have ua6 := UP.out _ _ a6
                  have ub6 := UP.out _ _ b6
                  have ue6 := UP.out _ _ e6
                  have ua7 := UP.out _ _ a7
                  have ub7 := UP.out _ _ b7
                  have ue7 := UP.out _ _ e7
                  clear e0 e1 e2 e3 e4 e5 e6 e7
                  clear a0 a1 a2 a3 a4 a5 a6 a7 b0 b1 b2 b3 b4 b5 b6 b7
                  go_quiet_grown (first | (go_at_call 20; refine Calls.grown_of (HC.out _ _)))
                  go_wp2_with fail
                  go_roundg (v.l.length - (i + 1))
                  case measure => omega
                  case rel => exact ⟨i + 1, by rw [HS.out, HKB.out]; simp, by go_num, by omega, by omega, Lib.hid (GG.out _ _)⟩
                · have hkb : (v.h.k == 5) = false := by simpa using hk
                  have HKB := Lib.hid hkb
                  clear hk
                  go_wp2_with fail
                  go_quiet (fail)
                  go_wp2_with fail
                  go_roundg (v.l.length - (i + 1))
                  case measure => omega
                  case rel => exact ⟨i + 1, by rw [HS.out, HKB.out]; rfl, by go_num, by omega, by omega, Lib.hid (LR.out.trans (Low.drewN _ _))⟩
            · have z1 : ¬ (i : Int) < (v.l.length : Int) := by omega
              have hie : heldTo v x i = holdsB v x := by rw [show i = v.l.length by omega]; exact heldTo_all v x
              rw [hie]
              have CG := Lib.hid (get_c v name wr _ _ ((HV.out.low L0.out).low LR.out))
              have CR := Lib.hid fun W (h : Low ((w.alloc (.cells #[.int .i64 v.h.k, .bool v.h.b, .int .i64 v.h.n, .string v.h.s, .string v.h.t, .string v.h.i, .slice vai v.l.length vci, .slice van v.ns.length vcn] 27)).alloc (.cells #[.int .i64 x.h.k, .bool x.h.b, .int .i64 x.h.n, .string x.h.s, .string x.h.t, .string x.h.i, .slice xai x.l.length xci, .slice xan x.ns.length xcn] 27)) W) => rGet_c v name W _ _ ((HV.out.low L0.out).low h)
              have CH := Lib.hid fun W (h : Low ((w.alloc (.cells #[.int .i64 v.h.k, .bool v.h.b, .int .i64 v.h.n, .string v.h.s, .string v.h.t, .string v.h.i, .slice vai v.l.length vci, .slice van v.ns.length vcn] 27)).alloc (.cells #[.int .i64 x.h.k, .bool x.h.b, .int .i64 x.h.n, .string x.h.s, .string x.h.t, .string x.h.i, .slice xai x.l.length xci, .slice xan x.ns.length xcn] 27)) W) => holds_c v x W _ _ _ _ ((HV.out.low L0.out).low h) ((HX.out.low L0.out).low h)
              generalize holdsB v x = hh at CH ⊢
              clear hie
              by_cases hat : 0 ≤ getI v name
              · obtain ⟨q, hq⟩ : ∃ q : Nat, getI v name = q := ⟨(getI v name).toNat, by omega⟩
                have hql : q < v.l.length := by
                  unfold getI at hq
                  split at hq
                  · split at hq
                    · omega
                    · rename_i h1
                      rw [hq] at h1
                      omega
                  · omega
                have hgv : getV v name = v.l[q] := by unfold getV; rw [if_pos hat, hq]; simp [List.getD, List.getElem?_eq_getElem hql]
                have hd : decide (0 ≤ getI v name) = true := decide_eq_true hat
                rw [hd, hgv] at CG
                rw [hq] at CR
                have zq : (q : Int) < (v.l.length : Int) := by omega
                have zq0 : (0 : Int) ≤ (q : Int) := by omega
                have zq1 : decide ((q : Int) < 0) = false := decide_eq_false (by omega)
                have zq2 : decide (0 ≤ (q : Int)) = true := decide_eq_true zq0
                clear hq hgv hd hat
                go_wp2_with fail
                refine CG.out.mono ?_
                rintro e w6 ⟨yit, ynm, rfl, hy, g6⟩
                obtain ⟨yai, yci, yan, ycn, rfl, rfl⟩ := r_slices hy
                have L6 := Lib.hid ((LR.out.trans g6.low).alloc (.cells #[.int .i64 v.l[q].h.k, .bool v.l[q].h.b, .int .i64 v.l[q].h.n, .string v.l[q].h.s, .string v.l[q].h.t, .string v.l[q].h.i, .slice yai v.l[q].l.length yci, .slice yan v.l[q].ns.length ycn] 27))
                have Y6 := Lib.hid hy
                have L6' := Lib.hid (LR.out.trans g6.low)
                clear a0 a1 a2 a3 a4 a5 a6 a7 b0 b1 b2 b3 b4 b5 b6 b7
                obtain ⟨a0, a1, a2, a3, a4, a5, a6, a7⟩ := low_boxA ((Low.alloc (Low.refl _) (.cells #[.int .i64 x.h.k, .bool x.h.b, .int .i64 x.h.n, .string x.h.s, .string x.h.t, .string x.h.i, .slice xai x.l.length xci, .slice xan x.ns.length xcn] 27)).trans L6'.out)
                unfold av
                go_wp2_with fail
                refine (CR.out _ L6.out).mono ?_
                rintro e w7 ⟨rfl, g7⟩
                have L7 := Lib.hid (L6.out.trans g7.low)
                have Y7 := Lib.hid (g7.low : Low (w6.alloc (.cells #[.int .i64 v.l[q].h.k, .bool v.l[q].h.b, .int .i64 v.l[q].h.n, .string v.l[q].h.s, .string v.l[q].h.t, .string v.l[q].h.i, .slice yai v.l[q].l.length yci, .slice yan v.l[q].ns.length ycn] 27)) w7)
                clear g7
                clear a0 a1 a2 a3 a4 a5 a6 a7
                obtain ⟨a0, a1, a2, a3, a4, a5, a6, a7⟩ := low_box ((Low.alloc (Low.refl _) (.cells #[.int .i64 x.h.k, .bool x.h.b, .int .i64 x.h.n, .string x.h.s, .string x.h.t, .string x.h.i, .slice xai x.l.length xci, .slice xan x.ns.length xcn] 27)).trans L7.out)
                obtain ⟨b0, b1, b2, b3, b4, b5, b6, b7⟩ := low_box2 L7.out
                go_wp2_with fail
                refine (CH.out _ L7.out).mono ?_
                rintro e w8 ⟨rfl, g8⟩
                have L8 := Lib.hid (L7.out.trans g8.low)
                have Y8 := Lib.hid (Y7.out.trans g8.low)
                have Y9 := Lib.hid (Y6.out.low ((Low.alloc (Low.refl _) _).trans Y8.out))
                clear a0 a1 a2 a3 a4 a5 a6 a7 b0 b1 b2 b3 b4 b5 b6 b7
                obtain ⟨a0, a1, a2, a3, a4, a5, a6, a7⟩ := low_box ((Low.alloc (Low.refl _) (.cells #[.int .i64 x.h.k, .bool x.h.b, .int .i64 x.h.n, .string x.h.s, .string x.h.t, .string x.h.i, .slice xai x.l.length xci, .slice xan x.ns.length xcn] 27)).trans L8.out)
                obtain ⟨b0, b1, b2, b3, b4, b5, b6, b7⟩ := low_box2 L8.out
                obtain ⟨c0, c1, c2, c3, c4, c5, c6, c7⟩ := low_box Y8.out
                obtain ⟨b, o, ai, ci, an, cn, rfl, hcs, hrx⟩ := ro_at (show Ro w8 v.l (.slice vai v.l.length vci) from ((rep_v.1 HV.out).2.2.low L0.out).low L8.out) hql
                obtain ⟨e0, e1, e2, e3, e4, e5, e6, e7⟩ := cells8 hcs
                have up : ∀ {a : Addr} {u : Value}, w8.cell? a = some u → ∀ n os, (grow (w8.drewN n) os).cell? a = some u := fun h n os => (Gr.grow (Gr.refl w8) n os).cell h
                have ua0 := up a0
                have ub0 := up b0
                have ue0 := up e0
                have uc0 := up c0
                have ua1 := up a1
                have ub1 := up b1
                have ue1 := up e1
                have uc1 := up c1
                have ua2 := up a2
                have ub2 := up b2
                have ue2 := up e2
                have uc2 := up c2
                have ua3 := up a3
                have ub3 := up b3
                have ue3 := up e3
                have uc3 := up c3
                have ua4 := up a4
                have ub4 := up b4
                have ue4 := up e4
                have uc4 := up c4
                have ua5 := up a5
                have ub5 := up b5
                have ue5 := up e5
                have uc5 := up c5
                have ua6 := up a6
                have ub6 := up b6
                have ue6 := up e6
                have uc6 := up c6
                have ua7 := up a7
                have ub7 := up b7
                have ue7 := up e7
                have uc7 := up c7
                have KW := fun n os => (Gr.grow (Gr.refl w8) n os).low
                have hcon := fun n os => whole_c v.l[q] v.l[q] (grow (w8.drewN n) os) _ _ _ _ (Y9.out.low (KW n os)) (hrx.low (KW n os))
                have HC := Lib.hid hcon
                unfold av at HC
                clear hcon hcs hrx up e0 e1 e2 e3 e4 e5 e6 e7 c0 c1 c2 c3 c4 c5 c6 c7
                have GG := Lib.hid fun n os => L8.out.trans (KW n os)
                clear KW
                go_wp2_with fail
                go_quiet_grown (first | (go_at_call 19; refine Calls.grown_of (HC.out _ _)))
                go_wp2_with fail
                go_ret
                exact ⟨retB (eqB_refl _), L0.out.trans (GG.out _ _)⟩
              · obtain ⟨m, hm⟩ : ∃ m : Int, getI v name = m := ⟨_, rfl⟩
                have hgv : getV v name = V0 := by unfold getV; rw [if_neg hat]
                have hd : decide (0 ≤ getI v name) = false := decide_eq_false hat
                rw [hd, hgv] at CG
                rw [hm] at CR hat
                have zm : m < 0 := by omega
                have zd : decide (0 ≤ m) = false := decide_eq_false hat
                clear hm hgv hd hat
                go_wp2_with fail
                refine CG.out.mono ?_
                rintro e w6 ⟨yit, ynm, rfl, hy, g6⟩
                obtain ⟨yai, yci, yan, ycn, rfl, rfl⟩ := r_slices hy
                have L6 := Lib.hid ((LR.out.trans g6.low).alloc (.cells #[.int .i64 V0.h.k, .bool V0.h.b, .int .i64 V0.h.n, .string V0.h.s, .string V0.h.t, .string V0.h.i, .slice yai V0.l.length yci, .slice yan V0.ns.length ycn] 27))
                have Y6 := Lib.hid hy
                have L6' := Lib.hid (LR.out.trans g6.low)
                clear a0 a1 a2 a3 a4 a5 a6 a7 b0 b1 b2 b3 b4 b5 b6 b7
                obtain ⟨a0, a1, a2, a3, a4, a5, a6, a7⟩ := low_boxA ((Low.alloc (Low.refl _) (.cells #[.int .i64 x.h.k, .bool x.h.b, .int .i64 x.h.n, .string x.h.s, .string x.h.t, .string x.h.i, .slice xai x.l.length xci, .slice xan x.ns.length xcn] 27)).trans L6'.out)
                unfold av
                go_wp2_with fail
                refine (CR.out _ L6.out).mono ?_
                rintro e w7 ⟨rfl, g7⟩
                have L7 := Lib.hid (L6.out.trans g7.low)
                have Y7 := Lib.hid (g7.low : Low (w6.alloc (.cells #[.int .i64 V0.h.k, .bool V0.h.b, .int .i64 V0.h.n, .string V0.h.s, .string V0.h.t, .string V0.h.i, .slice yai V0.l.length yci, .slice yan V0.ns.length ycn] 27)) w7)
                clear g7
                clear a0 a1 a2 a3 a4 a5 a6 a7
                obtain ⟨a0, a1, a2, a3, a4, a5, a6, a7⟩ := low_box ((Low.alloc (Low.refl _) (.cells #[.int .i64 x.h.k, .bool x.h.b, .int .i64 x.h.n, .string x.h.s, .string x.h.t, .string x.h.i, .slice xai x.l.length xci, .slice xan x.ns.length xcn] 27)).trans L7.out)
                obtain ⟨b0, b1, b2, b3, b4, b5, b6, b7⟩ := low_box2 L7.out
                go_wp2_with fail
                refine (CH.out _ L7.out).mono ?_
                rintro e w8 ⟨rfl, g8⟩
                have L8 := Lib.hid (L7.out.trans g8.low)
                have Y8 := Lib.hid (Y7.out.trans g8.low)
                have Y9 := Lib.hid (Y6.out.low ((Low.alloc (Low.refl _) _).trans Y8.out))
                clear a0 a1 a2 a3 a4 a5 a6 a7 b0 b1 b2 b3 b4 b5 b6 b7
                obtain ⟨a0, a1, a2, a3, a4, a5, a6, a7⟩ := low_box ((Low.alloc (Low.refl _) (.cells #[.int .i64 x.h.k, .bool x.h.b, .int .i64 x.h.n, .string x.h.s, .string x.h.t, .string x.h.i, .slice xai x.l.length xci, .slice xan x.ns.length xcn] 27)).trans L8.out)
                obtain ⟨b0, b1, b2, b3, b4, b5, b6, b7⟩ := low_box2 L8.out
                obtain ⟨c0, c1, c2, c3, c4, c5, c6, c7⟩ := low_box Y8.out
                go_wp2_with fail
                refine (whole_c V0 V0 _ _ _ _ _ Y9.out (r_V0 _)).mono ?_
                rintro e w9 ⟨rfl, g9⟩
                go_wp2_with fail
                go_ret
                exact ⟨retB (eqB_refl _), L0.out.trans (L8.out.trans g9.low)⟩
end Go.Proofs.Ytkjkhjkbedgcfaa
