/- A value as it must be, the reference's way: any value of no more than 20 items each. -/
import Derived.Test.YtbfaccndgjilmaaGreatRCanR
namespace Go.Proofs.YtbfaccndgjilmaaGreat
open Go.RowKit Go.Sort
theorem rcan_n (n : Nat) : ∀ v : V, dep v ≤ n → CanC 79 v := by
  induction n with
  | zero => intro v h; rw [dep_v] at h; omega
  | succ n ih =>
    intro v hd w it nm hr hsm
    obtain ⟨ai, ci, an, cn, rfl, rfl⟩ := r_slices hr
    obtain ⟨hb, hn, hl⟩ := rep_v.1 hr
    have hI : ∀ x ∈ v.l, CanC 79 x := fun x hx => ih x (by have := dep_mem hx; rw [dep_v] at hd; omega)
    rw [sm_v] at hsm
    obtain ⟨h1, h2, h3⟩ := hsm
    obtain ⟨⟨k, b, nn, s, t, i⟩, l, ns⟩ := v
    have hc := can_v (.mk ⟨k, b, nn, s, t, i⟩ l ns)
    rw [show (V.mk ⟨k, b, nn, s, t, i⟩ l ns).h.k = k from rfl, show (V.mk ⟨k, b, nn, s, t, i⟩ l ns).l = l from rfl, show (V.mk ⟨k, b, nn, s, t, i⟩ l ns).ns = ns from rfl] at hc
    simp only [V.h, V.l, V.ns] at hc hb hn hl hI h1 h2 h3 ⊢
    by_cases k1 : k = 1
    · rw [if_pos k1] at hc
      rw [hc]
      subst k1
      exact rcan_1 b nn s t i l ns w ai an ci cn hb
    rw [if_neg k1] at hc
    by_cases k2 : k = 2
    · rw [if_pos k2] at hc
      rw [hc]
      subst k2
      exact rcan_2 b nn s t i l ns w ai an ci cn hb
    rw [if_neg k2] at hc
    by_cases k3 : k = 3
    · rw [if_pos k3] at hc
      rw [hc]
      subst k3
      exact rcan_3 b nn s t i l ns w ai an ci cn hb
    rw [if_neg k3] at hc
    by_cases k4 : k = 4
    · rw [if_pos k4] at hc
      rw [hc]
      subst k4
      exact rcan_4 b nn s t i l ns w ai an ci cn hb
    rw [if_neg k4] at hc
    by_cases k5 : k = 5
    · rw [if_pos k5] at hc
      rw [hc]
      subst k5
      exact rcanSet_c b nn s t i l ns w ai an ci cn hI ⟨h1, h3⟩ hl
    rw [if_neg k5] at hc
    by_cases k6 : k = 6
    · rw [if_pos k6] at hc
      rw [hc]
      subst k6
      by_cases hlen : ns.length = l.length
      · exact rcanRec_c b nn s t i l ns w ai an ci cn hI ⟨h1, h3⟩ h2 hn hlen hl
      · rw [if_neg hlen]
        exact rcan_ne b nn s t i l ns w ai an ci cn (by omega)
    rw [if_neg k6] at hc
    rw [hc]
    by_cases hlo : k < 1
    · exact rcan_lo k hlo b nn s t i l ns w ai an ci cn
    · exact rcan_hi k (by omega) hlo b nn s t i l ns w ai an ci cn
theorem rcan_c (v : V) : CanC 79 v := rcan_n (dep v) v (Nat.le_refl _)
set_option maxHeartbeats 2000000 in
theorem rCanon_c (v : V) (w : World) (it nm : Value) (hr : R w v it nm) (hsm : Sm v) (hdp : dep v ≤ 1000000) : Calls Tryz.prog 55 #[av v.h it nm] w (CanPost (canD v).2 (canD v).1 w) := by
  obtain ⟨ai, ci, an, cn, rfl, rfl⟩ := r_slices hr
  have LA := (Low.alloc (Low.alloc (Low.refl w) _) _ : Low w ((w.alloc (.cells #[.int .i64 v.h.k, .bool v.h.b, .int .i64 v.h.n, .string v.h.s, .string v.h.t, .string v.h.i, .slice ai v.l.length ci, .slice an v.ns.length cn] 35)).alloc (.cells #[.int .i64 0, .bool false, .int .i64 0, .string ⟨#[]⟩, .string ⟨#[]⟩, .string ⟨#[]⟩, .slice none 0 0, .slice none 0 0] 35)))
  have R0 := Lib.hid (res_new (w.alloc (.cells #[.int .i64 v.h.k, .bool v.h.b, .int .i64 v.h.n, .string v.h.s, .string v.h.t, .string v.h.i, .slice ai v.l.length ci, .slice an v.ns.length cn] 35)) 35)
  rw [show (w.alloc (.cells #[.int .i64 v.h.k, .bool v.h.b, .int .i64 v.h.n, .string v.h.s, .string v.h.t, .string v.h.i, .slice ai v.l.length ci, .slice an v.ns.length cn] 35)).heap.size = w.heap.size + 1 by simp] at R0
  have CD := Lib.hid (rDepth_c v hdp _ _ _ (hr.low LA))
  have CC := Lib.hid fun W (h : Low w W) => rcan_c v W _ _ (hr.low h) hsm
  have HL := Lib.hid LA
  clear hr LA hsm hdp
  unfold av at *
  by_cases hd : 50 < dpt v
  · have hq : canD v = (11, V0) := by unfold canD; rw [if_pos hd]
    have hb : (50 : Int) < (dpt v : Int) := by omega
    rw [hq]
    clear hq CC
    go_enter Tryz.func55, Tryz.ntmps55
    go_wp2_with fail
    refine CD.out.mono ?_
    rintro e w1 ⟨rfl, g⟩
    have RR := Lib.hid (R0.out.low g.low)
    obtain ⟨⟨c0, c1, c2, c3, c4, c5, c6, c7⟩, f0, f1, f2, f3, f4, f5, f6, f7⟩ := RR.out.facts
    go_wp2_with fail
    refine bodyPost_ret (v := .tuple #[.agg #[.int .i64 0, .bool false, .int .i64 0, .string ⟨#[]⟩, .string ⟨#[]⟩, .string ⟨#[]⟩, .slice none 0 0, .slice none 0 0], .int .i64 11]) (by simp [results, Tryz.results55, go_sem, World.cell?_setCell_same', c0, c1, c2, c3, c4, c5, c6, c7]; try rfl) rfl ?_
    have K8 := kept8 w1 (w.heap.size + 1) (.int .i64 0) (.bool false) (.int .i64 0) (.string ⟨#[]⟩) (.string ⟨#[]⟩) (.string ⟨#[]⟩) (.slice none 0 0) (.slice none 0 0)
    exact ⟨none, 0, none, 0, rfl, rep_V0 _ _, (HL.out.trans g.low).kept K8 fun g hg => by simp at hg; omega⟩
  · have hq : canD v = can v := by unfold canD; rw [if_neg hd]
    have hb : ¬ (50 : Int) < (dpt v : Int) := by omega
    rw [hq]
    generalize can v = q at CC ⊢
    clear hq
    go_enter Tryz.func55, Tryz.ntmps55
    go_wp2_with fail
    refine CD.out.mono ?_
    rintro e w1 ⟨rfl, g⟩
    obtain ⟨b0, b1, b2, b3, b4, b5, b6, b7⟩ := gr_box ((Gr.alloc (Gr.refl _) (.cells #[.int .i64 0, .bool false, .int .i64 0, .string ⟨#[]⟩, .string ⟨#[]⟩, .string ⟨#[]⟩, .slice none 0 0, .slice none 0 0] 35)).trans g)
    have R1 := Lib.hid (R0.out.low g.low)
    have L1 := Lib.hid (HL.out.trans g.low)
    have LZ := Lib.hid g.size
    clear g
    go_wp2_with fail
    refine (CC.out _ L1.out).mono ?_
    rintro e w2 ⟨bi, di, bn, dn, rfl, hrep, hlow⟩
    have HR := Lib.hid hrep
    have HW := Lib.hid hlow
    have RR := Lib.hid (R1.out.low hlow)
    obtain ⟨⟨c0, c1, c2, c3, c4, c5, c6, c7⟩, f0, f1, f2, f3, f4, f5, f6, f7⟩ := RR.out.facts
    clear hrep hlow
    go_wp2_with fail
    refine bodyPost_ret (v := .tuple #[.agg #[.int .i64 q.2.h.k, .bool q.2.h.b, .int .i64 q.2.h.n, .string q.2.h.s, .string q.2.h.t, .string q.2.h.i, .slice bi q.2.l.length di, .slice bn q.2.ns.length dn], .int .i64 q.1]) (by simp [results, Tryz.results55, go_sem, World.cell?_setCell_same', c0, c1, c2, c3, c4, c5, c6, c7]; try rfl) rfl ?_
    have K8 := kept8 w2 (w.heap.size + 1) (.int .i64 q.2.h.k) (.bool q.2.h.b) (.int .i64 q.2.h.n) (.string q.2.h.s) (.string q.2.h.t) (.string q.2.h.i) (.slice bi q.2.l.length di) (.slice bn q.2.ns.length dn)
    have hz := LZ.out
    simp at hz
    refine ⟨bi, di, bn, dn, rfl, Rep.to (fun b hb hlt => ⟨?_, K8.2.2.2 b hlt ?_⟩) _ HR.out, (L1.out.trans HW.out).kept K8 fun g hg => by simp at hg; omega⟩
    · omega
    · simp; omega
end Go.Proofs.YtbfaccndgjilmaaGreat
