/- A value as it must be, the reference's way: any value of no more than 20 items each. The document's examples of layer 3 hold: awake answers true. No condition. A value among a law's arguments is a tree that lies in memory. No condition. A type among a law's arguments is a tree that lies in memory. No condition. -/
import Derived.Test.YtnenjgngahipdaaGreatZRCanR
import Derived.Test.YtnenjgngahipdaaGreatZg21
import Derived.Shelf.SlSortCmp.QuietGrown
import Derived.Deep.Slices
import Derived.ChangeArms
import Derived.DataReads
import Derived.Test.YtnenjgngahipdaaGreatZg01
set_option linter.unusedVariables false
set_option linter.unusedSimpArgs false
set_option linter.unnecessarySimpa false
namespace Go.Proofs.YtnenjgngahipdaaGreat
open Go.RowKit Go.Sort
theorem rcan_n (n : Nat) : ∀ v : V, dep v ≤ n → CanC 30 v := by
  induction n with
  | zero => intro v h; rw [dep_v] at h; omega
  | succ n ih =>
    intro v hd w it nm hr hsm
    obtain ⟨ai, ci, an, cn, rfl, rfl⟩ := r_slices hr
    obtain ⟨hb, hn, hl⟩ := rep_v.1 hr
    have hI : ∀ x ∈ v.l, CanC 30 x := fun x hx => ih x (by have := dep_mem hx; rw [dep_v] at hd; omega)
    rw [sm_v] at hsm
    obtain ⟨h1, h2, h3⟩ := hsm
    obtain ⟨⟨k, b, nn, s, t, i⟩, l, ns⟩ := v
    have hc := can_v (.mk ⟨k, b, nn, s, t, i⟩ l ns)
    rw [show (V.mk ⟨k, b, nn, s, t, i⟩ l ns).h.k = k from rfl, show (V.mk ⟨k, b, nn, s, t, i⟩ l ns).l = l from rfl, show (V.mk ⟨k, b, nn, s, t, i⟩ l ns).ns = ns from rfl] at hc
    simp only [V.h, V.l, V.ns] at hc hb hn hl hI h1 h2 h3 ⊢
    by_cases k1 : k = 1
    · rw [if_pos k1] at hc
      rw [hc]
      subst k1
      exact rcan_1 b nn s t i l ns w ai an ci cn hb
    rw [if_neg k1] at hc
    by_cases k2 : k = 2
    · rw [if_pos k2] at hc
      rw [hc]
      subst k2
      exact rcan_2 b nn s t i l ns w ai an ci cn hb
    rw [if_neg k2] at hc
    by_cases k3 : k = 3
    · rw [if_pos k3] at hc
      rw [hc]
      subst k3
      exact rcan_3 b nn s t i l ns w ai an ci cn hb
    rw [if_neg k3] at hc
    by_cases k4 : k = 4
    · rw [if_pos k4] at hc
      rw [hc]
      subst k4
      exact rcan_4 b nn s t i l ns w ai an ci cn hb
    rw [if_neg k4] at hc
    by_cases k5 : k = 5
    · rw [if_pos k5] at hc
      rw [hc]
      subst k5
      exact rcanSet_c b nn s t i l ns w ai an ci cn hI ⟨h1, h3⟩ hl
    rw [if_neg k5] at hc
    by_cases k6 : k = 6
    · rw [if_pos k6] at hc
      rw [hc]
      subst k6
      by_cases hlen : ns.length = l.length
      · exact rcanRec_c b nn s t i l ns w ai an ci cn hI ⟨h1, h3⟩ h2 hn hlen hl
      · rw [if_neg hlen]
        exact rcan_ne b nn s t i l ns w ai an ci cn (by omega)
    rw [if_neg k6] at hc
    rw [hc]
    by_cases hlo : k < 1
    · exact rcan_lo k hlo b nn s t i l ns w ai an ci cn
    · exact rcan_hi k (by omega) hlo b nn s t i l ns w ai an ci cn
theorem rcan_c (v : V) : CanC 30 v := rcan_n (dep v) v (Nat.le_refl _)
set_option maxHeartbeats 2000000 in
theorem rCanon_c (v : V) (w : World) (it nm : Value) (hr : R w v it nm) (hsm : Smv v) (hdp : dep v ≤ 1000000) : Calls Tryz.prog 12 #[avv v.h it nm] w (CanPost (canD v).2 (canD v).1 w) := by
  obtain ⟨ai, ci, an, cn, rfl, rfl⟩ := r_slices hr
  have LA := (Low.alloc (Low.alloc (Low.refl w) _) _ : Low w ((w.alloc (.cells #[.int .i64 v.h.k, .bool v.h.b, .int .i64 v.h.n, .string v.h.s, .string v.h.t, .string v.h.i, .slice ai v.l.length ci, .slice an v.ns.length cn] 27)).alloc (.cells #[.int .i64 0, .bool false, .int .i64 0, .string ⟨#[]⟩, .string ⟨#[]⟩, .string ⟨#[]⟩, .slice none 0 0, .slice none 0 0] 27)))
  have R0 := Lib.hid (res_new (w.alloc (.cells #[.int .i64 v.h.k, .bool v.h.b, .int .i64 v.h.n, .string v.h.s, .string v.h.t, .string v.h.i, .slice ai v.l.length ci, .slice an v.ns.length cn] 27)) 27)
  rw [show (w.alloc (.cells #[.int .i64 v.h.k, .bool v.h.b, .int .i64 v.h.n, .string v.h.s, .string v.h.t, .string v.h.i, .slice ai v.l.length ci, .slice an v.ns.length cn] 27)).heap.size = w.heap.size + 1 by simp] at R0
  have CD := Lib.hid (rDepth_c v hdp _ _ _ (hr.low LA))
  have CC := Lib.hid fun W (h : Low w W) => rcan_c v W _ _ (hr.low h) hsm
  have HL := Lib.hid LA
  clear hr LA hsm hdp
  unfold avv at *
  by_cases hd : 50 < dptv v
  · have hq : canD v = (11, V0) := by unfold canD; rw [if_pos hd]
    have hb : (50 : Int) < (dptv v : Int) := by omega
    rw [hq]
    clear hq CC
    go_enter Tryz.func12, Tryz.ntmps12
    go_wp2_with fail
    refine CD.out.mono ?_
    rintro e w1 ⟨rfl, g⟩
    have RR := Lib.hid (R0.out.low g.low)
    obtain ⟨⟨c0, c1, c2, c3, c4, c5, c6, c7⟩, f0, f1, f2, f3, f4, f5, f6, f7⟩ := RR.out.facts
    go_wp2_with fail
    refine bodyPost_ret (v := .tuple #[.agg #[.int .i64 0, .bool false, .int .i64 0, .string ⟨#[]⟩, .string ⟨#[]⟩, .string ⟨#[]⟩, .slice none 0 0, .slice none 0 0], .int .i64 11]) (by simp [results, Tryz.results12, go_sem, World.cell?_setCell_same', c0, c1, c2, c3, c4, c5, c6, c7]; try rfl) rfl ?_
    have K8 := kept8 w1 (w.heap.size + 1) (.int .i64 0) (.bool false) (.int .i64 0) (.string ⟨#[]⟩) (.string ⟨#[]⟩) (.string ⟨#[]⟩) (.slice none 0 0) (.slice none 0 0)
    exact ⟨none, 0, none, 0, rfl, rep_V0 _ _, (HL.out.trans g.low).kept K8 fun g hg => by simp at hg; omega⟩
  · have hq : canD v = can v := by unfold canD; rw [if_neg hd]
    have hb : ¬ (50 : Int) < (dptv v : Int) := by omega
    rw [hq]
    generalize can v = q at CC ⊢
    clear hq
    go_enter Tryz.func12, Tryz.ntmps12
    go_wp2_with fail
    refine CD.out.mono ?_
    rintro e w1 ⟨rfl, g⟩
    obtain ⟨b0, b1, b2, b3, b4, b5, b6, b7⟩ := gr_box ((Gr.alloc (Gr.refl _) (.cells #[.int .i64 0, .bool false, .int .i64 0, .string ⟨#[]⟩, .string ⟨#[]⟩, .string ⟨#[]⟩, .slice none 0 0, .slice none 0 0] 27)).trans g)
    have R1 := Lib.hid (R0.out.low g.low)
    have L1 := Lib.hid (HL.out.trans g.low)
    have LZ := Lib.hid g.size
    clear g
    go_wp2_with fail
    refine (CC.out _ L1.out).mono ?_
    rintro e w2 ⟨bi, di, bn, dn, rfl, hrep, hlow⟩
    have HR := Lib.hid hrep
    have HW := Lib.hid hlow
    have RR := Lib.hid (R1.out.low hlow)
    obtain ⟨⟨c0, c1, c2, c3, c4, c5, c6, c7⟩, f0, f1, f2, f3, f4, f5, f6, f7⟩ := RR.out.facts
    clear hrep hlow
    go_wp2_with fail
    refine bodyPost_ret (v := .tuple #[.agg #[.int .i64 q.2.h.k, .bool q.2.h.b, .int .i64 q.2.h.n, .string q.2.h.s, .string q.2.h.t, .string q.2.h.i, .slice bi q.2.l.length di, .slice bn q.2.ns.length dn], .int .i64 q.1]) (by simp [results, Tryz.results12, go_sem, World.cell?_setCell_same', c0, c1, c2, c3, c4, c5, c6, c7]; try rfl) rfl ?_
    have K8 := kept8 w2 (w.heap.size + 1) (.int .i64 q.2.h.k) (.bool q.2.h.b) (.int .i64 q.2.h.n) (.string q.2.h.s) (.string q.2.h.t) (.string q.2.h.i) (.slice bi q.2.l.length di) (.slice bn q.2.ns.length dn)
    have hz := LZ.out
    simp at hz
    refine ⟨bi, di, bn, dn, rfl, Rep.to (fun b hb hlt => ⟨?_, K8.2.2.2 b hlt ?_⟩) _ HR.out, (L1.out.trans HW.out).kept K8 fun g hg => by simp at hg; omega⟩
    · omega
    · simp; omega
end Go.Proofs.YtnenjgngahipdaaGreat
namespace Go.Proofs.YtnenjgngahipdaaGreat
open Go.RowKit Go.ChangeShapes Go.WideShapes Go.Deep
variable {H : Type} {enc : TypeId × Value → H} {w : World} {spare : Nat → Bool} {held : Bool}
theorem cof27 : Tryz.prog.cellsOf 27 = 8 := by kernel_rfl
theorem cof3 : Tryz.prog.cellsOf 3 = 1 := by kernel_rfl
theorem cof4 : Tryz.prog.cellsOf 4 = 1 := by kernel_rfl
theorem cof2 : Tryz.prog.cellsOf 2 = 1 := by kernel_rfl
theorem cof9 : Tryz.prog.cellsOf 9 = 1 := by kernel_rfl
theorem cof23 : Tryz.prog.cellsOf 23 = 2 := by kernel_rfl
theorem cof24 : Tryz.prog.cellsOf 24 = 1 := by kernel_rfl
theorem cof25 : Tryz.prog.cellsOf 25 = 1 := by kernel_rfl
theorem addr_plainv {a : Addr} {v : Value} (h : w.cell? (a.add 0) = some v) : ∃ b o, a = ⟨b, o, none⟩ := by
  have e : a.add 0 = a := by simp [Addr.add]
  rw [e] at h
  obtain ⟨b, o, s⟩ := a
  cases s with
  | none => exact ⟨b, o, rfl⟩
  | some s => unfold World.cell? at h; split at h <;> simp at h
theorem trod_names {base fuel : Nat} {cs : List Value} {x : DataW H × List MemPlace} (h : DataW.trod enc Tryz.prog w base spare held fuel 25 cs = some x) : ∃ (ns : List ByteArray) (nm : Value), cs = [nm] ∧ Na w ns nm := by
  rcases DataW.trod_slice Tryz.underlying25 h with ⟨rfl, -⟩ | ⟨a, len, cap, elems, rest, n, -, rfl, -, -, hlc, hcm, hel, hall, -, -⟩
  · exact ⟨[], _, rfl, none, 0, rfl, by simp, by simp, .inl rfl⟩
  · rw [cof9] at hall
    have hx : ∀ i, i < len → ∃ s : ByteArray, w.cell? (a.add i) = some (.string s) ∧ s.size ≤ 9223372036854775807 := fun i hi => by
      have h1 := hall i hi
      rw [List.getElem?_eq_getElem (by omega)] at h1
      obtain ⟨c, h2, h3⟩ := Option.bind_eq_some_iff.1 h1
      obtain ⟨s, rfl, -, hs⟩ := DataW.trod_string Tryz.underlying9 h3
      obtain ⟨-, -, hat⟩ := World.cells?_some h2
      have := hat 0 (by decide)
      rw [add_add, Nat.mul_one, Nat.add_zero] at this
      exact ⟨s, this, by unfold maxLen at hs; exact hs⟩
    haveI : Inhabited ByteArray := ⟨⟨#[]⟩⟩
    obtain ⟨f, hf⟩ := choose_lt hx
    refine ⟨(List.range len).map f, _, rfl, some a, cap, by simp, by simp; unfold maxLen at hcm; omega, fun x hx => ?_, ?_⟩
    · obtain ⟨i, hi, rfl⟩ := List.mem_map.1 hx
      exact (hf i (List.mem_range.1 hi)).2
    · rcases Nat.eq_zero_or_pos len with h0 | h0
      · exact .inl (by rw [h0]; rfl)
      · obtain ⟨b, o, rfl⟩ := addr_plainv (hf 0 h0).1
        refine .inr ⟨b, o, rfl, trivial, fun j hj => ?_⟩
        have hj' : j < len := by simpa using hj
        have := (hf j hj').1
        rw [Addr.add_lit] at this
        rw [this]
        simp
instance : Inhabited V := ⟨V0⟩
set_option maxRecDepth 100000 in
theorem trod_val {base : Nat} : ∀ (fuel : Nat) {cs : List Value} {x : DataW H × List MemPlace}, DataW.trod enc Tryz.prog w base spare held fuel 27 cs = some x → ∃ (v : V) (it nm : Value), cs = hdc v.h it nm ∧ R w v it nm := by
  intro fuel
  induction fuel using Nat.strongRecOn with
  | _ fuel ih =>
    intro cs x h
    obtain ⟨xs, n, rfl, -, hlen, hxl, hf⟩ := DataW.trod_struct Tryz.underlying27 h
    rw [cof27] at hlen
    have hx7 : xs.length = 7 := hxl
    have get : ∀ i, i < 7 → ∃ y, xs[i]? = some y := fun i hi => ⟨xs[i]'(by omega), List.getElem?_eq_getElem (by omega)⟩
    match cs, hlen with
    | [c0, c1, c2, c3, c4, c5, c6, c7], _ =>
      obtain ⟨y0, g0⟩ := get 0 (by decide)
      obtain ⟨y1, g1⟩ := get 1 (by decide)
      obtain ⟨y2, g2⟩ := get 2 (by decide)
      obtain ⟨y3, g3⟩ := get 3 (by decide)
      obtain ⟨y4, g4⟩ := get 4 (by decide)
      obtain ⟨y5, g5⟩ := get 5 (by decide)
      obtain ⟨y6, g6⟩ := get 6 (by decide)
      have f0 : DataW.trod enc Tryz.prog w base spare held n 3 (([c0, c1, c2, c3, c4, c5, c6, c7].drop 0).take (Tryz.prog.cellsOf 3)) = some y0 := (hf 0 _ rfl).trans g0
      have f1 : DataW.trod enc Tryz.prog w base spare held n 4 (([c0, c1, c2, c3, c4, c5, c6, c7].drop 1).take (Tryz.prog.cellsOf 4)) = some y1 := (hf 1 _ rfl).trans g1
      have f2 : DataW.trod enc Tryz.prog w base spare held n 2 (([c0, c1, c2, c3, c4, c5, c6, c7].drop 2).take (Tryz.prog.cellsOf 2)) = some y2 := (hf 2 _ rfl).trans g2
      have f3 : DataW.trod enc Tryz.prog w base spare held n 9 (([c0, c1, c2, c3, c4, c5, c6, c7].drop 3).take (Tryz.prog.cellsOf 9)) = some y3 := (hf 3 _ rfl).trans g3
      have f4 : DataW.trod enc Tryz.prog w base spare held n 23 (([c0, c1, c2, c3, c4, c5, c6, c7].drop 4).take (Tryz.prog.cellsOf 23)) = some y4 := (hf 4 _ rfl).trans g4
      have f5 : DataW.trod enc Tryz.prog w base spare held n 24 (([c0, c1, c2, c3, c4, c5, c6, c7].drop 6).take (Tryz.prog.cellsOf 24)) = some y5 := (hf 5 _ rfl).trans g5
      have f6 : DataW.trod enc Tryz.prog w base spare held n 25 (([c0, c1, c2, c3, c4, c5, c6, c7].drop 7).take (Tryz.prog.cellsOf 25)) = some y6 := (hf 6 _ rfl).trans g6
      rw [cof3] at f0
      rw [cof4] at f1
      rw [cof2] at f2
      rw [cof9] at f3
      rw [cof23] at f4
      rw [cof24] at f5
      rw [cof25] at f6
      obtain ⟨k, e0, -, -⟩ := DataW.trod_int Tryz.underlying3 f0
      obtain ⟨b, e1, -⟩ := DataW.trod_bool Tryz.underlying4 f1
      obtain ⟨m, e2, -, -⟩ := DataW.trod_int Tryz.underlying2 f2
      obtain ⟨s, e3, -, hs⟩ := DataW.trod_string Tryz.underlying9 f3
      obtain ⟨us, un, -, -, -, hul, huf⟩ := DataW.trod_struct Tryz.underlying23 f4
      have hu2 : us.length = 2 := hul
      have u0 : DataW.trod enc Tryz.prog w base spare held un 9 ((([c0, c1, c2, c3, c4, c5, c6, c7].drop 4).take 2).drop 0 |>.take (Tryz.prog.cellsOf 9)) = some _ := (huf 0 _ rfl).trans (List.getElem?_eq_getElem (by omega))
      have u1 : DataW.trod enc Tryz.prog w base spare held un 9 ((([c0, c1, c2, c3, c4, c5, c6, c7].drop 4).take 2).drop 1 |>.take (Tryz.prog.cellsOf 9)) = some _ := (huf 1 _ rfl).trans (List.getElem?_eq_getElem (by omega))
      rw [cof9] at u0 u1
      obtain ⟨t, e4, -, ht⟩ := DataW.trod_string Tryz.underlying9 u0
      obtain ⟨i, e5, -, hi⟩ := DataW.trod_string Tryz.underlying9 u1
      obtain ⟨ns, nm, e7, hns⟩ := trod_names f6
      simp at e0 e1 e2 e3 e4 e5 e7
      subst e0 e1 e2 e3 e4 e5 e7
      have hb : Bh ⟨k, b, m, s, t, i⟩ := ⟨by unfold maxLen at hs; exact hs, by unfold maxLen at ht; exact ht, by unfold maxLen at hi; exact hi⟩
      rcases DataW.trod_slice Tryz.underlying24 f5 with ⟨e6, -⟩ | ⟨a, len, cap, elems, rest, n2, hn2, e6, -, -, hlc, hcm, hel, hall, -, -⟩
      · simp at e6
        subst e6
        exact ⟨.mk ⟨k, b, m, s, t, i⟩ [] ns, _, _, rfl, rep_v.2 ⟨hb, hns, none, 0, rfl, ⟨by simp [V.l], by simp⟩, .inl rfl⟩⟩
      · simp at e6
        subst e6
        rw [cof27] at hall
        have hx : ∀ j, j < len → ∃ z : V × Value × Value, (∀ c u, (hdc z.1.h z.2.1 z.2.2)[c]? = some u → w.cell? (a.add (j * 8 + c)) = some u) ∧ R w z.1 z.2.1 z.2.2 := fun j hj => by
          have h1 := hall j hj
          rw [List.getElem?_eq_getElem (by omega)] at h1
          obtain ⟨c, h2, h3⟩ := Option.bind_eq_some_iff.1 h1
          obtain ⟨v, it, nm, rfl, hr⟩ := ih n2 (by omega) h3
          obtain ⟨-, -, hat⟩ := World.cells?_some h2
          refine ⟨(v, it, nm), fun c u hu => ?_, hr⟩
          have h8 : c < 8 := by have := (List.getElem?_eq_some_iff.1 hu).1; simpa [hdc] using this
          have := hat c h8
          rw [add_add] at this
          rw [this]; exact hu
        haveI : Inhabited (V × Value × Value) := ⟨(V0, .nilFunc, .nilFunc)⟩
        obtain ⟨f, hfz⟩ := choose_lt hx
        refine ⟨.mk ⟨k, b, m, s, t, i⟩ ((List.range len).map fun j => (f j).1) ns, _, _, rfl, rep_v.2 ⟨hb, hns, some a, cap, by simp [V.l], ⟨by simp [V.l]; exact hlc, by unfold maxLen at hcm; exact hcm⟩, ?_⟩⟩
        rcases Nat.eq_zero_or_pos len with h0 | h0
        · exact .inl (by rw [h0]; rfl)
        · obtain ⟨bb, oo, rfl⟩ := addr_plainv ((hfz 0 h0).1 0 _ rfl)
          refine .inr ⟨bb, oo, rfl, trivial, repF_of fun j hj => ?_⟩
          have hj' : j < len := by simpa [V.l] using hj
          have hg : (V.mk ⟨k, b, m, s, t, i⟩ ((List.range len).map fun j => (f j).1) ns).l[j] = (f j).1 := by simp [V.l]
          rw [hg]
          refine ⟨(f j).2.1, (f j).2.2, fun c u hu => ?_, (hfz j hj').2⟩
          have := (hfz j hj').1 c u hu
          rw [Addr.add_lit] at this
          rw [Nat.add_assoc]; exact this

set_option maxRecDepth 100000 in
theorem open_val {r : Reach} {base : Nat} {v : Value} {d : DataW H} {p : List MemPlace} (hv : Value.okWide Tryz.prog w r base 27 v) (h : DataW.Trod enc Tryz.prog w 0 spare held 27 v d p) : ∃ (x : V) (it nm : Value), v = avv x.h it nm ∧ R w x it nm := by
  obtain ⟨cs, rfl, -⟩ := okWide_struct Tryz.underlying27 hv
  obtain ⟨fuel, hf⟩ := h
  obtain ⟨x, it, nm, he, hr⟩ := trod_val fuel hf
  refine ⟨x, it, nm, ?_, hr⟩
  have : cs = (hdc x.h it nm).toArray := by
    rw [← he]; simp [Value.cells]
  rw [this]; rfl
end Go.Proofs.YtnenjgngahipdaaGreat
namespace Go.Proofs.YtnenjgngahipdaaGreat
open Go.RowKit Go.ChangeShapes Go.WideShapes Go.Deep
variable {H : Type} {enc : TypeId × Value → H} {w : World} {spare : Nat → Bool} {held : Bool}
theorem cofT : Tryz.prog.cellsOf 31 = 4 := by kernel_rfl
theorem cofA : Tryz.prog.cellsOf 63 = 6 := by kernel_rfl
theorem cofI : Tryz.prog.cellsOf 3 = 1 := by kernel_rfl
theorem cofB : Tryz.prog.cellsOf 4 = 1 := by kernel_rfl
theorem cofS : Tryz.prog.cellsOf 9 = 1 := by kernel_rfl
theorem cofLT : Tryz.prog.cellsOf 28 = 1 := by kernel_rfl
theorem cofLA : Tryz.prog.cellsOf 29 = 1 := by kernel_rfl
theorem addr_plain {a : Addr} {v : Value} (h : w.cell? (a.add 0) = some v) : ∃ b o, a = ⟨b, o, none⟩ := by
  have e : a.add 0 = a := by simp [Addr.add]
  rw [e] at h
  obtain ⟨b, o, s⟩ := a
  cases s with
  | none => exact ⟨b, o, rfl⟩
  | some s => unfold World.cell? at h; split at h <;> simp at h
theorem RT.mono {A : Nat → Prop} {n m : Nat} {t : T} {e v : Value} (h : RT A w n t e v) (hm : n ≤ m) : RT A w m t e v := RT.re (h.dp.le hm) h
instance : Inhabited T := ⟨noT⟩
/-- A slice of rows of one's own. -/
theorem row_of {α : Type} [Inhabited α] {fuel sz : Nat} {ty el : TypeId} {cs : List Value} {x : DataW H × List MemPlace} {base : Nat} (hu : Tryz.prog.underlying ty = some (.slice el)) (hsz : Tryz.prog.cellsOf el = sz) (encX : α → Value → Value → List Value) (R : α → Value → Value → Prop)
    (hlen : ∀ x e v, (encX x e v).length = sz) (hf0 : ∀ x e v, ∃ u, (encX x e v)[0]? = some u)
    (ih : ∀ m, m < fuel → ∀ (cs : List Value) (x : DataW H × List MemPlace), DataW.trod enc Tryz.prog w base spare held m el cs = some x → ∃ (y : α) (e v : Value), cs = encX y e v ∧ R y e v)
    (h : DataW.trod enc Tryz.prog w base spare held fuel ty cs = some x) : ∃ (l : List α) (it : Value), cs = [it] ∧ RowR (fun _ => True) w sz encX R l it := by
  rcases DataW.trod_slice hu h with ⟨rfl, -⟩ | ⟨a, len, cap, elems, rest, n2, hn2, rfl, -, -, hlc, hcm, hel, hall, -, -⟩
  · exact ⟨[], _, rfl, none, 0, rfl, ⟨by simp, by simp⟩, .inl rfl⟩
  · rw [hsz] at hall
    have hx : ∀ j, j < len → ∃ z : α × Value × Value, (∀ c u, (encX z.1 z.2.1 z.2.2)[c]? = some u → w.cell? (a.add (j * sz + c)) = some u) ∧ R z.1 z.2.1 z.2.2 := fun j hj => by
      have h1 := hall j hj
      rw [List.getElem?_eq_getElem (by omega)] at h1
      obtain ⟨c, h2, h3⟩ := Option.bind_eq_some_iff.1 h1
      obtain ⟨y, e, v, rfl, hr⟩ := ih n2 (by omega) _ _ h3
      obtain ⟨-, -, hat⟩ := World.cells?_some h2
      refine ⟨(y, e, v), fun c u hu => ?_, hr⟩
      have h8 : c < sz := by have := (List.getElem?_eq_some_iff.1 hu).1; rwa [hlen] at this
      have := hat c h8
      rw [add_add] at this
      rw [this]; exact hu
    haveI : Inhabited (α × Value × Value) := ⟨(default, .nilFunc, .nilFunc)⟩
    obtain ⟨f, hfz⟩ := choose_lt hx
    refine ⟨(List.range len).map fun j => (f j).1, _, rfl, some a, cap, by simp, ⟨by simp; exact hlc, by unfold maxLen at hcm; exact hcm⟩, ?_⟩
    rcases Nat.eq_zero_or_pos len with h0 | h0
    · exact .inl (by rw [h0]; rfl)
    · obtain ⟨u, hu⟩ := hf0 (f 0).1 (f 0).2.1 (f 0).2.2
      have ha := (hfz 0 h0).1 0 u hu
      rw [Nat.zero_mul, Nat.add_zero] at ha
      obtain ⟨bb, oo, rfl⟩ := addr_plain ha
      refine .inr ⟨bb, oo, rfl, trivial, fun j hj => ?_⟩
      have hj' : j < len := by simpa using hj
      refine ⟨(f j).2.1, (f j).2.2, fun c u hu => ?_, ?_⟩
      · have := (hfz j hj').1 c u (by simpa using hu)
        rw [Addr.add_lit] at this
        rw [Nat.add_assoc]; exact this
      · have := (hfz j hj').2
        simpa using this
set_option maxRecDepth 100000 in
theorem trod_ty {base : Nat} : ∀ (fuel : Nat) {cs : List Value} {x : DataW H × List MemPlace}, DataW.trod enc Tryz.prog w base spare held fuel 31 cs = some x → ∃ (t : T) (e v : Value), cs = tcs t e v ∧ RT (fun _ => True) w fuel t e v := by
  intro fuel
  induction fuel using Nat.strongRecOn with
  | _ fuel ih =>
    intro cs x h
    obtain ⟨xs, n, rfl, -, hlen, hxl, hf⟩ := DataW.trod_struct Tryz.underlying31 h
    rw [cofT] at hlen
    have hx4 : xs.length = 4 := hxl
    have get : ∀ i, i < 4 → ∃ y, xs[i]? = some y := fun i hi => ⟨xs[i]'(by omega), List.getElem?_eq_getElem (by omega)⟩
    match cs, hlen with
    | [c0, c1, c2, c3], _ =>
      obtain ⟨y0, g0⟩ := get 0 (by decide)
      obtain ⟨y1, g1⟩ := get 1 (by decide)
      obtain ⟨y2, g2⟩ := get 2 (by decide)
      obtain ⟨y3, g3⟩ := get 3 (by decide)
      have f0 : DataW.trod enc Tryz.prog w base spare held n 3 (([c0, c1, c2, c3].drop 0).take (Tryz.prog.cellsOf 3)) = some y0 := (hf 0 _ rfl).trans g0
      have f1 : DataW.trod enc Tryz.prog w base spare held n 9 (([c0, c1, c2, c3].drop 1).take (Tryz.prog.cellsOf 9)) = some y1 := (hf 1 _ rfl).trans g1
      have f2 : DataW.trod enc Tryz.prog w base spare held n 28 (([c0, c1, c2, c3].drop 2).take (Tryz.prog.cellsOf 28)) = some y2 := (hf 2 _ rfl).trans g2
      have f3 : DataW.trod enc Tryz.prog w base spare held n 29 (([c0, c1, c2, c3].drop 3).take (Tryz.prog.cellsOf 29)) = some y3 := (hf 3 _ rfl).trans g3
      rw [cofI] at f0
      rw [cofS] at f1
      rw [cofLT] at f2
      rw [cofLA] at f3
      obtain ⟨k, e0, -, -⟩ := DataW.trod_int Tryz.underlying3 f0
      obtain ⟨s, e1, -, hs⟩ := DataW.trod_string Tryz.underlying9 f1
      obtain ⟨l, e, e2, hl⟩ := row_of Tryz.underlying28 cofT tcs (RT (fun _ => True) w n) (fun _ _ _ => rfl) tcs_0 (fun m hm cs x hx => by
        obtain ⟨t, e, v, h1, h2⟩ := ih m (by omega) hx
        exact ⟨t, e, v, h1, h2.mono (by omega)⟩) f2
      obtain ⟨as', v, e3, ha⟩ := row_of Tryz.underlying29 cofA acs (fun x e v => (an x).size ≤ 9223372036854775807 ∧ RT (fun _ => True) w n (aty x) e v) (fun _ _ _ => rfl) acs_0 (fun m hm cs x hx => by
        obtain ⟨zs, n3, rfl, -, hlen, hzl, hz⟩ := DataW.trod_struct Tryz.underlying63 hx
        rw [cofA] at hlen
        have hz3 : zs.length = 3 := hzl
        match cs, hlen with
        | [d0, d1, d2, d3, d4, d5], _ =>
          have q0 : DataW.trod enc Tryz.prog w base spare held n3 9 (([d0, d1, d2, d3, d4, d5].drop 0).take (Tryz.prog.cellsOf 9)) = some _ := (hz 0 _ rfl).trans (List.getElem?_eq_getElem (by omega))
          have q1 : DataW.trod enc Tryz.prog w base spare held n3 31 (([d0, d1, d2, d3, d4, d5].drop 1).take (Tryz.prog.cellsOf 31)) = some _ := (hz 1 _ rfl).trans (List.getElem?_eq_getElem (by omega))
          have q2 : DataW.trod enc Tryz.prog w base spare held n3 4 (([d0, d1, d2, d3, d4, d5].drop 5).take (Tryz.prog.cellsOf 4)) = some _ := (hz 2 _ rfl).trans (List.getElem?_eq_getElem (by omega))
          rw [cofS] at q0
          rw [cofT] at q1
          rw [cofB] at q2
          obtain ⟨m1, r0, -, hm1⟩ := DataW.trod_string Tryz.underlying9 q0
          obtain ⟨t, e, v, r1, hr⟩ := ih n3 (by omega) q1
          obtain ⟨b, r2, -⟩ := DataW.trod_bool Tryz.underlying4 q2
          simp [tcs] at r0 r1 r2
          obtain ⟨r3, r4, r5, r6⟩ := r1
          subst r0 r2 r3 r4 r5 r6
          exact ⟨(m1, t, b), _, _, rfl, by unfold maxLen at hm1; exact hm1, hr.mono (by omega)⟩) f3
      simp at e0 e1 e2 e3
      subst e0 e1 e2 e3
      exact ⟨.mk k s l as', _, _, rfl, by unfold maxLen at hs; exact hs, hl, ha⟩
set_option maxRecDepth 100000 in
theorem open_ty {r : Reach} {base : Nat} {v : Value} {d : DataW H} {p : List MemPlace} (hv : Value.okWide Tryz.prog w r base 31 v) (h : DataW.Trod enc Tryz.prog w 0 spare held 31 v d p) : ∃ (n : Nat) (t : T) (e u : Value), v = tv t e u ∧ RT (fun _ => True) w n t e u := by
  obtain ⟨cs, rfl, -⟩ := okWide_struct Tryz.underlying31 hv
  obtain ⟨fuel, hf⟩ := h
  obtain ⟨x, it, nm, he, hr⟩ := trod_ty fuel hf
  refine ⟨fuel, x, it, nm, ?_, hr⟩
  have : cs = (tcs x it nm).toArray := by
    rw [← he]; simp [Value.cells]
  rw [this]; rfl
end Go.Proofs.YtnenjgngahipdaaGreat
