/- few and size of layer 5 answer: few's yes says that all rows are short and the depth is small. No condition. Lists of entities: 'small' says that all of it is short. No condition. -/
import Derived.Test.YtmkillbanmbafaaGreatGrs
import Derived.Deep.LoopGhost
import Derived.Lib.Hide
import Derived.Test.YtmkillbanmbafaaGreatEntM
namespace Go.Proofs.YtmkillbanmbafaaGreat
open Go.RowKit Go.Sort
set_option maxHeartbeats 800000 in
theorem few5_c (n : Nat) : ∀ (v : V) (A : Nat → Prop) (d : Int) (w : World) (it nm : Value), dep v ≤ n → Rep A w v it nm → 0 ≤ d → d ≤ 1000 →
    Calls Tryz.prog 20 #[av v.h it nm, .int .i64 d] w (FewP v d w) := by
  induction n with
  | zero => intro v A d w it nm h; rw [dep_v] at h; omega
  | succ n ih =>
    intro v A d w it nm hd hr h0 h1
    obtain ⟨-, ⟨an, cn, rfl, hln, -, -⟩, ai, ci, rfl, ⟨hli, hci⟩, hx⟩ := rep_v.1 hr
    unfold av
    by_cases hc : v.l.length ≤ 20 ∧ v.ns.length ≤ 20 ∧ d ≤ 60
    · obtain ⟨c1, c2, c3⟩ := hc
      have z1 : (v.l.length : Int) ≤ 20 := by omega
      have z2 : (v.ns.length : Int) ≤ 20 := by omega
      have H1 := Lib.hid hd
      have H2 := Lib.hid hr
      have H3 := Lib.hid hx
      have H4 := Lib.hid ih
      clear hd hr hx ih
      go_enter Tryz.func20, Tryz.ntmps20
      go_wp2_with fail
      go_loopg [5] v.l.length (fun gk vi wr => ∃ i : Nat, vi = .int .i64 (i : Int) ∧ i ≤ v.l.length ∧ v.l.length - i ≤ gk ∧ Hid (Gr (w.alloc (.cells #[.int .i64 v.h.k, .bool v.h.b, .int .i64 v.h.n, .string v.h.s, .string v.h.t, .string v.h.i, .slice ai v.l.length ci, .slice an v.ns.length cn] 37)) wr) ∧ Hid (∀ j (hj : j < v.l.length), j < i → Sm v.l[j] ∧ (dep v.l[j] : Int) + (d + 1) ≤ 61))
      case atStart => exact ⟨0, rfl, Nat.zero_le _, Nat.le_refl _, Lib.hid (Gr.refl _), Lib.hid fun j hj h => absurd h (Nat.not_lt_zero _)⟩
      case round =>
        obtain ⟨i, rfl, hi, hg, G, K⟩ := hrel
        have f6 : wr.cell? ⟨w.heap.size, 6, none⟩ = some (.slice ai v.l.length ci) := gr_cells G.out (by simp)
        by_cases hlt : i < v.l.length
        · have zl : (i : Int) < (v.l.length : Int) := by omega
          rcases H3.out with h0 | ⟨b, o, rfl, ha, hf⟩
          · rw [h0] at hlt; exact absurd hlt (Nat.not_lt_zero _)
          have hlw : Low w wr := (Gr.alloc (Gr.refl w) _).low.trans G.out.low
          obtain ⟨it, nm, hcs, hrx⟩ := repF_at hf i hlt
          have hcl := (Gr.alloc (Gr.refl w) _).trans G.out
          obtain ⟨e0, e1, e2, e3, e4, e5, e6, e7⟩ := cells8 (hlw.cells hcs)
          have hcon := H4.out v.l[i] A (d + 1) wr it nm (by have := dep_item hlt; have := H1.out; omega) (hrx.low hlw) (by omega) (by omega)
          have HC := Lib.hid hcon
          clear hcon hcs hlw
          have HF := Lib.hid hf
          have HR := Lib.hid hrx
          clear hf hrx
          go_wp2_with fail
          refine HC.out.mono ?_
          rintro e w' ⟨bb, rfl, hb, g⟩
          cases bb with
          | false =>
            go_wp2_with fail
            go_ret
            exact ⟨false, rfl, by simp, hcl.trans g⟩
          | true =>
            have HB := Lib.hid (hb rfl)
            clear hb
            go_wp2_with fail
            go_roundg (v.l.length - (i + 1))
            case measure => omega
            case rel =>
              refine ⟨i + 1, by go_num, by omega, by omega, Lib.hid (G.out.trans g), Lib.hid fun j hj hji => ?_⟩
              rcases Nat.lt_succ_iff_lt_or_eq.1 hji with h | rfl
              · exact K.out j hj h
              · exact HB.out
        · have zl : ¬ (i : Int) < (v.l.length : Int) := by omega
          go_wp2_with fail
          go_ret
          refine ⟨true, rfl, fun _ => ?_, (Gr.alloc (Gr.refl w) _).trans G.out⟩
          have hall : ∀ x ∈ v.l, Sm x ∧ (dep x : Int) + (d + 1) ≤ 61 := fun x hx => by
            obtain ⟨j, hj, rfl⟩ := List.getElem_of_mem hx
            exact K.out j hj (by omega)
          refine ⟨(sm_v v).2 ⟨by omega, by omega, fun x hx => (hall x hx).1⟩, ?_⟩
          have : depL v.l ≤ (60 - d).toNat := depL_le fun x hx => by have := (hall x hx).2; omega
          rw [dep_v]; omega
    · have H1 := Lib.hid hd
      have H2 := Lib.hid hr
      have H3 := Lib.hid hx
      have H4 := Lib.hid ih
      have H5 := Lib.hid hc
      clear hd hr hx ih hc
      by_cases e1 : v.l.length ≤ 20
      · have z1 : (v.l.length : Int) ≤ 20 := by omega
        by_cases e2 : v.ns.length ≤ 20
        · have z2 : (v.ns.length : Int) ≤ 20 := by omega
          have z3 : 60 < d := by have := H5.out; omega
          go_enter Tryz.func20, Tryz.ntmps20
          go_wp2_with fail
          go_ret
          exact ⟨false, rfl, by simp, Gr.alloc (Gr.refl w) _⟩
        · have z2 : 20 < (v.ns.length : Int) := by omega
          go_enter Tryz.func20, Tryz.ntmps20
          go_wp2_with fail
          go_ret
          exact ⟨false, rfl, by simp, Gr.alloc (Gr.refl w) _⟩
      · have z1 : 20 < (v.l.length : Int) := by omega
        go_enter Tryz.func20, Tryz.ntmps20
        go_wp2_with fail
        go_ret
        exact ⟨false, rfl, by simp, Gr.alloc (Gr.refl w) _⟩
set_option maxHeartbeats 800000 in
theorem size5_c (n : Nat) : ∀ (v : V) (A : Nat → Prop) (w : World) (it nm : Value), dep v ≤ n → Rep A w v it nm →
    Calls Tryz.prog 21 #[av v.h it nm] w (SizeP w) := by
  induction n with
  | zero => intro v A w it nm h; rw [dep_v] at h; omega
  | succ n ih =>
    intro v A w it nm hd hr
    obtain ⟨-, ⟨an, cn, rfl, hln, -, -⟩, ai, ci, rfl, ⟨hli, hci⟩, hx⟩ := rep_v.1 hr
    unfold av
    have H1 := Lib.hid hd
    have H3 := Lib.hid hx
    have H4 := Lib.hid ih
    clear hd hr hx ih
    go_enter Tryz.func21, Tryz.ntmps21
    go_wp2_with fail
    go_loopg [3, 4] v.l.length (fun gk vn vi wr => ∃ (i : Nat) (m : Int), vn = .int .i64 m ∧ vi = .int .i64 (i : Int) ∧ i ≤ v.l.length ∧ v.l.length - i ≤ gk ∧ Hid (Gr (w.alloc (.cells #[.int .i64 v.h.k, .bool v.h.b, .int .i64 v.h.n, .string v.h.s, .string v.h.t, .string v.h.i, .slice ai v.l.length ci, .slice an v.ns.length cn] 37)) wr))
    case atStart => exact ⟨0, 1, rfl, rfl, Nat.zero_le _, Nat.le_refl _, Lib.hid (Gr.refl _)⟩
    case round =>
      obtain ⟨i, m, rfl, rfl, hi, hg, G⟩ := hrel
      have f6 : wr.cell? ⟨w.heap.size, 6, none⟩ = some (.slice ai v.l.length ci) := gr_cells G.out (by simp)
      by_cases hlt : i < v.l.length
      · have zl : (i : Int) < (v.l.length : Int) := by omega
        by_cases hm : m < 1000
        · rcases H3.out with h0 | ⟨b, o, rfl, ha, hf⟩
          · rw [h0] at hlt; exact absurd hlt (Nat.not_lt_zero _)
          have hcl := (Gr.alloc (Gr.refl w) _).trans G.out
          have hlw : Low w wr := hcl.low
          obtain ⟨it, nm, hcs, hrx⟩ := repF_at hf i hlt
          obtain ⟨e0, e1, e2, e3, e4, e5, e6, e7⟩ := cells8 (hlw.cells hcs)
          have hcon := H4.out v.l[i] A wr it nm (by have := dep_item hlt; have := H1.out; omega) (hrx.low hlw)
          have HC := Lib.hid hcon
          have HF := Lib.hid hf
          have HR := Lib.hid hrx
          have HW := Lib.hid hcl
          clear hcon hcs hlw hf hrx hcl
          go_wp2_with fail
          refine HC.out.mono ?_
          rintro e w' ⟨m', rfl, g⟩
          go_wp2_with fail
          go_roundg (v.l.length - (i + 1))
          case measure => omega
          case rel => exact ⟨i + 1, _, rfl, by go_num, by omega, by omega, Lib.hid (G.out.trans g)⟩
        · go_wp2_with fail
          go_ret
          exact ⟨m, rfl, (Gr.alloc (Gr.refl w) _).trans G.out⟩
      · have zl : ¬ (i : Int) < (v.l.length : Int) := by omega
        go_wp2_with fail
        go_ret
        exact ⟨m, rfl, (Gr.alloc (Gr.refl w) _).trans G.out⟩
end Go.Proofs.YtmkillbanmbafaaGreat
namespace Go.Proofs.YtmkillbanmbafaaGreat
open Go.RowKit Go.Sort
theorem ee11 {w : World} {b o : Nat} {q : Ee} (h : CellsAt w b o q.sh.cs) :
    w.cell? ⟨b, o, none⟩ = some (.string q.e.u.t) ∧ w.cell? ⟨b, o + 1, none⟩ = some (.string q.e.u.i) ∧ w.cell? ⟨b, o + 2, none⟩ = some (.slice q.ap q.e.ps.length q.cp) ∧ w.cell? ⟨b, o + 3, none⟩ = some (.int .i64 q.e.a.h.k) ∧
    w.cell? ⟨b, o + 4, none⟩ = some (.bool q.e.a.h.b) ∧ w.cell? ⟨b, o + 5, none⟩ = some (.int .i64 q.e.a.h.n) ∧ w.cell? ⟨b, o + 6, none⟩ = some (.string q.e.a.h.s) ∧ w.cell? ⟨b, o + 7, none⟩ = some (.string q.e.a.h.t) ∧
    w.cell? ⟨b, o + 8, none⟩ = some (.string q.e.a.h.i) ∧ w.cell? ⟨b, o + 9, none⟩ = some (.slice q.ai q.e.a.l.length q.ci) ∧ w.cell? ⟨b, o + 10, none⟩ = some (.slice q.an q.e.a.ns.length q.cn) := cells11 h
/-- What is said of a small entity. -/
def SmE (e : En) : Prop := Sm e.a ∧ dep e.a ≤ 61 ∧ e.ps.length ≤ 20
def SmallP (qs : List Ee) (w : World) (e : Ending) (w' : World) : Prop := ∃ b : Bool, e = .returned (.bool b) ∧ (b = true → qs.length ≤ 20 ∧ ∀ q ∈ qs, SmE q.e) ∧ Gr w w'
set_option maxHeartbeats 1600000 in
theorem small_c (qs : List Ee) (w : World) (r : Value) (h : EtAt w r qs) : Calls Tryz.prog 9 #[r] w (SmallP qs w) := by
  obtain ⟨ao, c, rfl, ⟨hlc, hc9⟩, hx⟩ := h.at
  have HX := Lib.hid hx
  have HQ := Lib.hid h.2
  clear hx h
  by_cases h20 : qs.length ≤ 20
  case neg =>
    have z1 : 20 < (qs.length : Int) := by omega
    go_enter Tryz.func9, Tryz.ntmps9
    go_wp2_with fail
    go_ret
    exact ⟨false, rfl, by simp, Gr.refl _⟩
  case pos =>
    have z1 : (qs.length : Int) ≤ 20 := by omega
    go_enter Tryz.func9, Tryz.ntmps9
    go_wp2_with fail
    go_loopg [3] qs.length (fun gk vi wr => ∃ i : Nat, vi = .int .i64 (i : Int) ∧ i ≤ qs.length ∧ qs.length - i ≤ gk ∧ Hid (Gr w wr) ∧ Hid (∀ j (hj : j < qs.length), j < i → SmE qs[j].e))
    case atStart => exact ⟨0, rfl, Nat.zero_le _, Nat.le_refl _, Lib.hid (Gr.refl _), Lib.hid fun j hj h => absurd h (Nat.not_lt_zero _)⟩
    case round =>
      obtain ⟨i, rfl, hi, hg, G, K⟩ := hrel
      by_cases hlt : i < qs.length
      · have zl : (i : Int) < (qs.length : Int) := by omega
        obtain ⟨b, o, rfl, hcs⟩ := HX.out i hlt
        have hq := HQ.out qs[i] (List.getElem_mem hlt)
        obtain ⟨q, hqq⟩ : ∃ q, q = qs[i] := ⟨_, rfl⟩
        rw [← hqq] at hcs hq
        obtain ⟨e0, e1, e2, e3, e4, e5, e6, e7, e8, e9, e10⟩ := ee11 (G.out.low.cells hcs)
        have hr : Rep (fun _ => True) wr q.e.a (.slice q.ai q.e.a.l.length q.ci) (.slice q.an q.e.a.ns.length q.cn) := hq.2.low G.out.low
        have HR := Lib.hid hr
        have HC := Lib.hid (few5_c (dep q.e.a) q.e.a _ 0 wr _ _ (Nat.le_refl _) hr (by decide) (by decide))
        have QQ := Lib.hid hqq
        have HCS := Lib.hid hcs
        clear hr hq hqq hcs
        unfold av at HC
        go_wp2_with fail
        refine HC.out.mono ?_
        rintro e w1 ⟨bb, rfl, hb, g⟩
        cases bb with
        | false =>
          clear hb
          have G1 := Lib.hid (G.out.trans g)
          clear g e0 e1 e2 e3 e4 e5 e6 e7 e8 e9 e10
          go_wp2_with fail
          go_ret
          exact ⟨false, rfl, by simp, G1.out⟩
        | true =>
          have HB := Lib.hid (hb rfl)
          have G1 := Lib.hid (G.out.trans g)
          have HC2 := Lib.hid (size5_c (dep q.e.a) q.e.a _ w1 _ _ (Nat.le_refl _) (HR.out.low g.low))
          unfold av at HC2
          clear hb g e0 e1 e2 e3 e4 e5 e6 e7 e8 e9 e10 HC
          obtain ⟨e0, e1, e2, e3, e4, e5, e6, e7, e8, e9, e10⟩ := ee11 (G1.out.low.cells HCS.out)
          go_wp2_with fail
          refine HC2.out.mono ?_
          rintro e w2 ⟨m, rfl, g⟩
          have G2 := Lib.hid (G1.out.trans g)
          clear g e0 e1 e2 e3 e4 e5 e6 e7 e8 e9 e10 HC2
          by_cases hm : 100 < m
          · go_wp2_with fail
            go_ret
            exact ⟨false, rfl, by simp, G2.out⟩
          · obtain ⟨e0, e1, e2, e3, e4, e5, e6, e7, e8, e9, e10⟩ := ee11 (G2.out.low.cells HCS.out)
            by_cases hp : q.e.ps.length ≤ 20
            · have zp : (q.e.ps.length : Int) ≤ 20 := by omega
              go_wp2_with fail
              go_roundg (qs.length - (i + 1))
              case measure => omega
              case rel =>
                refine ⟨i + 1, by go_num, by omega, by omega, G2, Lib.hid fun j hj hji => ?_⟩
                rcases Nat.lt_succ_iff_lt_or_eq.1 hji with h | rfl
                · exact K.out j hj h
                · rw [← QQ.out]
                  exact ⟨HB.out.1, by have := HB.out.2; omega, hp⟩
            · have zp : 20 < (q.e.ps.length : Int) := by omega
              go_wp2_with fail
              go_ret
              exact ⟨false, rfl, by simp, G2.out⟩
      · have zl : ¬ (i : Int) < (qs.length : Int) := by omega
        go_wp2_with fail
        go_ret
        refine ⟨true, rfl, fun _ => ⟨h20, fun q hq => ?_⟩, G.out⟩
        obtain ⟨j, hj, rfl⟩ := List.getElem_of_mem hq
        exact K.out j hj (by omega)
end Go.Proofs.YtmkillbanmbafaaGreat
