/- slight, mass and crowd of layer 13: a yes says that all rows are short and the depth is small. No condition. The reference's Get: where a record has a name. No condition. -/
import Derived.Test.YtnenjgngahipdaaGreatZg09
import Derived.Test.YtnenjgngahipdaaGreatZg03
import Derived.Deep.LoopGhost
import Derived.Lib.Hide
import Derived.Test.YtnenjgngahipdaaGreatZg10
set_option linter.unusedVariables false
set_option linter.unusedSimpArgs false
set_option linter.unnecessarySimpa false
namespace Go.Proofs.YtnenjgngahipdaaGreat
open Go.RowKit Go.Sort
set_option maxHeartbeats 800000 in
theorem mass_c (n : Nat) : ∀ (v : V) (A : Nat → Prop) (w : World) (it nm : Value), dep v ≤ n → Rep A w v it nm →
    Calls Tryz.prog 26 #[avv v.h it nm] w (SizePv w) := by
  induction n with
  | zero => intro v A w it nm h; rw [dep_v] at h; omega
  | succ n ih =>
    intro v A w it nm hd hr
    obtain ⟨-, ⟨an, cn, rfl, hln, -, -⟩, ai, ci, rfl, ⟨hli, hci⟩, hx⟩ := rep_v.1 hr
    unfold avv
    have H1 := Lib.hid hd
    have H3 := Lib.hid hx
    have H4 := Lib.hid ih
    clear hd hr hx ih
    go_enter Tryz.func26, Tryz.ntmps26
    go_wp2_with fail
    go_loopg [3, 4] v.l.length (fun gk vn vi wr => ∃ (i : Nat) (m : Int), vn = .int .i64 m ∧ vi = .int .i64 (i : Int) ∧ i ≤ v.l.length ∧ v.l.length - i ≤ gk ∧ Hid (Gr (w.alloc (.cells #[.int .i64 v.h.k, .bool v.h.b, .int .i64 v.h.n, .string v.h.s, .string v.h.t, .string v.h.i, .slice ai v.l.length ci, .slice an v.ns.length cn] 27)) wr))
    case atStart => exact ⟨0, 1, rfl, rfl, Nat.zero_le _, Nat.le_refl _, Lib.hid (Gr.refl _)⟩
    case round =>
      obtain ⟨i, m, rfl, rfl, hi, hg, G⟩ := hrel
      have f6 : wr.cell? ⟨w.heap.size, 6, none⟩ = some (.slice ai v.l.length ci) := gr_cells G.out (by simp)
      by_cases hlt : i < v.l.length
      · have zl : (i : Int) < (v.l.length : Int) := by omega
        by_cases hm : m < 1000
        · rcases H3.out with h0 | ⟨b, o, rfl, ha, hf⟩
          · rw [h0] at hlt; exact absurd hlt (Nat.not_lt_zero _)
          have hcl := (Gr.alloc (Gr.refl w) _).trans G.out
          have hlw : Low w wr := hcl.low
          obtain ⟨it, nm, hcs, hrx⟩ := repF_at hf i hlt
          obtain ⟨e0, e1, e2, e3, e4, e5, e6, e7⟩ := cells8 (hlw.cells hcs)
          have hcon := H4.out v.l[i] A wr it nm (by have := dep_item hlt; have := H1.out; omega) (hrx.low hlw)
          have HC := Lib.hid hcon
          have HF := Lib.hid hf
          have HR := Lib.hid hrx
          have HW := Lib.hid hcl
          clear hcon hcs hlw hf hrx hcl
          go_wp2_with fail
          refine HC.out.mono ?_
          rintro e w' ⟨m', rfl, g⟩
          go_wp2_with fail
          go_roundg (v.l.length - (i + 1))
          case measure => omega
          case rel => exact ⟨i + 1, _, rfl, by go_num, by omega, by omega, Lib.hid (G.out.trans g)⟩
        · go_wp2_with fail
          go_ret
          exact ⟨m, rfl, (Gr.alloc (Gr.refl w) _).trans G.out⟩
      · have zl : ¬ (i : Int) < (v.l.length : Int) := by omega
        go_wp2_with fail
        go_ret
        exact ⟨m, rfl, (Gr.alloc (Gr.refl w) _).trans G.out⟩
set_option maxHeartbeats 800000 in
theorem slight_c (n : Nat) : ∀ (v : V) (A : Nat → Prop) (d : Int) (w : World) (it nm : Value), dep v ≤ n → Rep A w v it nm → 0 ≤ d → d ≤ 1000 →
    Calls Tryz.prog 8 #[avv v.h it nm, .int .i64 d] w (FewPv v d w) := by
  induction n with
  | zero => intro v A d w it nm h; rw [dep_v] at h; omega
  | succ n ih =>
    intro v A d w it nm hd hr h0 h1
    obtain ⟨-, ⟨an, cn, rfl, hln, -, -⟩, ai, ci, rfl, ⟨hli, hci⟩, hx⟩ := rep_v.1 hr
    unfold avv
    by_cases hc : v.l.length ≤ 20 ∧ v.ns.length ≤ 20 ∧ d ≤ 55
    · obtain ⟨c1, c2, c3⟩ := hc
      have z1 : (v.l.length : Int) ≤ 20 := by omega
      have z2 : (v.ns.length : Int) ≤ 20 := by omega
      have H1 := Lib.hid hd
      have H2 := Lib.hid hr
      have H3 := Lib.hid hx
      have H4 := Lib.hid ih
      clear hd hr hx ih
      go_enter Tryz.func8, Tryz.ntmps8
      go_wp2_with fail
      go_loopg [5, 6] v.l.length (fun gk vm vi wr => ∃ (i : Nat) (m : Int), vm = .int .i64 m ∧ vi = .int .i64 (i : Int) ∧ i ≤ v.l.length ∧ v.l.length - i ≤ gk ∧ Hid (Gr (w.alloc (.cells #[.int .i64 v.h.k, .bool v.h.b, .int .i64 v.h.n, .string v.h.s, .string v.h.t, .string v.h.i, .slice ai v.l.length ci, .slice an v.ns.length cn] 27)) wr) ∧ Hid (∀ j (hj : j < v.l.length), j < i → Smv v.l[j] ∧ (dep v.l[j] : Int) + (d + 1) ≤ 61))
      case atStart => exact ⟨0, 0, rfl, rfl, Nat.zero_le _, Nat.le_refl _, Lib.hid (Gr.refl _), Lib.hid fun j hj h => absurd h (Nat.not_lt_zero _)⟩
      case round =>
        obtain ⟨i, m, rfl, rfl, hi, hg, G, K⟩ := hrel
        have f6 : wr.cell? ⟨w.heap.size, 6, none⟩ = some (.slice ai v.l.length ci) := gr_cells G.out (by simp)
        by_cases hlt : i < v.l.length
        · have zl : (i : Int) < (v.l.length : Int) := by omega
          rcases H3.out with h0 | ⟨b, o, rfl, ha, hf⟩
          · rw [h0] at hlt; exact absurd hlt (Nat.not_lt_zero _)
          have hlw : Low w wr := (Gr.alloc (Gr.refl w) _).low.trans G.out.low
          obtain ⟨it, nm, hcs, hrx⟩ := repF_at hf i hlt
          have hcl := (Gr.alloc (Gr.refl w) _).trans G.out
          obtain ⟨e0, e1, e2, e3, e4, e5, e6, e7⟩ := cells8 (hlw.cells hcs)
          have hcon := H4.out v.l[i] A (d + 1) wr it nm (by have := dep_item hlt; have := H1.out; omega) (hrx.low hlw) (by omega) (by omega)
          have HC := Lib.hid hcon
          have HF := Lib.hid hf
          have HR := Lib.hid (hrx.low hlw)
          clear hcon hcs hlw hf hrx
          go_wp2_with fail
          refine HC.out.mono ?_
          rintro e w' ⟨bb, rfl, hb, g⟩
          cases bb with
          | false =>
            go_wp2_with fail
            go_ret
            exact ⟨false, rfl, by simp, hcl.trans g⟩
          | true =>
            have HB := Lib.hid (hb rfl)
            have hmm := mass_c (dep v.l[i]) v.l[i] A w' _ _ (Nat.le_refl _) (HR.out.low g.low)
            unfold avv at hmm
            have HMM := Lib.hid hmm
            have f6 := g.cell f6
            have e0 := g.cell e0
            have e1 := g.cell e1
            have e2 := g.cell e2
            have e3 := g.cell e3
            have e4 := g.cell e4
            have e5 := g.cell e5
            have e6 := g.cell e6
            have e7 := g.cell e7
            have HG1 := Lib.hid (G.out.trans g)
            clear hb g hmm
            go_wp2_with fail
            refine HMM.out.mono ?_
            rintro e w2 ⟨m2, rfl, g2⟩
            have HG2 := Lib.hid (HG1.out.trans g2)
            clear g2 HMM e0 e1 e2 e3 e4 e5 e6 e7 f6
            go_wp2_with fail
            go_roundg (v.l.length - (i + 1))
            case measure => omega
            case rel =>
              refine ⟨i + 1, _, rfl, by go_num, by omega, by omega, HG2, Lib.hid fun j hj hji => ?_⟩
              rcases Nat.lt_succ_iff_lt_or_eq.1 hji with h | rfl
              · exact K.out j hj h
              · exact HB.out
        · have zl : ¬ (i : Int) < (v.l.length : Int) := by omega
          go_wp2_with fail
          go_ret
          refine ⟨_, rfl, fun _ => ?_, (Gr.alloc (Gr.refl w) _).trans G.out⟩
          have hall : ∀ x ∈ v.l, Smv x ∧ (dep x : Int) + (d + 1) ≤ 61 := fun x hx => by
            obtain ⟨j, hj, rfl⟩ := List.getElem_of_mem hx
            exact K.out j hj (by omega)
          refine ⟨(sm_v v).2 ⟨by omega, by omega, fun x hx => (hall x hx).1⟩, ?_⟩
          have : depL v.l ≤ (60 - d).toNat := depL_le fun x hx => by have := (hall x hx).2; omega
          rw [dep_v]; omega
    · have H1 := Lib.hid hd
      have H2 := Lib.hid hr
      have H3 := Lib.hid hx
      have H4 := Lib.hid ih
      have H5 := Lib.hid hc
      clear hd hr hx ih hc
      by_cases e1 : v.l.length ≤ 20
      · have z1 : (v.l.length : Int) ≤ 20 := by omega
        by_cases e2 : v.ns.length ≤ 20
        · have z2 : (v.ns.length : Int) ≤ 20 := by omega
          have z3 : 55 < d := by have := H5.out; omega
          go_enter Tryz.func8, Tryz.ntmps8
          go_wp2_with fail
          go_ret
          exact ⟨false, rfl, by simp, Gr.alloc (Gr.refl w) _⟩
        · have z2 : 20 < (v.ns.length : Int) := by omega
          go_enter Tryz.func8, Tryz.ntmps8
          go_wp2_with fail
          go_ret
          exact ⟨false, rfl, by simp, Gr.alloc (Gr.refl w) _⟩
      · have z1 : 20 < (v.l.length : Int) := by omega
        go_enter Tryz.func8, Tryz.ntmps8
        go_wp2_with fail
        go_ret
        exact ⟨false, rfl, by simp, Gr.alloc (Gr.refl w) _⟩
theorem ee119 {w : World} {b o : Nat} {q : Ee} (h : CellsAtv w b o q.sh.cs) :
    w.cell? ⟨b, o, none⟩ = some (.string q.e.u.t) ∧ w.cell? ⟨b, o + 1, none⟩ = some (.string q.e.u.i) ∧ w.cell? ⟨b, o + 2, none⟩ = some (.slice q.ap q.e.ps.length q.cp) ∧ w.cell? ⟨b, o + 3, none⟩ = some (.int .i64 q.e.a.h.k) ∧
    w.cell? ⟨b, o + 4, none⟩ = some (.bool q.e.a.h.b) ∧ w.cell? ⟨b, o + 5, none⟩ = some (.int .i64 q.e.a.h.n) ∧ w.cell? ⟨b, o + 6, none⟩ = some (.string q.e.a.h.s) ∧ w.cell? ⟨b, o + 7, none⟩ = some (.string q.e.a.h.t) ∧
    w.cell? ⟨b, o + 8, none⟩ = some (.string q.e.a.h.i) ∧ w.cell? ⟨b, o + 9, none⟩ = some (.slice q.ai q.e.a.l.length q.ci) ∧ w.cell? ⟨b, o + 10, none⟩ = some (.slice q.an q.e.a.ns.length q.cn) := cells11 h
/-- What is said of a small entity. -/
def SmE9 (e : En) : Prop := Smv e.a ∧ dep e.a ≤ 61 ∧ e.ps.length ≤ 20
def CrowdP (qs : List Ee) (w : World) (e : Ending) (w' : World) : Prop := ∃ b : Bool, e = .returned (.bool b) ∧ (b = true → qs.length ≤ 20 ∧ ∀ q ∈ qs, SmE9 q.e) ∧ Gr w w'
set_option maxHeartbeats 1600000 in
theorem crowd_c (qs : List Ee) (w : World) (r : Value) (h : EtAt w r qs) : Calls Tryz.prog 17 #[r] w (CrowdP qs w) := by
  obtain ⟨ao, c, rfl, ⟨hlc, hc9⟩, hx⟩ := h.at
  have HX := Lib.hid hx
  have HQ := Lib.hid h.2
  clear hx h
  by_cases h20 : qs.length ≤ 20
  case neg =>
    have z1 : 20 < (qs.length : Int) := by omega
    go_enter Tryz.func17, Tryz.ntmps17
    go_wp2_with fail
    go_ret
    exact ⟨false, rfl, by simp, Gr.refl _⟩
  case pos =>
    have z1 : (qs.length : Int) ≤ 20 := by omega
    go_enter Tryz.func17, Tryz.ntmps17
    go_wp2_with fail
    go_loopg [3] qs.length (fun gk vi wr => ∃ i : Nat, vi = .int .i64 (i : Int) ∧ i ≤ qs.length ∧ qs.length - i ≤ gk ∧ Hid (Gr w wr) ∧ Hid (∀ j (hj : j < qs.length), j < i → SmE9 qs[j].e))
    case atStart => exact ⟨0, rfl, Nat.zero_le _, Nat.le_refl _, Lib.hid (Gr.refl _), Lib.hid fun j hj h => absurd h (Nat.not_lt_zero _)⟩
    case round =>
      obtain ⟨i, rfl, hi, hg, G, K⟩ := hrel
      by_cases hlt : i < qs.length
      · have zl : (i : Int) < (qs.length : Int) := by omega
        obtain ⟨b, o, rfl, hcs⟩ := HX.out i hlt
        have hq := HQ.out qs[i] (List.getElem_mem hlt)
        obtain ⟨q, hqq⟩ : ∃ q, q = qs[i] := ⟨_, rfl⟩
        rw [← hqq] at hcs hq
        obtain ⟨e0, e1, e2, e3, e4, e5, e6, e7, e8, e9, e10⟩ := ee119 (G.out.low.cells hcs)
        have hr : Rep (fun _ => True) wr q.e.a (.slice q.ai q.e.a.l.length q.ci) (.slice q.an q.e.a.ns.length q.cn) := hq.2.low G.out.low
        have HR := Lib.hid hr
        have HC := Lib.hid (slight_c (dep q.e.a) q.e.a _ 0 wr _ _ (Nat.le_refl _) hr (by decide) (by decide))
        have QQ := Lib.hid hqq
        have HCS := Lib.hid hcs
        clear hr hq hqq hcs
        unfold avv at HC
        go_wp2_with fail
        refine HC.out.mono ?_
        rintro e w1 ⟨bb, rfl, hb, g⟩
        cases bb with
        | false =>
          clear hb
          have G1 := Lib.hid (G.out.trans g)
          clear g e0 e1 e2 e3 e4 e5 e6 e7 e8 e9 e10
          go_wp2_with fail
          go_ret
          exact ⟨false, rfl, by simp, G1.out⟩
        | true =>
          have HB := Lib.hid (hb rfl)
          have G1 := Lib.hid (G.out.trans g)
          clear hb g e0 e1 e2 e3 e4 e5 e6 e7 e8 e9 e10 HC
          obtain ⟨e0, e1, e2, e3, e4, e5, e6, e7, e8, e9, e10⟩ := ee119 (G1.out.low.cells HCS.out)
          by_cases hp : q.e.ps.length ≤ 20
          · have zp : (q.e.ps.length : Int) ≤ 20 := by omega
            go_wp2_with fail
            go_roundg (qs.length - (i + 1))
            case measure => omega
            case rel =>
              refine ⟨i + 1, by go_num, by omega, by omega, G1, Lib.hid fun j hj hji => ?_⟩
              rcases Nat.lt_succ_iff_lt_or_eq.1 hji with h | rfl
              · exact K.out j hj h
              · rw [← QQ.out]
                exact ⟨HB.out.1, by have := HB.out.2; omega, hp⟩
          · have zp : 20 < (q.e.ps.length : Int) := by omega
            go_wp2_with fail
            go_ret
            exact ⟨false, rfl, by simp, G1.out⟩
      · have zl : ¬ (i : Int) < (qs.length : Int) := by omega
        go_wp2_with fail
        go_ret
        refine ⟨true, rfl, fun _ => ⟨h20, fun q hq => ?_⟩, G.out⟩
        obtain ⟨j, hj, rfl⟩ := List.getElem_of_mem hq
        exact K.out j hj (by omega)
end Go.Proofs.YtnenjgngahipdaaGreat
namespace Go.Proofs.YtnenjgngahipdaaGreat
open Go.RowKit Go.Sort
set_option maxHeartbeats 1600000 in
theorem rGet_c (v : V) (x : ByteArray) (w : World) (it nm : Value) (hr : R w v it nm) : Calls Tryz.prog 35 #[avv v.h it nm, .string x] w fun e w' => e = .returned (.int .i64 (getI v x)) ∧ Gr w w' := by
  obtain ⟨ai, ci, an, cn, rfl, rfl⟩ := r_slices hr
  have NA := Lib.hid (show Na w v.ns (.slice an v.ns.length cn) from (rep_v.1 hr).2.1)
  have en : v.ns.length ≤ 9223372036854775807 := by obtain ⟨_, _, h, h1, _⟩ := (rep_v.1 hr).2.1; exact h1
  clear hr
  obtain ⟨r, hr⟩ : ∃ r, r = getI v x := ⟨_, rfl⟩
  rw [← hr]
  have HR := Lib.hid hr
  clear hr
  by_cases hk : v.h.k = 6
  · have HQ : Hid (r = if Lib.idxOfS v.ns x < 0 ∨ (v.l.length : Int) ≤ Lib.idxOfS v.ns x then -1 else Lib.idxOfS v.ns x) := by show _ = _; rw [HR.out]; unfold getI; rw [if_pos hk]
    unfold avv
    rw [hk]
    clear hk
    go_enter Tryz.func35, Tryz.ntmps35
    go_wp2_with fail
    go_loopg [5] v.ns.length (fun gk vi wr => ∃ i : Nat, vi = .int .i64 (i : Int) ∧ i ≤ v.ns.length ∧ v.ns.length - i ≤ gk ∧ Hid (Gr (w.alloc (.cells #[.int .i64 6, .bool v.h.b, .int .i64 v.h.n, .string v.h.s, .string v.h.t, .string v.h.i, .slice ai v.l.length ci, .slice an v.ns.length cn] 27)) wr) ∧ Hid (∀ j (hj : j < v.ns.length), j < i → v.ns[j] ≠ x))
    case atStart => exact ⟨0, rfl, Nat.zero_le _, Nat.le_refl _, Lib.hid (Gr.refl _), Lib.hid fun j hj h => absurd h (Nat.not_lt_zero _)⟩
    case round =>
      obtain ⟨i, rfl, hi, hg, G, Q⟩ := hrel
      obtain ⟨-, -, -, -, -, -, f6, f7⟩ := gr_box G.out
      have G0 := Lib.hid ((Gr.alloc (Gr.refl w) _).trans G.out)
      by_cases hlt : i < v.ns.length
      · have z1 : (i : Int) < (v.ns.length : Int) := by omega
        obtain ⟨b, o, rfl, hc, -⟩ := na_at (NA.out.low G0.out.low) hlt
        by_cases he : v.ns[i] = x
        · have hx := idx_hit hlt he Q.out
          by_cases hl : v.l.length ≤ i
          · have z2 : (v.l.length : Int) ≤ (i : Int) := by omega
            have HF := Lib.hid (show r = -1 by rw [HQ.out, hx, if_pos (.inr z2)])
            rw [he] at hc
            clear he hx
            go_wp2_with fail
            go_ret
            exact ⟨retIv HF.out, G0.out⟩
          · have z2 : ¬ (v.l.length : Int) ≤ (i : Int) := by omega
            have HF := Lib.hid (show r = i by rw [HQ.out, hx, if_neg (by omega)])
            rw [he] at hc
            clear he hx
            go_wp2_with fail
            go_ret
            exact ⟨retIv HF.out, G0.out⟩
        · have he2 : ¬ v.ns[i].toList = x.toList := fun h => he (tl_injv.1 h)
          have HE := Lib.hid he
          clear he
          go_wp2_with fail
          all_goals first
            | (go_roundg (v.ns.length - (i + 1))
               case measure => omega
               case rel =>
                 refine ⟨i + 1, by go_num, by omega, by omega, G, Lib.hid fun j hj h => ?_⟩
                 rcases Nat.lt_succ_iff_lt_or_eq.1 h with h | rfl
                 · exact Q.out j hj h
                 · exact HE.out)
            | (exfalso; simp_all; done)
      · have z1 : ¬ (i : Int) < (v.ns.length : Int) := by omega
        have hx := idx_miss (x := x) fun j hj => Q.out j hj (by omega)
        have HF := Lib.hid (show r = -1 by rw [HQ.out, hx, if_pos (.inl (by omega))])
        clear hx
        go_wp2_with fail
        go_ret
        exact ⟨retIv HF.out, G0.out⟩
  · have HF := Lib.hid (show r = -1 by rw [HR.out]; unfold getI; rw [if_neg hk])
    unfold avv
    go_enter Tryz.func35, Tryz.ntmps35
    go_wp2_with fail
    go_ret
    exact ⟨retIv HF.out, Gr.alloc (Gr.refl w) _⟩
end Go.Proofs.YtnenjgngahipdaaGreat
