/- slight, mass and crowd of layer 13: a yes says that all rows are short and the depth is small. No condition. The parents of an entity, read out of its cells. No condition. family.Store.climb: all names above an entity are laid down. Condition: the store is of a list as it must be, of no more than 300 entities. What an expression comes to, by definition, of any request and entities; it hangs on no bound above its depth. No condition. How expressions lie in memory: a tree of rows of twelve cells. No condition. Names compared, as one operation. No condition. family.Store.In: whether one is, or is below, another one. Condition: the store is of a list as it must be. Memory in which a store's map may have turned, or nothing that was there; what lies in cells is read as it was. No condition. What an expression comes to is as a value must be, where the entities' attributes are; being the same is being equal. Condition: attributes are as they must be. All numbers of a value are in their range. No condition. What an expression comes to is a value of short rows, of numbers in their range, not deep. Condition: so are the literals, the context and the entities' attributes. Small ones of package eval and of its reference: a truth, a name, a number as a value. No condition. -/
import Derived.Test.YtnchohglplobeaaGreatZg11
set_option linter.unusedVariables false
set_option linter.unusedSimpArgs false
set_option linter.unnecessarySimpa false
namespace Go.Proofs.YtnchohglplobeaaGreat
open Go.RowKit Go.Sort
set_option maxHeartbeats 800000 in
theorem mass_c (n : Nat) : ∀ (v : V) (A : Nat → Prop) (w : World) (it nm : Value), dep v ≤ n → Rep A w v it nm →
  Calls Tryz.prog 39 #[avv v.h it nm] w (SizePv w) := by
 induction n with
 | zero => intro v A w it nm h; rw [dep_v] at h; omega
 | succ n ih =>
  intro v A w it nm hd hr
  obtain ⟨-, ⟨an, cn, rfl, hln, -, -⟩, ai, ci, rfl, ⟨hli, hci⟩, hx⟩ := rep_v.1 hr
  unfold avv
  have H1 := Lib.hid hd
  have H3 := Lib.hid hx
  have H4 := Lib.hid ih
  clear hd hr hx ih
  go_enter Tryz.func39, Tryz.ntmps39
  go_wp2_with fail
  go_loopg [3, 4] v.l.length (fun gk vn vi wr => ∃ (i : Nat) (m : Int), vn = .int .i64 m ∧ vi = .int .i64 (i : Int) ∧ i ≤ v.l.length ∧ v.l.length - i ≤ gk ∧ Hid (Gr (w.alloc (.cells #[.int .i64 v.h.k, .bool v.h.b, .int .i64 v.h.n, .string v.h.s, .string v.h.t, .string v.h.i, .slice ai v.l.length ci, .slice an v.ns.length cn] 27)) wr))
  case atStart => exact ⟨0, 1, rfl, rfl, Nat.zero_le _, Nat.le_refl _, Lib.hid (Gr.refl _)⟩
  case round =>
   obtain ⟨i, m, rfl, rfl, hi, hg, G⟩ := hrel
   have f6 : wr.cell? ⟨w.heap.size, 6, none⟩ = some (.slice ai v.l.length ci) := gr_cells G.out (by simp)
   by_cases hlt : i < v.l.length
   ·have zl : (i : Int) < (v.l.length : Int) := by omega
    by_cases hm : m < 1000
    ·rcases H3.out with h0 | ⟨b, o, rfl, ha, hf⟩
     ·rw [h0] at hlt; exact absurd hlt (Nat.not_lt_zero _)
     have hcl := (Gr.alloc (Gr.refl w) _).trans G.out
     have hlw : Low w wr := hcl.low
     obtain ⟨it, nm, hcs, hrx⟩ := repF_at hf i hlt
     obtain ⟨e0, e1, e2, e3, e4, e5, e6, e7⟩ := cells8 (hlw.cells hcs)
     have hcon := H4.out v.l[i] A wr it nm (by have := dep_item hlt; have := H1.out; omega) (hrx.low hlw)
     have HC := Lib.hid hcon
     have HF := Lib.hid hf
     have HR := Lib.hid hrx
     have HW := Lib.hid hcl
     clear hcon hcs hlw hf hrx hcl
     go_wp2_with fail
     refine HC.out.mono ?_
     rintro e w' ⟨m', rfl, g⟩
     go_wp2_with fail
     go_roundg (v.l.length - (i + 1))
     case measure => omega
     case rel => exact ⟨i + 1, _, rfl, by go_num, by omega, by omega, Lib.hid (G.out.trans g)⟩
    ·go_wp2_with fail
     go_ret
     exact ⟨m, rfl, (Gr.alloc (Gr.refl w) _).trans G.out⟩
   ·have zl : ¬ (i : Int) < (v.l.length : Int) := by omega
    go_wp2_with fail
    go_ret
    exact ⟨m, rfl, (Gr.alloc (Gr.refl w) _).trans G.out⟩
set_option maxHeartbeats 800000 in
theorem slight_c (n : Nat) : ∀ (v : V) (A : Nat → Prop) (d : Int) (w : World) (it nm : Value), dep v ≤ n → Rep A w v it nm → 0 ≤ d → d ≤ 1000 →
  Calls Tryz.prog 25 #[avv v.h it nm, .int .i64 d] w (FewPv v d w) := by
 induction n with
 | zero => intro v A d w it nm h; rw [dep_v] at h; omega
 | succ n ih =>
  intro v A d w it nm hd hr h0 h1
  obtain ⟨-, ⟨an, cn, rfl, hln, -, -⟩, ai, ci, rfl, ⟨hli, hci⟩, hx⟩ := rep_v.1 hr
  unfold avv
  by_cases hc : v.l.length ≤ 20 ∧ v.ns.length ≤ 20 ∧ d ≤ 55
  ·obtain ⟨c1, c2, c3⟩ := hc
   have z1 : (v.l.length : Int) ≤ 20 := by omega
   have z2 : (v.ns.length : Int) ≤ 20 := by omega
   have H1 := Lib.hid hd
   have H2 := Lib.hid hr
   have H3 := Lib.hid hx
   have H4 := Lib.hid ih
   clear hd hr hx ih
   go_enter Tryz.func25, Tryz.ntmps25
   go_wp2_with fail
   go_loopg [5, 6] v.l.length (fun gk vm vi wr => ∃ (i : Nat) (m : Int), vm = .int .i64 m ∧ vi = .int .i64 (i : Int) ∧ i ≤ v.l.length ∧ v.l.length - i ≤ gk ∧ Hid (Gr (w.alloc (.cells #[.int .i64 v.h.k, .bool v.h.b, .int .i64 v.h.n, .string v.h.s, .string v.h.t, .string v.h.i, .slice ai v.l.length ci, .slice an v.ns.length cn] 27)) wr) ∧ Hid (∀ j (hj : j < v.l.length), j < i → Smv v.l[j] ∧ (dep v.l[j] : Int) + (d + 1) ≤ 61))
   case atStart => exact ⟨0, 0, rfl, rfl, Nat.zero_le _, Nat.le_refl _, Lib.hid (Gr.refl _), Lib.hid fun j hj h => absurd h (Nat.not_lt_zero _)⟩
   case round =>
    obtain ⟨i, m, rfl, rfl, hi, hg, G, K⟩ := hrel
    have f6 : wr.cell? ⟨w.heap.size, 6, none⟩ = some (.slice ai v.l.length ci) := gr_cells G.out (by simp)
    by_cases hlt : i < v.l.length
    ·have zl : (i : Int) < (v.l.length : Int) := by omega
     rcases H3.out with h0 | ⟨b, o, rfl, ha, hf⟩
     ·rw [h0] at hlt; exact absurd hlt (Nat.not_lt_zero _)
     have hlw : Low w wr := (Gr.alloc (Gr.refl w) _).low.trans G.out.low
     obtain ⟨it, nm, hcs, hrx⟩ := repF_at hf i hlt
     have hcl := (Gr.alloc (Gr.refl w) _).trans G.out
     obtain ⟨e0, e1, e2, e3, e4, e5, e6, e7⟩ := cells8 (hlw.cells hcs)
     have hcon := H4.out v.l[i] A (d + 1) wr it nm (by have := dep_item hlt; have := H1.out; omega) (hrx.low hlw) (by omega) (by omega)
     have HC := Lib.hid hcon
     have HF := Lib.hid hf
     have HR := Lib.hid (hrx.low hlw)
     clear hcon hcs hlw hf hrx
     go_wp2_with fail
     refine HC.out.mono ?_
     rintro e w' ⟨bb, rfl, hb, g⟩
     cases bb with
     | false =>
      go_wp2_with fail
      go_ret
      exact ⟨false, rfl, by simp, hcl.trans g⟩
     | true =>
      have HB := Lib.hid (hb rfl)
      have hmm := mass_c (dep v.l[i]) v.l[i] A w' _ _ (Nat.le_refl _) (HR.out.low g.low)
      unfold avv at hmm
      have HMM := Lib.hid hmm
      have f6 := g.cell f6
      have e0 := g.cell e0
      have e1 := g.cell e1
      have e2 := g.cell e2
      have e3 := g.cell e3
      have e4 := g.cell e4
      have e5 := g.cell e5
      have e6 := g.cell e6
      have e7 := g.cell e7
      have HG1 := Lib.hid (G.out.trans g)
      clear hb g hmm
      go_wp2_with fail
      refine HMM.out.mono ?_
      rintro e w2 ⟨m2, rfl, g2⟩
      have HG2 := Lib.hid (HG1.out.trans g2)
      clear g2 HMM e0 e1 e2 e3 e4 e5 e6 e7 f6
      go_wp2_with fail
      go_roundg (v.l.length - (i + 1))
      case measure => omega
      case rel =>
       refine ⟨i + 1, _, rfl, by go_num, by omega, by omega, HG2, Lib.hid fun j hj hji => ?_⟩
       rcases Nat.lt_succ_iff_lt_or_eq.1 hji with h | rfl
       ·exact K.out j hj h
       ·exact HB.out
    ·have zl : ¬ (i : Int) < (v.l.length : Int) := by omega
     go_wp2_with fail
     go_ret
     refine ⟨_, rfl, fun _ => ?_, (Gr.alloc (Gr.refl w) _).trans G.out⟩
     have hall : ∀ x ∈ v.l, Smv x ∧ (dep x : Int) + (d + 1) ≤ 61 := fun x hx => by
      obtain ⟨j, hj, rfl⟩ := List.getElem_of_mem hx
      exact K.out j hj (by omega)
     refine ⟨(sm_v v).2 ⟨by omega, by omega, fun x hx => (hall x hx).1⟩, ?_⟩
     have : depL v.l ≤ (60 - d).toNat := depL_le fun x hx => by have := (hall x hx).2; omega
     rw [dep_v]; omega
  ·have H1 := Lib.hid hd
   have H2 := Lib.hid hr
   have H3 := Lib.hid hx
   have H4 := Lib.hid ih
   have H5 := Lib.hid hc
   clear hd hr hx ih hc
   by_cases e1 : v.l.length ≤ 20
   ·have z1 : (v.l.length : Int) ≤ 20 := by omega
    by_cases e2 : v.ns.length ≤ 20
    ·have z2 : (v.ns.length : Int) ≤ 20 := by omega
     have z3 : 55 < d := by have := H5.out; omega
     go_enter Tryz.func25, Tryz.ntmps25
     go_wp2_with fail
     go_ret
     exact ⟨false, rfl, by simp, Gr.alloc (Gr.refl w) _⟩
    ·have z2 : 20 < (v.ns.length : Int) := by omega
     go_enter Tryz.func25, Tryz.ntmps25
     go_wp2_with fail
     go_ret
     exact ⟨false, rfl, by simp, Gr.alloc (Gr.refl w) _⟩
   ·have z1 : 20 < (v.l.length : Int) := by omega
    go_enter Tryz.func25, Tryz.ntmps25
    go_wp2_with fail
    go_ret
    exact ⟨false, rfl, by simp, Gr.alloc (Gr.refl w) _⟩
theorem ee119 {w : World} {b o : Nat} {q : Ee} (h : CellsAtv w b o q.sh.cs) :
  w.cell? ⟨b, o, none⟩ = some (.string q.e.u.t) ∧ w.cell? ⟨b, o + 1, none⟩ = some (.string q.e.u.i) ∧ w.cell? ⟨b, o + 2, none⟩ = some (.slice q.ap q.e.ps.length q.cp) ∧ w.cell? ⟨b, o + 3, none⟩ = some (.int .i64 q.e.a.h.k) ∧
  w.cell? ⟨b, o + 4, none⟩ = some (.bool q.e.a.h.b) ∧ w.cell? ⟨b, o + 5, none⟩ = some (.int .i64 q.e.a.h.n) ∧ w.cell? ⟨b, o + 6, none⟩ = some (.string q.e.a.h.s) ∧ w.cell? ⟨b, o + 7, none⟩ = some (.string q.e.a.h.t) ∧
  w.cell? ⟨b, o + 8, none⟩ = some (.string q.e.a.h.i) ∧ w.cell? ⟨b, o + 9, none⟩ = some (.slice q.ai q.e.a.l.length q.ci) ∧ w.cell? ⟨b, o + 10, none⟩ = some (.slice q.an q.e.a.ns.length q.cn) := cells11 h
def SmE9 (e : En) : Prop := Smv e.a ∧ dep e.a ≤ 61 ∧ e.ps.length ≤ 20
def CrowdP (qs : List Ee) (w : World) (e : Ending) (w' : World) : Prop := ∃ b : Bool, e = .returned (.bool b) ∧ (b = true → qs.length ≤ 20 ∧ ∀ q ∈ qs, SmE9 q.e) ∧ Gr w w'
set_option maxHeartbeats 1600000 in
theorem crowd_c (qs : List Ee) (w : World) (r : Value) (h : EtAt w r qs) : Calls Tryz.prog 18 #[r] w (CrowdP qs w) := by
 obtain ⟨ao, c, rfl, ⟨hlc, hc9⟩, hx⟩ := h.at
 have HX := Lib.hid hx
 have HQ := Lib.hid h.2
 clear hx h
 by_cases h20 : qs.length ≤ 20
 case neg =>
  have z1 : 20 < (qs.length : Int) := by omega
  go_enter Tryz.func18, Tryz.ntmps18
  go_wp2_with fail
  go_ret
  exact ⟨false, rfl, by simp, Gr.refl _⟩
 case pos =>
  have z1 : (qs.length : Int) ≤ 20 := by omega
  go_enter Tryz.func18, Tryz.ntmps18
  go_wp2_with fail
  go_loopg [3] qs.length (fun gk vi wr => ∃ i : Nat, vi = .int .i64 (i : Int) ∧ i ≤ qs.length ∧ qs.length - i ≤ gk ∧ Hid (Gr w wr) ∧ Hid (∀ j (hj : j < qs.length), j < i → SmE9 qs[j].e))
  case atStart => exact ⟨0, rfl, Nat.zero_le _, Nat.le_refl _, Lib.hid (Gr.refl _), Lib.hid fun j hj h => absurd h (Nat.not_lt_zero _)⟩
  case round =>
   obtain ⟨i, rfl, hi, hg, G, K⟩ := hrel
   by_cases hlt : i < qs.length
   ·have zl : (i : Int) < (qs.length : Int) := by omega
    obtain ⟨b, o, rfl, hcs⟩ := HX.out i hlt
    have hq := HQ.out qs[i] (List.getElem_mem hlt)
    obtain ⟨q, hqq⟩ : ∃ q, q = qs[i] := ⟨_, rfl⟩
    rw [← hqq] at hcs hq
    obtain ⟨e0, e1, e2, e3, e4, e5, e6, e7, e8, e9, e10⟩ := ee119 (G.out.low.cells hcs)
    have hr : Rep (fun _ => True) wr q.e.a (.slice q.ai q.e.a.l.length q.ci) (.slice q.an q.e.a.ns.length q.cn) := hq.2.low G.out.low
    have HR := Lib.hid hr
    have HC := Lib.hid (slight_c (dep q.e.a) q.e.a _ 0 wr _ _ (Nat.le_refl _) hr (by decide) (by decide))
    have QQ := Lib.hid hqq
    have HCS := Lib.hid hcs
    clear hr hq hqq hcs
    unfold avv at HC
    go_wp2_with fail
    refine HC.out.mono ?_
    rintro e w1 ⟨bb, rfl, hb, g⟩
    cases bb with
    | false =>
     clear hb
     have G1 := Lib.hid (G.out.trans g)
     clear g e0 e1 e2 e3 e4 e5 e6 e7 e8 e9 e10
     go_wp2_with fail
     go_ret
     exact ⟨false, rfl, by simp, G1.out⟩
    | true =>
     have HB := Lib.hid (hb rfl)
     have G1 := Lib.hid (G.out.trans g)
     clear hb g e0 e1 e2 e3 e4 e5 e6 e7 e8 e9 e10 HC
     obtain ⟨e0, e1, e2, e3, e4, e5, e6, e7, e8, e9, e10⟩ := ee119 (G1.out.low.cells HCS.out)
     by_cases hp : q.e.ps.length ≤ 20
     ·have zp : (q.e.ps.length : Int) ≤ 20 := by omega
      go_wp2_with fail
      go_roundg (qs.length - (i + 1))
      case measure => omega
      case rel =>
       refine ⟨i + 1, by go_num, by omega, by omega, G1, Lib.hid fun j hj hji => ?_⟩
       rcases Nat.lt_succ_iff_lt_or_eq.1 hji with h | rfl
       ·exact K.out j hj h
       ·rw [← QQ.out]
        exact ⟨HB.out.1, by have := HB.out.2; omega, hp⟩
     ·have zp : 20 < (q.e.ps.length : Int) := by omega
      go_wp2_with fail
      go_ret
      exact ⟨false, rfl, by simp, G1.out⟩
   ·have zl : ¬ (i : Int) < (qs.length : Int) := by omega
    go_wp2_with fail
    go_ret
    refine ⟨true, rfl, fun _ => ⟨h20, fun q hq => ?_⟩, G.out⟩
    obtain ⟨j, hj, rfl⟩ := List.getElem_of_mem hq
    exact K.out j hj (by omega)
end Go.Proofs.YtnchohglplobeaaGreat
namespace Go.Proofs.YtnchohglplobeaaGreat
open Go.RowKit Go.Sort Go.Maps
theorem field_ps (q : Ee) (w : World) : (Instr.field 72 (.agg #[.string q.e.u.t, .string q.e.u.i, .slice q.ap q.e.ps.length q.cp, .int .i64 q.e.a.h.k, .bool q.e.a.h.b, .int .i64 q.e.a.h.n, .string q.e.a.h.s, .string q.e.a.h.t, .string q.e.a.h.i, .slice q.ai q.e.a.l.length q.ci, .slice q.an q.e.a.ns.length q.cn]) 1).run Tryz.prog w = .ok (.slice q.ap q.e.ps.length q.cp) w := by
 first | kernel_rfl | (go_simp; done) | (simp [go_sem]; done) | rfl
end Go.Proofs.YtnchohglplobeaaGreat
namespace Go.Proofs.YtnchohglplobeaaGreat
open Go.RowKit Go.Sort Go.Maps
def StoU (w : World) (z : St) (qs : List Ee) (u : Us) : Prop := ∃ ks, AbvFor (ensOf qs) ks u ∧ StAt w z qs ks
def ClimbP (z : St) (qs : List Ee) (u : Us) (w : World) (e : Ending) (w' : World) : Prop := e = .returned (.tuple #[]) ∧ StoU w' z qs u ∧ Lw z.ma w w'
theorem OwnR.lw {α : Type} {e : TypeId} {k : Nat} {enc : α → List Value} {B m : Nat} {w w' : World} {v : Value} {l : List α} (h : OwnR e k enc B w v l) (L : Lw m w w') (hm : m < B) : OwnR e k enc B w' v l :=
 h.to fun g hg => L.block g (World.ownsRow.lt h g hg).2 (by have := (World.ownsRow.lt h g hg).1; omega)
theorem BoxAtv.lw {m n : Nat} {w w' : World} {cs : List Value} (h : BoxAtv w n cs) (L : Lw m w w') (hn : n ≠ m) : BoxAtv w' n cs where
 cells := fun j v hj => by
  have := h.cells j v hj
  rw [World.cell?_of_block (w := w) (w' := w') (a := ⟨n, 0 + j, none⟩) (L.block n h.lt hn)]
  exact this
 open' := fun o => by
  rw [World.frozen?_of_block (w := w) (w' := w') (a := ⟨n, o, none⟩) (L.block n h.lt hn)]
  exact h.open' o
 lt := Nat.lt_of_lt_of_le h.lt L.size
theorem ownU_box {B : Nat} {w W : World} (u : Us) (hW : W = w.alloc (.cells #[.string u.t, .string u.i] 23)) (hB : B ≤ w.heap.size) : OwnU B W (.slice (some ⟨w.heap.size, 0, none⟩) 1 1) [u] := by
 subst hW
 refine ⟨by simp [Us.cs], .inr ⟨w.heap.size, 1, #[.string u.t, .string u.i], rfl, hB, ?_, Nat.le_refl _, by decide, rfl, rfl⟩⟩
 show (w.heap.push _)[w.heap.size]? = _
 simp
theorem gr_keep {w : World} {a : Addr} {v : Value} (h : w.cell? a = some v) (n : Nat) (os : Array Obj) : (Sort.grow (w.drewN n) os).cell? a = some v := (Gr.grow (Gr.refl w) n os).cell h
set_option maxRecDepth 100000 in
set_option maxHeartbeats 6400000 in
theorem climb_c (w : World) (z : St) (qs : List Ee) (u : Us) (hS : Sto w z qs) (hg : GoodC (ensOf qs)) : Calls Tryz.prog 76 #[.pointer (some ⟨z.p, 0, none⟩), .agg #[.string u.t, .string u.i]] w (ClimbP z qs u w) := by
 obtain ⟨ks, hab, hst⟩ := hS
 obtain ⟨U0, hU0⟩ : ∃ W, W = w.alloc (.cells #[.string u.t, .string u.i] 23) := ⟨_, rfl⟩
 have HU0 := Lib.hid hU0
 have L0 := Lib.hid (show Low w U0 by rw [hU0]; exact Low.alloc (Low.refl w) _)
 have B0 := Lib.hid (show BoxAtv U0 w.heap.size [.string u.t, .string u.i] from BoxAtv.made hU0 rfl rfl)
 have HSZ := Lib.hid (show U0.heap.size = w.heap.size + 1 by rw [hU0]; simp)
 have S0 := Lib.hid (hst.low L0.out)
 have S1 := Lib.hid (show StAt U0.drew z qs ks from (hst.low L0.out).low (Gr.refl U0).drew.low)
 have HMA := Lib.hid (show z.ma < w.heap.size from hst.isMap.lt)
 have HMM := Lib.hid hst.isMap
 have HAB := Lib.hid hab
 have HST := Lib.hid hst
 have HG := Lib.hid hg
 clear hU0 hst hab hg
 have mixed : Tryz.prog.follows .mixedOrders = true := by kernel_rfl
 go_enter Tryz.func76, Tryz.ntmps76
 go_upto_region 1 with fail
 rw [← HU0.out]
 clear HU0
 obtain ⟨x, hx⟩ : ∃ x, (fstQ qs u).getD eeNo = x := ⟨_, rfl⟩
 have hlk := look_en S1.out u
 rw [hx] at hlk
 have HPS := Lib.hid (show x.e.ps = PE (ensOf qs) u by rw [← hx]; exact fstQ_ps qs u)
 have HOK := Lib.hid (show UsAt U0 (.slice x.ap x.e.ps.length x.cp) x.e.ps by rw [← hx]; exact (fstQ_ok S0.out.ok u).1.any)
 have c1 := S0.out.c1
 obtain ⟨b0, b1⟩ := B0.out.at2
 unfold Ee.val at hlk
 have hfl := fun W => field_ps x W
 clear hx
 go_region
 obtain ⟨U1, hU1⟩ : ∃ W, W = U0.drew := ⟨_, rfl⟩
 have HU1 := Lib.hid hU1
 have L01 := Lib.hid (show Low U0 U1 by rw [hU1]; exact Low.drewN _ 1)
 have G01 := Lib.hid (show Gr U0 U1 by rw [hU1]; exact (Gr.refl U0).drew)
 have S2 := Lib.hid (S0.out.low L01.out)
 have B1 := Lib.hid (B0.out.low L01.out)
 rw [← hU1]
 clear hU1 hlk c1 b0 b1 hfl
 obtain ⟨ps, hps⟩ : ∃ ps, ps = x.e.ps := ⟨_, rfl⟩
 rw [← hps] at HPS HOK ⊢
 clear hps
 obtain ⟨ap, hap⟩ : ∃ a, a = x.ap := ⟨_, rfl⟩
 obtain ⟨cp, hcp⟩ : ∃ a, a = x.cp := ⟨_, rfl⟩
 rw [← hap, ← hcp] at HOK ⊢
 clear hap hcp
 cases ps with
 | nil =>
  have HPE := Lib.hid (show PE (ensOf qs) u = [] from HPS.out.symm)
  simp only [List.length_nil]
  go_wp2_with fail
  go_quiet (fail)
  have LQ := Lib.hid ((L0.out.trans L01.out).trans (Low.drewN U1 nq))
  have SQ := Lib.hid (S2.out.low (Low.drewN U1 nq))
  obtain ⟨V1, hV1⟩ : ∃ W, W = U1.drewN nq := ⟨_, rfl⟩
  rw [← hV1] at LQ SQ ⊢
  clear hV1
  go_wp2_with fail
  refine bodyPost_ret (v := .tuple #[]) (by simp [results, Tryz.results76]) rfl ?_
  exact ⟨rfl, ⟨ks, HAB.out.none HPE.out, SQ.out⟩, Lw.of_low LQ.out HMM.out⟩
 | cons p0 pr =>
  obtain ⟨ap', cp', hpv, ⟨hp1, hp2⟩, hp3⟩ := HOK.out
  simp only [Value.slice.injEq, true_and] at hpv
  obtain ⟨rfl, rfl⟩ := hpv
  obtain ⟨pb, po, rfl, hpc⟩ := hp3 0 (by simp)
  have e0 := hpc 0 _ rfl
  have e1 := hpc 1 _ rfl
  simp only [Nat.zero_mul, Nat.add_zero, List.getElem_cons_zero] at e0 e1
  have e0 := gr_keep (L01.out.keep e0)
  have e1 := gr_keep (L01.out.keep e1)
  obtain ⟨b0, b1⟩ := B1.out.at2
  have b0 := gr_keep b0
  have b1 := gr_keep b1
  obtain ⟨t, ht⟩ : ∃ t, t = decide ((u, p0) ∈ ks) := ⟨_, rfl⟩
  have HC := Lib.hid (show ∀ n os, Calls Tryz.prog 77 #[.pointer (some ⟨z.p, 0, none⟩), .agg #[.string u.t, .string u.i], .agg #[.string p0.t, .string p0.i]] (Sort.grow (U1.drewN n) os) fun e w'' => e = .returned (.bool t) ∧ ∃ p : GrownBy, w'' = Sort.grow (U1.drewN p.n) p.os from fun n os => by
   rw [ht]
   exact Calls.grown_of (leads_ch _ z qs ks (S2.out.low (Gr.grow (Gr.refl U1) n os).low) u p0))
  have HT := Lib.hid ht
  have HP0 := Lib.hid (show p0 ∈ PE (ensOf qs) u by rw [← HPS.out]; simp)
  have HP3 := Lib.hid hp3
  clear ht hpc hp3
  obtain ⟨N, hN⟩ : ∃ N, N = (p0 :: pr).length := ⟨_, rfl⟩
  have zN : ¬ ((N : Int) = 0) := by rw [hN]; simp; omega
  have zN1 : (0 : Int) < (N : Int) := by omega
  have zNb : ((N : Int) == 0) = false := by simpa using zN
  have zN2 : 0 < N := by omega
  rw [← hN]
  have HNP := Lib.hid hN
  rw [← hN] at hp1
  clear hN
  go_wp2_with fail
  go_quiet_grown (first | (with_reducible exact HC.out _ _))
  have G1 := Lib.hid (show Gr U1 (Sort.grow (U1.drewN nq) osq) from Gr.grow (Gr.refl U1) nq osq)
  obtain ⟨V1, hV1⟩ : ∃ W, W = Sort.grow (U1.drewN nq) osq := ⟨_, rfl⟩
  rw [← hV1] at G1 ⊢
  have S3 := Lib.hid (S2.out.low G1.out.low)
  have B2 := Lib.hid (B1.out.low G1.out.low)
  have L3 := Lib.hid ((L0.out.trans L01.out).trans G1.out.low)
  clear hV1 e0 e1 b0 b1 HC
  cases t with
  | true =>
   have HM := Lib.hid (show (u, p0) ∈ ks from by have := HT.out; simpa using this.symm)
   clear zN zN1 zN2 zNb
   go_wp2_with fail
   refine bodyPost_ret (v := .tuple #[]) (by simp [results, Tryz.results76]) rfl ?_
   exact ⟨rfl, ⟨ks, HAB.out.again HM.out, S3.out⟩, Lw.of_low L3.out HMM.out⟩
  | false =>
   have HNO := Lib.hid (show ∀ b, (u, b) ∉ ks from HAB.out.fresh HG.out.closed HP0.out (by have := HT.out; simpa using this.symm))
   clear zN zN1 zN2 zNb
   obtain ⟨V2, hV2⟩ : ∃ W, W = V1.alloc (.cells #[.string u.t, .string u.i] 23) := ⟨_, rfl⟩
   have HV2 := Lib.hid hV2
   have L23 := Lib.hid (show Low V1 V2 by rw [hV2]; exact Low.alloc (Low.refl V1) _)
   obtain ⟨B, hB⟩ : ∃ B, B = w.heap.size + 1 := ⟨_, rfl⟩
   have HB := Lib.hid hB
   have OW := Lib.hid (show OwnU B V2 (.slice (some ⟨V1.heap.size, 0, none⟩) 1 1) [u] from ownU_box u hV2 (by have := B2.out.lt; omega))
   have B3 := Lib.hid (B2.out.low L23.out)
   have S4 := Lib.hid (S3.out.low L23.out)
   have L4 := Lib.hid (show Lw z.ma w V2 from Lw.of_low (L3.out.trans L23.out) HMM.out)
   have HBS := Lib.hid (show B ≤ V2.heap.size by have := B3.out.lt; omega)
   have HKS := Lib.hid HAB.out.1
   obtain ⟨b0, b1⟩ := B2.out.at2
   clear hV2 hB
   go_upto_region 4 with fail
   rw [← HV2.out]
   clear HV2 b0 b1 B2 S3 L3 G1 B1 S2 B0 S0 S1
   obtain ⟨N, hN⟩ : ∃ N, N = (ensOf qs).length := ⟨_, rfl⟩
   have HN := Lib.hid hN
   have hN3 : N ≤ 300 := by rw [hN]; exact HG.out.len
   clear hN
   go_loopg [5] (2 * N + 1) (fun gk vs wr => ∃ (vr : Value) (Q R : List Us) (kz : List (Us × Us)), vr = vs ∧ Q.length ≤ N ∧ 2 * (N - Q.length) + R.length ≤ gk ∧ R.length ≤ Q.length + 1 ∧ Hid (Clo (ensOf qs) u Q R) ∧ Hid kz.Nodup ∧ Hid (∀ a b, (a, b) ∈ kz ↔ (a, b) ∈ ks ∨ (a = u ∧ b ∈ Q)) ∧ Hid (StAt wr z qs kz) ∧ Hid (Lw z.ma w wr) ∧ Hid (OwnU B wr vr R) ∧ Hid (BoxAtv wr w.heap.size [.string u.t, .string u.i]) ∧ B ≤ wr.heap.size)
   case atStart => exact ⟨_, [], [u], ks, rfl, Nat.zero_le _, by simp, Nat.le_refl _, Lib.hid (Clo.start _ _), HKS, Lib.hid fun a b => by simp, S4, L4, OW, B3, HBS.out⟩
   case round =>
    clear S4 L4 OW B3 HBS HKS
    obtain ⟨vr, Q, R, kz, rfl, hQ, hgk, hRQ, CL, KN, KK, SS, LL, OO, BB, hsz⟩ := hrel
    rcases List.eq_nil_or_concat R with rfl | ⟨R0, m, rfl⟩
    ·obtain ⟨ao3, cp3, rfl, hc1, hc2, -⟩ := OO.out.shape
     go_wp2_with fail
     refine bodyPost_ret (v := .tuple #[]) (by simp [results, Tryz.results76]) rfl ?_
     exact ⟨rfl, ⟨kz, HAB.out.climbed KN.out HNO.out KK.out CL.out, SS.out⟩, LL.out⟩
    ·obtain ⟨ao3, cp3, rfl, hc1, hc2, hx3⟩ := OO.out.shape
     have hl3 : (R0.concat m).length = R0.length + 1 := by simp
     rw [hl3] at hc1 OO hgk hRQ ⊢
     rcases hx3 with h0 | ⟨g3, rfl, hg3, hg4⟩
     ·simp at h0
     have d0 := OO.out.cell encU_len R0.length 0 (by omega) (by omega)
     have d1 := OO.out.cell encU_len R0.length 1 (by omega) (by omega)
     have hgx : (R0.concat m)[R0.length]'(by omega) = m := by simp
     rw [hgx] at d0 d1
     replace d0 : wr.cell? ⟨g3, R0.length * 2, none⟩ = some (.string m.t) := d0
     replace d1 : wr.cell? ⟨g3, R0.length * 2 + 1, none⟩ = some (.string m.i) := d1
     have hq1 : IntKind.i64.wrap ((R0.length : Int) + 1 - 1) = (R0.length : Int) := by rw [IntKind.wrap_i64]; omega
     have HO := Lib.hid (show OwnU B wr (.slice (some ⟨g3, 0, none⟩) R0.length cp3) R0 from ownU_pop OO.out)
     have HCL := Lib.hid (show CloIn (ensOf qs) u Q R0 m 0 from Clo.take (show Clo (ensOf qs) u Q (R0 ++ [m]) by rw [← List.concat_eq_append]; exact CL.out))
     clear OO hgx hl3 CL
     obtain ⟨W1, hW1⟩ : ∃ W, W = wr.alloc (.cells #[.string m.t, .string m.i] 23) := ⟨_, rfl⟩
     have HW1 := Lib.hid hW1
     have LW := Lib.hid (show Low wr W1 by rw [hW1]; exact Low.alloc (Low.refl wr) _)
     have BM := Lib.hid (show BoxAtv W1 wr.heap.size [.string m.t, .string m.i] from BoxAtv.made hW1 rfl rfl)
     have SW := Lib.hid (SS.out.low LW.out)
     have SWD := Lib.hid (show StAt W1.drew z qs kz from SW.out.low (Gr.refl W1).drew.low)
     have LWD := Lib.hid (show Low wr W1.drew from LW.out.trans (Gr.refl W1).drew.low)
     clear hW1
     go_upto_region 6 with fail
     rw [← HW1.out]
     clear HW1 d0 d1
     obtain ⟨em, hem⟩ : ∃ x, (fstQ qs m).getD eeNo = x := ⟨_, rfl⟩
     have hlk := look_en SWD.out m
     rw [hem] at hlk
     have HPM := Lib.hid (show em.e.ps = PE (ensOf qs) m by rw [← hem]; exact fstQ_ps qs m)
     have HOM := Lib.hid (show ∀ W ky, StAt W z qs ky → UsAt W (.slice em.ap em.e.ps.length em.cp) em.e.ps from fun W ky h => by rw [← hem]; exact (fstQ_ok h.ok m).1.any)
     have c1 := SW.out.c1
     obtain ⟨m0, m1⟩ := BM.out.at2
     have hfl := fun W => field_ps em W
     unfold Ee.val at hlk
     clear hem
     go_upto_region 7 with fail
     go_region
     clear hlk hfl c1 m0 m1
     obtain ⟨W2, hW2⟩ : ∃ W, W = W1.drew := ⟨_, rfl⟩
     rw [← hW2] at SWD LWD ⊢
     have L2 := Lib.hid (show Lw z.ma w W2 from LL.out.trans (Lw.of_low LWD.out SS.out.isMap))
     have O2 := Lib.hid (OwnR.low HO.out LWD.out)
     have B2 := Lib.hid (BB.out.low LWD.out)
     have hsz2 : B ≤ W2.heap.size := Nat.le_trans hsz LWD.out.size
     obtain ⟨ps, hps⟩ : ∃ ps, ps = em.e.ps := ⟨_, rfl⟩
     obtain ⟨ap, hap⟩ : ∃ a, a = em.ap := ⟨_, rfl⟩
     obtain ⟨cp, hcp⟩ : ∃ a, a = em.cp := ⟨_, rfl⟩
     rw [← hps] at HPM
     rw [← hps, ← hap, ← hcp] at HOM ⊢
     clear hps hap hcp hW2 SW LW BM SS LL HO BB
     go_wp2_with fail
     go_loopg [5, 51] ps.length (fun gj vs vj wi => ∃ (vr : Value) (j : Nat) (Q' R' : List Us) (ky : List (Us × Us)), vr = vs ∧ vj = .int .i64 (j : Int) ∧ j ≤ ps.length ∧ ps.length - j ≤ gj ∧ Q'.length ≤ N ∧ 2 * (N - Q'.length) + R'.length + 1 ≤ gk ∧ R'.length ≤ Q'.length + 1 ∧ Hid (CloIn (ensOf qs) u Q' R' m j) ∧ Hid ky.Nodup ∧ Hid (∀ a b, (a, b) ∈ ky ↔ (a, b) ∈ ks ∨ (a = u ∧ b ∈ Q')) ∧ Hid (StAt wi z qs ky) ∧ Hid (Lw z.ma w wi) ∧ Hid (OwnU B wi vr R') ∧ Hid (BoxAtv wi w.heap.size [.string u.t, .string u.i]) ∧ B ≤ wi.heap.size)
     case atStart => exact ⟨_, 0, Q, R0, kz, rfl, rfl, Nat.zero_le _, Nat.le_refl _, hQ, by omega, by omega, HCL, KN, KK, SWD, L2, O2, B2, hsz2⟩
     case round =>
      clear HCL KN KK SWD L2 O2 B2 hsz2 LWD
      obtain ⟨vr, j, Q', R', ky, rfl, rfl, hj, hgj, hQ', hgk', hRQ', CI, KN, KK, SI, LI, OI, BI, hszi⟩ := hrel
      by_cases hlt : j < ps.length
      ·have zl : (j : Int) < (ps.length : Int) := by omega
       obtain ⟨ap', cp', hpv, ⟨hp1, hp2⟩, hp3⟩ := HOM.out wr ky SI.out
       simp only [Value.slice.injEq, true_and] at hpv
       obtain ⟨rfl, rfl⟩ := hpv
       obtain ⟨pb, po, rfl, hcs⟩ := hp3 j hlt
       obtain ⟨e0, e1⟩ := cells2 hcs
       obtain ⟨p, hp⟩ : ∃ p, p = ps[j] := ⟨_, rfl⟩
       rw [← hp] at e0 e1
       have hjm : j < (PE (ensOf qs) m).length := by rw [← HPM.out]; exact hlt
       have HPJ := Lib.hid (show (PE (ensOf qs) m)[j] = p by rw [hp]; simp only [HPM.out])
       obtain ⟨W3, hW3⟩ : ∃ W, W = wr.alloc (.cells #[.string p.t, .string p.i] 23) := ⟨_, rfl⟩
       have HW3 := Lib.hid hW3
       have L3 := Lib.hid (show Low wr W3 by rw [hW3]; exact Low.alloc (Low.refl wr) _)
       have BP := Lib.hid (show BoxAtv W3 wr.heap.size [.string p.t, .string p.i] from BoxAtv.made hW3 rfl rfl)
       have BU := Lib.hid (BI.out.low L3.out)
       have S3 := Lib.hid (SI.out.low L3.out)
       obtain ⟨t, ht⟩ : ∃ t, t = decide ((u, p) ∈ ky) := ⟨_, rfl⟩
       have hcon := leads_ch W3 z qs ky S3.out u p
       rw [← ht] at hcon
       have HC := Lib.hid hcon
       have HTQ := Lib.hid (show t = true ↔ p ∈ Q' by
        rw [ht, decide_eq_true_eq, KK.out]
        exact ⟨fun h => h.elim (fun h => absurd h (HNO.out p)) (fun h => h.2), fun h => .inr ⟨rfl, h⟩⟩)
       clear hcon ht hp hcs hp3 hW3
       go_upto_region 10 with fail
       rw [← HW3.out]
       clear HW3 e0 e1
       obtain ⟨b0, b1⟩ := BU.out.at2
       obtain ⟨p0, p1⟩ := BP.out.at2
       go_wp2_with fail
       refine HC.out.mono ?_
       rintro e w4 ⟨rfl, g4⟩
       have L4 := Lib.hid (L3.out.trans g4.low)
       have BP4 := Lib.hid (BP.out.low g4.low)
       have BU4 := Lib.hid (BU.out.low g4.low)
       have S4 := Lib.hid (S3.out.low g4.low)
       have LL4 := Lib.hid (LI.out.trans (Lw.of_low L4.out SI.out.isMap))
       have O4 := Lib.hid (OwnR.low OI.out L4.out)
       have hsz4 : B ≤ w4.heap.size := Nat.le_trans hszi L4.out.size
       clear g4 HC b0 b1 p0 p1 S3 BP BU L3 OI BI LI SI
       cases t with
       | true =>
        have HM := Lib.hid (show p ∈ Q' from HTQ.out.1 rfl)
        go_wp2_with fail
        go_roundg (ps.length - (j + 1))
        case measure => omega
        case rel => exact ⟨_, j + 1, Q', R', ky, rfl, by go_num, by omega, by omega, hQ', hgk', hRQ', Lib.hid (CI.out.old hjm (by rw [HPJ.out]; exact HM.out)), KN, KK, S4, LL4, O4, BU4, hsz4⟩
       | false =>
        have HM := Lib.hid (show p ∉ Q' from fun h => by have := HTQ.out.2 h; simp at this)
        have HNEW := Lib.hid (show CloIn (ensOf qs) u (Q' ++ [p]) (R' ++ [p]) m (j + 1) by
         have h1 := CI.out.new HG.out.closed hjm (by rw [HPJ.out]; exact HM.out)
         rwa [HPJ.out] at h1)
        have hQN : (Q' ++ [p]).length ≤ N := by
         rw [HN.out, ← names_len]
         exact len_sub _ _ HNEW.out.nd fun x hx => way_to (HNEW.out.way x hx)
        have hwp : Way (stepE (ensOf qs)) u p := HNEW.out.way p (by simp)
        have HNK := Lib.hid (show (u, p) ∉ ky from fun h => HM.out ((KK.out u p).1 h |>.elim (fun h => absurd h (HNO.out p)) fun h => h.2))
        have hfew : ky.length ≤ 90000 := pairs_few KN.out (fun q hq => by
         rcases (KK.out q.1 q.2).1 hq with h | ⟨h1, h2⟩
         ·exact HAB.out.in q h
         ·have := CI.out.way q.2 h2
          rw [h1]
          exact ⟨way_from this, way_to this⟩) (by rw [names_len]; exact HG.out.len)
        have SD := Lib.hid (show StAt w4.drew z qs ky from S4.out.low (Gr.refl w4).drew.low)
        obtain ⟨n, hn, hm4⟩ := SD.out.abv
        obtain ⟨w5, hrun, hm5, ht5⟩ := hm4.store keyedUU Tryz.underlying68 (by unfold maxLen; omega) (u, p) (.agg #[])
        rw [← abF_more] at hm5
        simp only [keyUU, uuV] at hrun
        have LL5 := Lib.hid (show Lw z.ma w w5 from (LL4.out.trans (Lw.of_low (Gr.refl w4).drew.low S4.out.isMap)).turned ht5 hm5.isMap)
        have LL45 := Lib.hid (show Lw z.ma w4 w5 from (Lw.of_low (Gr.refl w4).drew.low S4.out.isMap).turned ht5 hm5.isMap)
        have HM5 := Lib.hid hm5
        have BU5 := Lib.hid (BU4.out.lw LL45.out (by have := HMA.out; omega))
        have BP5 := Lib.hid (BP4.out.lw LL45.out (by have := HMA.out; have := HB.out; omega))
        have O5 := Lib.hid (OwnR.lw O4.out LL45.out (by have := HMA.out; have := HB.out; omega))
        have hsz5 : B ≤ w5.heap.size := Nat.le_trans hsz4 LL45.out.size
        have c2 := S4.out.c2
        obtain ⟨b0, b1⟩ := BU4.out.at2
        obtain ⟨p0, p1⟩ := BP4.out.at2
        clear hm4 hm5 ht5
        go_wp2_with fail
        go_region
        clear hrun c2 b0 b1 p0 p1 BP4 BU4 S4 LL4 O4 SD
        obtain ⟨p0, p1⟩ := BP5.out.at2
        go_wp2_with (first
         | (at_builtin; go_loud (refine appR rfl _ _ _ rfl Tryz.underlying48 u_info rfl (by decide) (by decide) encU_len encU_one B _ R' rfl (OwnR.alloc O5.out _) p ⟨w5.heap.size, 0, none⟩ 1 rfl (fun j u hj => newcell_at _ _ _ _ _ rfl hj) (by omega) (by show B ≤ (w5.alloc _).heap.size; simp; omega) ?_); intro v6 w6 O6 B6 K6 N6))
        have hal := Low.alloc (Low.refl w5) (.cells #[.string p.t, .string p.i] 23)
        have LL6 := Lib.hid (show Lw z.ma w w6 from Lw.below (LL5.out.trans (Lw.of_low hal HM5.out.isMap)) B6 (by have := HB.out; omega) (by have := HMA.out; have := HB.out; omega))
        have HM6 := Lib.hid (show MapAt keyUU w6 z.ma (n + 1) (abF (ky ++ [(u, p)])) from HM5.out.block ((B6.block _ (by have := HMA.out; have := HB.out; omega)).trans (hal.2.2.2 _ HM5.out.lt)))
        have S6 := Lib.hid (show StAt w6 z qs (ky ++ [(u, p)]) from HST.out.turned LL6.out (by rw [List.length_append, List.length_singleton]; omega) HM6.out)
        have BU6 := Lib.hid ((BU5.out.low hal).below B6 (by have := HB.out; omega))
        have O6' := Lib.hid O6
        have hsz6 : B ≤ w6.heap.size := Nat.le_trans (Nat.le_trans hsz5 hal.size) B6.size
        clear O6 B6 K6 N6 hal
        go_roundg (ps.length - (j + 1))
        case measure => omega
        case rel =>
         have hl1 : (Q' ++ [p]).length = Q'.length + 1 := by simp
         have hl2 : (R' ++ [p]).length = R'.length + 1 := by simp
         refine ⟨_, j + 1, Q' ++ [p], R' ++ [p], ky ++ [(u, p)], rfl, by go_num, by omega, by omega, hQN, by omega, by omega, HNEW, Lib.hid ?_, Lib.hid fun a b => ?_, S6, LL6, O6', BU6, hsz6⟩
         ·rw [List.nodup_append]
          exact ⟨KN.out, by simp, fun x hx y hy e => by simp at hy; rw [e, hy] at hx; exact HNK.out hx⟩
         ·rw [List.mem_append, KK.out, List.mem_append]
          constructor
          ·rintro ((h | ⟨h1, h2⟩) | h)
           ·exact .inl h
           ·exact .inr ⟨h1, .inl h2⟩
           ·simp at h
            exact .inr ⟨h.1, .inr (by simp [h.2])⟩
          ·rintro (h | ⟨h1, h2 | h2⟩)
           ·exact .inl (.inl h)
           ·exact .inl (.inr ⟨h1, h2⟩)
           ·simp at h2
            exact .inr (by simp [h1, h2])
      ·have zl : ¬ (j : Int) < (ps.length : Int) := by omega
       have HCD := Lib.hid (CI.out.done (by rw [← HPM.out]; omega))
       go_wp2_with fail
       go_roundg (2 * (N - Q'.length) + R'.length)
       case measure => omega
       case rel => exact ⟨_, Q', R', ky, rfl, hQ', Nat.le_refl _, hRQ', HCD, KN, KK, SI, LI, OI, BI, hszi⟩
end Go.Proofs.YtnchohglplobeaaGreat
namespace Go.Proofs.YtnchohglplobeaaGreat
open Go.RowKit
inductive E where
 | mk (op : Int) (v : V) (nm : ByteArray) (ks : List E) (ns : List ByteArray)
namespace E
def op : E → Int | .mk o _ _ _ _ => o
def v : E → V | .mk _ v _ _ _ => v
def nm : E → ByteArray | .mk _ _ n _ _ => n
def ks : E → List E | .mk _ _ _ k _ => k
def ns : E → List ByteArray | .mk _ _ _ _ n => n
end E
mutual
def dpE : E → Nat
 | .mk _ _ _ ks _ => dpEL ks + 1
def dpEL : List E → Nat
 | [] => 0
 | x :: l => max (dpE x) (dpEL l)
end
theorem dpE_v (e : E) : dpE e = dpEL e.ks + 1 := by cases e; rw [dpE]; rfl
theorem dpEL_le {l : List E} {n : Nat} : dpEL l ≤ n ↔ ∀ x ∈ l, dpE x ≤ n := by
 induction l with
 | nil => simp [dpEL]
 | cons x l ih => simp [dpEL, Nat.max_le, ih]
theorem dpE_kid {e x : E} (h : x ∈ e.ks) : dpE x < dpE e := by
 rw [dpE_v e]
 have := (dpEL_le (l := e.ks) (n := dpEL e.ks)).1 (Nat.le_refl _) x h
 omega
def usOf (x : V) : Us := if h : x.h.t.size ≤ 9223372036854775807 ∧ x.h.i.size ≤ 9223372036854775807 then ⟨x.h.t, x.h.i, h.1, h.2⟩ else ⟨⟨#[]⟩, ⟨#[]⟩, Nat.zero_le _, Nat.zero_le _⟩
def refsL (v : V) : List V := if v.h.k = 5 then v.l else [v]
structure RqE where
 pu : Us
 au : Us
 ru : Us
 c : V
 isIn : Us → Us → Bool
 ent : Us → Option V
def truV (b : Bool) : V := .mk { hd0 with k := 1, b := b } [] []
def numV (n : Int) : V := .mk { hd0 with k := 2, n := n } [] []
def refE4 (t i : ByteArray) : V := .mk { hd0 with k := 4, t := t, i := i } [] []
def fitN (n : Int) : Int × V := if -9223372036854775808 ≤ n ∧ n ≤ 9223372036854775807 then (0, numV n) else (14, V0)
def op2 (Q : RqE) (op : Int) (a b : V) : Int × V :=
 if op = 8 then (0, truV (ord a b == 0))
 else if op = 9 then (if a.h.k = 2 ∧ b.h.k = 2 then (0, truV (decide (a.h.n < b.h.n))) else (30, V0))
 else if op = 10 then (if a.h.k = 2 ∧ b.h.k = 2 then (0, truV (decide (a.h.n ≤ b.h.n))) else (30, V0))
 else if op = 11 then (if a.h.k = 2 ∧ b.h.k = 2 then fitN (a.h.n + b.h.n) else (30, V0))
 else if op = 12 then (if a.h.k = 2 ∧ b.h.k = 2 then fitN (a.h.n - b.h.n) else (30, V0))
 else if op = 13 then (if a.h.k = 2 ∧ b.h.k = 2 then fitN (a.h.n * b.h.n) else (30, V0))
 else if op = 15 then (if a.h.k = 4 ∧ ((refsL b).all fun x => decide (x.h.k = 4)) = true then (0, truV ((refsL b).any fun x => Q.isIn (usOf a) (usOf x))) else (30, V0))
 else if op = 21 then (if a.h.k = 5 then (0, truV (holdsB a b)) else (30, V0))
 else if op = 22 then (if a.h.k = 5 ∧ b.h.k = 5 then (0, truV (!(b.l.any fun x => !holdsB a x))) else (30, V0))
 else if op = 23 then (if a.h.k = 5 ∧ b.h.k = 5 then (0, truV (b.l.any fun x => holdsB a x)) else (30, V0))
 else (1, V0)
def recE (Q : RqE) (v : V) : Int × V := if v.h.k = 6 then (0, v) else if v.h.k = 4 then (match Q.ent (usOf v) with | none => (22, V0) | some r => (0, r)) else (30, V0)
def op1 (Q : RqE) (op : Int) (s : ByteArray) (a : V) : Int × V :=
 if op = 6 then (if a.h.k = 1 then (0, truV (!a.h.b)) else (30, V0))
 else if op = 14 then (if a.h.k = 2 then fitN (-a.h.n) else (30, V0))
 else if op = 16 then (if a.h.k = 4 then (0, truV (decide (a.h.t = s))) else (30, V0))
 else if op = 17 then (if (recE Q a).1 = 30 then (30, V0) else (0, truV (decide (0 ≤ getI (recE Q a).2 s))))
 else if op = 18 then (if (recE Q a).1 = 0 then (if 0 ≤ getI (recE Q a).2 s then (0, getV (recE Q a).2 s) else (31, V0)) else ((recE Q a).1, V0))
 else (1, V0)
def varS (Q : RqE) (s : ByteArray) : Int × V :=
 if s = ⟨#[112, 114, 105, 110, 99, 105, 112, 97, 108]⟩ then (0, refE4 Q.pu.t Q.pu.i)
 else if s = ⟨#[97, 99, 116, 105, 111, 110]⟩ then (0, refE4 Q.au.t Q.au.i)
 else if s = ⟨#[114, 101, 115, 111, 117, 114, 99, 101]⟩ then (0, refE4 Q.ru.t Q.ru.i)
 else if s = ⟨#[99, 111, 110, 116, 101, 120, 116]⟩ then canD Q.c
 else (1, V0)
def kidsN (op : Int) : Int := if op = 1 ∨ op = 2 ∨ op = 3 then 0 else if op = 6 ∨ op = 14 ∨ op = 16 ∨ op = 17 ∨ op = 18 then 1 else if op = 7 then 3 else if op = 19 ∨ op = 20 then -1 else 2
def formB (e : E) : Bool := decide (1 ≤ e.op ∧ e.op ≤ 23) && (decide (kidsN e.op = -1) || decide (kidsN e.op = (e.ks.length : Int))) && (decide (e.op ≠ 20) || decide (e.ks.length = e.ns.length))
def evL (f : E → Int × V) : List E → Int × List V
 | [] => (0, [])
 | x :: l => if (f x).1 = 0 then (if (evL f l).1 = 0 then (0, (f x).2 :: (evL f l).2) else ((evL f l).1, [])) else ((f x).1, [])
def truS (p : Int × V) (k : Bool → Int × V) : Int × V := if p.1 = 0 then (if p.2.h.k = 1 then k p.2.h.b else (30, V0)) else (p.1, V0)
def thenS (p : Int × V) (k : V → Int × V) : Int × V := if p.1 = 0 then k p.2 else (p.1, V0)
def thenL (p : Int × List V) (k : List V → Int × V) : Int × V := if p.1 = 0 then k p.2 else (p.1, V0)
def evM (Q : RqE) (f : E → Int × V) (op : Int) (nm : ByteArray) : List E → Int × V
 | [a] => thenS (f a) fun x => op1 Q op nm x
 | [a, b] =>
  if op = 4 then truS (f a) fun x => if x = false then (0, truV false) else truS (f b) fun y => (0, truV y)
  else if op = 5 then truS (f a) fun x => if x = true then (0, truV true) else truS (f b) fun y => (0, truV y)
  else thenS (f a) fun x => thenS (f b) fun y => op2 Q op x y
 | [a, b, c] => truS (f a) fun x => if x = true then f b else f c
 | _ => (1, V0)
def evK (Q : RqE) (f : E → Int × V) (op : Int) (v : V) (nm : ByteArray) (ks : List E) (ns : List ByteArray) : Int × V :=
 if op = 1 then canD v
 else if op = 2 then varS Q nm
 else if op = 3 then (32, V0)
 else if op = 19 then thenL (evL f ks) fun l => canD (.mk { hd0 with k := 5 } l [])
 else if op = 20 then thenL (evL f ks) fun l => canD (.mk { hd0 with k := 6 } l ns)
 else evM Q f op nm ks
def evS (Q : RqE) : Nat → E → Int × V
 | 0, _ => (11, V0)
 | n + 1, e => if formB e = false then (1, V0) else evK Q (evS Q n) e.op e.v e.nm e.ks e.ns
end Go.Proofs.YtnchohglplobeaaGreat
namespace Go.Proofs.YtnchohglplobeaaGreat
open Go.RowKit
abbrev P4 := (Value × Value) × Value × Value
def encE4 (e : E) (p : P4) : List Value := [.int .i64 e.op, .int .i64 e.v.h.k, .bool e.v.h.b, .int .i64 e.v.h.n, .string e.v.h.s, .string e.v.h.t, .string e.v.h.i, p.1.1, p.1.2, .string e.nm, p.2.1, p.2.2]
def RE : Nat → World → E → P4 → Prop
 | 0, _, _, _ => False
 | n + 1, w, e, p => R w e.v p.1.1 p.1.2 ∧ e.nm.size ≤ 9223372036854775807 ∧ RowB w 12 encE4 (RE n) e.ks p.2.1 ∧ Na w e.ns p.2.2
theorem re_succ {n : Nat} {w : World} {e : E} {p : P4} : RE (n + 1) w e p ↔ R w e.v p.1.1 p.1.2 ∧ e.nm.size ≤ 9223372036854775807 ∧ RowB w 12 encE4 (RE n) e.ks p.2.1 ∧ Na w e.ns p.2.2 := by rw [RE]
theorem na_low {w w' : World} {l : List ByteArray} {v : Value} (h : Na w l v) (hl : Low w w') : Na w' l v := by
 obtain ⟨ao, cap, h1, h2, h3, h4⟩ := h
 refine ⟨ao, cap, h1, h2, h3, ?_⟩
 rcases h4 with h4 | ⟨b, o, h5, h6, h7⟩
 ·exact .inl h4
 ·exact .inr ⟨b, o, h5, h6, fun j hj => hl.keep (h7 j hj)⟩
theorem RE.low : ∀ {n : Nat} {w w' : World} {e : E} {p : P4}, RE n w e p → Low w w' → RE n w' e p
 | 0, _, _, _, _, h, _ => h.elim
 | n + 1, w, w', e, p, h, hl => by
  obtain ⟨h1, h2, h3, h4⟩ := re_succ.1 h
  exact re_succ.2 ⟨Rep.low h1 hl, h2, RowB.low h3 hl fun _ _ k => RE.low k hl, na_low h4 hl⟩
theorem RowB.mem {α β : Type} {w : World} {sz : Nat} {enc : α → β → List Value} {R : World → α → β → Prop} {l : List α} {it : Value} (h : RowB w sz enc R l it) {x : α} (hx : x ∈ l) : ∃ e, R w x e := by
 obtain ⟨p, cap, rfl, hc, hr⟩ := h
 obtain ⟨j, hj, rfl⟩ := List.getElem_of_mem hx
 obtain ⟨b, o, e, -, -, h2⟩ := hr j hj
 exact ⟨e, h2⟩
theorem RE.dp : ∀ {n : Nat} {w : World} {e : E} {p : P4}, RE n w e p → dpE e ≤ n
 | 0, _, _, _, h => h.elim
 | n + 1, w, e, p, h => by
  obtain ⟨-, -, h3, -⟩ := re_succ.1 h
  rw [dpE_v]
  have := dpEL_le (l := e.ks) (n := n) |>.2 fun x hx => by
   obtain ⟨q, hq⟩ := h3.mem hx
   exact hq.dp
  omega
theorem RowB.imp4 {α β : Type} {w : World} {sz : Nat} {enc : α → β → List Value} {R R' : World → α → β → Prop} {l : List α} {it : Value} (h : RowB w sz enc R l it) (hR : ∀ x ∈ l, ∀ e, R w x e → R' w x e) : RowB w sz enc R' l it := by
 obtain ⟨p, cap, rfl, hc, hx⟩ := h
 refine ⟨p, cap, rfl, hc, fun j hj => ?_⟩
 obtain ⟨b, o, e, rfl, h1, h2⟩ := hx j hj
 exact ⟨b, o, e, rfl, h1, hR _ (List.getElem_mem hj) _ h2⟩
theorem RE.re : ∀ {n m : Nat} {w : World} {e : E} {p : P4}, dpE e ≤ m → RE n w e p → RE m w e p
 | 0, _, _, _, _, _, h => h.elim
 | n + 1, 0, _, e, _, hm, _ => by rw [dpE_v] at hm; omega
 | n + 1, m + 1, w, e, p, hm, h => by
  obtain ⟨h1, h2, h3, h4⟩ := re_succ.1 h
  exact re_succ.2 ⟨h1, h2, RowB.imp4 h3 fun x hx q hq => RE.re (by have := dpE_kid hx; omega) hq, h4⟩
theorem cells12 {w : World} {b o : Nat} {e : E} {p : P4} (hc : ∀ j v, (encE4 e p)[j]? = some v → w.cell? ⟨b, o + j, none⟩ = some v) :
  w.cell? ⟨b, o, none⟩ = some (.int .i64 e.op) ∧ w.cell? ⟨b, o + 1, none⟩ = some (.int .i64 e.v.h.k) ∧ w.cell? ⟨b, o + 2, none⟩ = some (.bool e.v.h.b) ∧ w.cell? ⟨b, o + 3, none⟩ = some (.int .i64 e.v.h.n) ∧ w.cell? ⟨b, o + 4, none⟩ = some (.string e.v.h.s) ∧ w.cell? ⟨b, o + 5, none⟩ = some (.string e.v.h.t) ∧
  w.cell? ⟨b, o + 6, none⟩ = some (.string e.v.h.i) ∧ w.cell? ⟨b, o + 7, none⟩ = some p.1.1 ∧ w.cell? ⟨b, o + 8, none⟩ = some p.1.2 ∧ w.cell? ⟨b, o + 9, none⟩ = some (.string e.nm) ∧ w.cell? ⟨b, o + 10, none⟩ = some p.2.1 ∧ w.cell? ⟨b, o + 11, none⟩ = some p.2.2 :=
 ⟨hc 0 _ rfl, hc 1 _ rfl, hc 2 _ rfl, hc 3 _ rfl, hc 4 _ rfl, hc 5 _ rfl, hc 6 _ rfl, hc 7 _ rfl, hc 8 _ rfl, hc 9 _ rfl, hc 10 _ rfl, hc 11 _ rfl⟩
end Go.Proofs.YtnchohglplobeaaGreat
namespace Go.Proofs.YtnchohglplobeaaGreat
open Go.RowKit Go.Maps
theorem us_eql (a b : Us) (w : World) : (binOp .eql 23 (.agg #[.string a.t, .string a.i]) (.agg #[.string b.t, .string b.i])).run Tryz.prog w = .ok (.bool (decide (a = b))) w := by
 by_cases h : a = b
 ·subst h
  rw [decide_eq_true rfl]
  go_simp
 ·rw [decide_eq_false h]
  by_cases ht : a.t.toList = b.t.toList
  ·have hi : ¬ a.i.toList = b.i.toList := fun hi => h (Us.ext' (tl_injE ht) (tl_injE hi))
   go_simp
  ·go_simp
end Go.Proofs.YtnchohglplobeaaGreat
namespace Go.Proofs.YtnchohglplobeaaGreat
open Go.RowKit Go.Sort Go.Maps
noncomputable def inBh (c : List En) (a b : Us) : Bool := @decide (a = b ∨ Way (stepE c) a b) (Classical.propDecidable _)
theorem inB_iff {c : List En} {a b : Us} : inBh c a b = true ↔ a = b ∨ Way (stepE c) a b := by simp [inBh]
def StP (z : St) (qs : List Ee) (v : Value) (w : World) (e : Ending) (w' : World) : Prop := e = .returned v ∧ Sto w' z qs ∧ Lw z.ma w w'
set_option maxRecDepth 100000 in
set_option maxHeartbeats 3200000 in
theorem in_c (w : World) (z : St) (qs : List Ee) (a b : Us) (hS : Sto w z qs) (hg : GoodC (ensOf qs)) :
  Calls Tryz.prog 36 #[.pointer (some ⟨z.p, 0, none⟩), .agg #[.string a.t, .string a.i], .agg #[.string b.t, .string b.i]] w (StP z qs (.bool (inBh (ensOf qs) a b)) w) := by
 obtain ⟨U0, hU0⟩ : ∃ W, W = (w.alloc (.cells #[.string a.t, .string a.i] 23)).alloc (.cells #[.string b.t, .string b.i] 23) := ⟨_, rfl⟩
 have HU0 := Lib.hid hU0
 have L0 := Lib.hid (show Low w U0 by rw [hU0]; exact Low.alloc (Low.alloc (Low.refl w) _) _)
 have BA := Lib.hid (show BoxAtv U0 w.heap.size [.string a.t, .string a.i] from BoxAtv.low (BoxAtv.made (w := w) (W := w.alloc (.cells #[.string a.t, .string a.i] 23)) rfl rfl rfl) (show Low (w.alloc (.cells #[.string a.t, .string a.i] 23)) U0 by rw [hU0]; exact Low.alloc (Low.refl _) _))
 have BB := Lib.hid (show BoxAtv U0 (w.heap.size + 1) [.string b.t, .string b.i] from BoxAtv.made hU0 (by simp) rfl)
 have HMM := Lib.hid hS.isMap
 have HMA := Lib.hid (show z.ma < w.heap.size from hS.isMap.lt)
 have HG := Lib.hid hg
 have HS0 := Lib.hid (hS.low L0.out)
 have HC := Lib.hid (climb_c U0 z qs a HS0.out hg)
 have qE := fun W => us_eql a b W
 obtain ⟨q, hq⟩ : ∃ q, q = decide (a = b) := ⟨_, rfl⟩
 rw [← hq] at qE
 have HQ := Lib.hid hq
 clear hU0 hS hg hq
 go_enter Tryz.func36, Tryz.ntmps36
 go_upto_region 1 with fail
 rw [← HU0.out]
 clear HU0
 obtain ⟨a0, a1⟩ := BA.out.at2
 obtain ⟨b0, b1⟩ := BB.out.at2
 cases q with
 | true =>
  go_wp2_with fail
  go_ret
  refine ⟨?_, HS0.out, Lw.of_low L0.out HMM.out⟩
  have : inBh (ensOf qs) a b = true := inB_iff.2 (.inl (by have := HQ.out; simpa using this.symm))
  rw [this]; rfl
 | false =>
  go_wp2_with fail
  refine HC.out.mono ?_
  rintro e w1 ⟨rfl, ⟨ks, hab, hst⟩, l1⟩
  have HAB := Lib.hid hab
  have HST := Lib.hid hst
  have L1 := Lib.hid l1
  have BA1 := Lib.hid (BA.out.lw l1 (by have := HMA.out; omega))
  have BB1 := Lib.hid (BB.out.lw l1 (by have := HMA.out; omega))
  have HLD := Lib.hid (leads_ch w1 z qs ks hst a b)
  clear hab hst l1 a0 a1 b0 b1 HC
  obtain ⟨a0, a1⟩ := BA1.out.at2
  obtain ⟨b0, b1⟩ := BB1.out.at2
  go_wp2_with fail
  refine HLD.out.mono ?_
  rintro e w2 ⟨rfl, g2⟩
  have G2 := Lib.hid g2
  clear g2 a0 a1 b0 b1 HLD qE
  go_wp2_with fail
  go_ret
  refine ⟨?_, ⟨ks, HAB.out.1, HST.out.low G2.out.low⟩, (Lw.of_low L0.out HMM.out).trans (L1.out.trans (Lw.of_low G2.out.low HST.out.isMap))⟩
  have hne : a ≠ b := by have := HQ.out; simpa using this.symm
  have h1 := HAB.out.2 b
  have : inBh (ensOf qs) a b = decide ((a, b) ∈ ks) := by
   rw [Bool.eq_iff_iff, inB_iff, decide_eq_true_eq, h1]
   exact ⟨fun h => h.resolve_left hne, .inr⟩
  rw [this]; rfl
end Go.Proofs.YtnchohglplobeaaGreat
namespace Go.Proofs.YtnchohglplobeaaGreat
open Go.RowKit Go.Sort Go.Maps
def Lo : Option Nat → World → World → Prop
 | none, w, w' => Low w w'
 | some m, w, w' => Lw m w w'
def Ok (o : Option Nat) (w : World) : Prop := ∀ m, o = some m → IsMap w m
theorem Lo.of_low {o : Option Nat} {w w' : World} (h : Low w w') (k : Ok o w) : Lo o w w' := by
 cases o with
 | none => exact h
 | some m => exact Lw.of_low h (k m rfl)
theorem Lo.refl {o : Option Nat} {w : World} (k : Ok o w) : Lo o w w := Lo.of_low (Low.refl w) k
theorem Lo.trans {o : Option Nat} {a b c : World} (h : Lo o a b) (k : Lo o b c) : Lo o a c := by
 cases o with
 | none => exact Low.trans h k
 | some m => exact Lw.trans h k
theorem Lo.ok {o : Option Nat} {w w' : World} (h : Lo o w w') : Ok o w' := by
 intro m e; subst e; exact Lw.map' h
theorem Ok.low {o : Option Nat} {w w' : World} (k : Ok o w) (h : Low w w') : Ok o w' := fun m e => (k m e).low h
theorem Lo.low {o : Option Nat} {a b c : World} (h : Lo o a b) (k : Low b c) : Lo o a c := h.trans (Lo.of_low k h.ok)
theorem Lo.gr {o : Option Nat} {a b c : World} (h : Lo o a b) (k : Gr b c) : Lo o a c := h.low k.low
theorem Lo.keep {o : Option Nat} {w w' : World} (h : Lo o w w') {p : Addr} {v : Value} (hc : w.cell? p = some v) : w'.cell? p = some v := by
 cases o with
 | none => exact Low.keep h hc
 | some m => exact Lw.keep h hc
theorem Lo.size {o : Option Nat} {w w' : World} (h : Lo o w w') : w.heap.size ≤ w'.heap.size := by
 cases o with
 | none => exact Low.size h
 | some m => exact Lw.size h
theorem Lo.cells {o : Option Nat} {w w' : World} (h : Lo o w w') {b p : Nat} {cs : List Value} (hc : CellsAt w b p cs) : CellsAt w' b p cs := fun j v hv => h.keep (hc j v hv)
theorem Rep.lo {o : Option Nat} {A : Nat → Prop} {w w' : World} {v : V} {it nm : Value} (hr : Rep A w v it nm) (h : Lo o w w') : Rep A w' v it nm := by
 cases o with
 | none => exact Rep.low hr h
 | some m => exact Rep.lw h hr
theorem R.lo {o : Option Nat} {w w' : World} {v : V} {it nm : Value} (hr : R w v it nm) (h : Lo o w w') : R w' v it nm := Rep.lo hr h
theorem na_lo {o : Option Nat} {w w' : World} {l : List ByteArray} {v : Value} (hl : Lo o w w') (h : Na w l v) : Na w' l v := by
 obtain ⟨ao, cap, h1, h2, h3, h4⟩ := h
 refine ⟨ao, cap, h1, h2, h3, ?_⟩
 rcases h4 with h4 | ⟨b, q, h5, h6, h7⟩
 ·exact .inl h4
 ·exact .inr ⟨b, q, h5, h6, fun j hj => hl.keep (h7 j hj)⟩
theorem RowB.lo {o : Option Nat} {α β : Type} {w w' : World} {sz : Nat} {enc : α → β → List Value} {R : World → α → β → Prop} {l : List α} {it : Value} (h : RowB w sz enc R l it) (hl : Lo o w w') (hR : ∀ x e, R w x e → R w' x e) : RowB w' sz enc R l it := by
 obtain ⟨p, cap, rfl, hc, hx⟩ := h
 refine ⟨p, cap, rfl, hc, fun j hj => ?_⟩
 obtain ⟨b, q, e, h1, h2, h3⟩ := hx j hj
 exact ⟨b, q, e, h1, hl.cells h2, hR _ _ h3⟩
theorem RE.lo {o : Option Nat} : ∀ {n : Nat} {w w' : World} {e : E} {p : P4}, RE n w e p → Lo o w w' → RE n w' e p
 | 0, _, _, _, _, h, _ => h.elim
 | n + 1, w, w', e, p, h, hl => by
  obtain ⟨h1, h2, h3, h4⟩ := re_succ.1 h
  exact re_succ.2 ⟨Rep.lo h1 hl, h2, RowB.lo h3 hl fun _ _ k => RE.lo k hl, na_lo hl h4⟩
def Sx : Type := Option (St × List Ee)
def Sx.v : Sx → Value
 | none => .pointer none
 | some z => .pointer (some ⟨z.1.p, 0, none⟩)
def Sx.m : Sx → Option Nat
 | none => none
 | some z => some z.1.ma
def Sx.at : Sx → World → Prop
 | none, _ => True
 | some z, w => Sto w z.1 z.2 ∧ GoodC (ensOf z.2)
noncomputable def Sx.isIn : Sx → Us → Us → Bool
 | none, a, b => decide (a = b)
 | some z, a, b => inBh (ensOf z.2) a b
def Sx.ent : Sx → Us → Option V
 | none, _ => none
 | some z, u => (fstQ z.2 u).map (·.e.a)
theorem Sx.ok {X : Sx} {w : World} (h : X.at w) : Ok X.m w := by
 intro m e
 cases X with
 | none => cases e
 | some z => cases e; exact h.1.isMap
theorem Sx.low {X : Sx} {w w' : World} (h : X.at w) (k : Low w w') : X.at w' := by
 cases X with
 | none => trivial
 | some z => exact ⟨h.1.low k, h.2⟩
end Go.Proofs.YtnchohglplobeaaGreat
namespace Go.Proofs.YtnchohglplobeaaGreat
open Go.RowKit
theorem item_mem {v : V} {s : ByteArray} (h : 0 ≤ getI v s) : getV v s ∈ v.l := by
 unfold getV
 rw [if_pos h]
 have h2 : (getI v s).toNat < v.l.length := by
  unfold getI at h ⊢
  by_cases k : v.h.k = 6
  ·rw [if_pos k] at h ⊢
   by_cases q : Lib.idxOfS v.ns s < 0 ∨ (v.l.length : Int) ≤ Lib.idxOfS v.ns s
   ·rw [if_pos q] at h; omega
   ·rw [if_neg q] at h ⊢; omega
  ·rw [if_neg k] at h; omega
 rw [List.getD, List.getElem?_eq_getElem h2]
 exact List.getElem_mem h2
end Go.Proofs.YtnchohglplobeaaGreat
namespace Go.Proofs.YtnchohglplobeaaGreat
open Go.RowKit
mutual
def Iv : V → Prop
 | .mk h l _ => (-9223372036854775808 ≤ h.n ∧ h.n ≤ 9223372036854775807) ∧ IvL l
def IvL : List V → Prop
 | [] => True
 | x :: l => Iv x ∧ IvL l
end
theorem ivL_iff {l : List V} : IvL l ↔ ∀ x ∈ l, Iv x := by
 induction l with
 | nil => simp [IvL]
 | cons y l ih => simp [IvL, ih]
theorem iv_v {v : V} : Iv v ↔ (-9223372036854775808 ≤ v.h.n ∧ v.h.n ≤ 9223372036854775807) ∧ ∀ x ∈ v.l, Iv x := by
 cases v; rw [Iv, ivL_iff]; rfl
theorem iv_zero : -9223372036854775808 ≤ (0 : Int) ∧ (0 : Int) ≤ 9223372036854775807 := by decide
theorem iv_flat {h : Hd} {ns : List ByteArray} (hn : -9223372036854775808 ≤ h.n ∧ h.n ≤ 9223372036854775807) : Iv (.mk h [] ns) := iv_v.2 ⟨hn, fun x hx => by cases hx⟩
end Go.Proofs.YtnchohglplobeaaGreat
namespace Go.Proofs.YtnchohglplobeaaGreat
open Go.RowKit
theorem iv_can_n (n : Nat) : ∀ v : V, dep v ≤ n → (can v).1 = 0 → Iv v → Iv (can v).2 := by
 induction n with
 | zero => intro v h; rw [dep_v] at h; omega
 | succ n ih =>
  intro v hd h hi
  obtain ⟨hn, hl⟩ := iv_v.1 hi
  have hI : (canL v.l).1 = 0 → ∀ x ∈ (canL v.l).2, Iv x := fun h0 x hx => by
   obtain ⟨h1, h2⟩ := canL_ok h0
   rw [h2] at hx
   obtain ⟨y, hy, rfl⟩ := List.mem_map.1 hx
   exact ih y (by have := dep_mem hy; rw [dep_v] at hd; omega) (h1 y hy) (hl y hy)
  rw [can_v] at h ⊢
  by_cases k1 : v.h.k = 1
  ·rw [if_pos k1]; exact iv_flat iv_zero
  rw [if_neg k1] at h ⊢
  by_cases k2 : v.h.k = 2
  ·rw [if_pos k2]; exact iv_flat hn
  rw [if_neg k2] at h ⊢
  by_cases k3 : v.h.k = 3
  ·rw [if_pos k3]; exact iv_flat iv_zero
  rw [if_neg k3] at h ⊢
  by_cases k4 : v.h.k = 4
  ·rw [if_pos k4]; exact iv_flat iv_zero
  rw [if_neg k4] at h ⊢
  by_cases k5 : v.h.k = 5
  ·rw [if_pos k5] at h ⊢
   by_cases h0 : (canL v.l).1 = 0
   ·rw [if_pos h0]
    exact iv_v.2 ⟨iv_zero, fun x hx => hI h0 x (uniq_sub hx)⟩
   ·rw [if_neg h0] at h; exact absurd h h0
  rw [if_neg k5] at h ⊢
  by_cases k6 : v.h.k = 6
  ·rw [if_pos k6] at h ⊢
   by_cases hn' : v.ns.length = v.l.length
   ·rw [if_pos hn'] at h ⊢
    by_cases h0 : (canL v.l).1 = 0
    ·rw [if_pos h0] at h ⊢
     unfold recC at h ⊢
     by_cases hd : v.ns.Nodup
     ·rw [if_pos hd]
      refine iv_v.2 ⟨iv_zero, fun x hx => ?_⟩
      obtain ⟨p, hp, rfl⟩ := List.mem_map.1 hx
      exact hI h0 _ (mem_zip_snd (uniq_sub hp))
     ·rw [if_neg hd] at h; simp at h
    ·rw [if_neg h0] at h; exact absurd h h0
   ·rw [if_neg hn'] at h; simp at h
  ·rw [if_neg k6] at h; simp at h
theorem canD_iv {v : V} (h : (canD v).1 = 0) (hi : Iv v) : Iv (canD v).2 := by
 unfold canD at h ⊢
 by_cases h2 : 50 < dptv v
 ·rw [if_pos h2] at h; simp at h
 ·rw [if_neg h2] at h ⊢
  exact iv_can_n (dep v) v (Nat.le_refl _) h hi
theorem cn_dep_n (n : Nat) : ∀ v : V, dep v ≤ n → Cn v → dep v ≤ dptv v := by
 induction n with
 | zero => intro v h; rw [dep_v] at h; omega
 | succ n ih =>
  intro v hd hc
  rw [dep_v] at hd ⊢
  have up : v.h.k = 5 ∨ v.h.k = 6 → (∀ x ∈ v.l, Cn x) → depL v.l + 1 ≤ dptv v := fun hk hx => by
   rw [dpt_v]
   unfold V.nest
   rw [if_pos hk]
   have : depL v.l ≤ dptL v.l := depL_le fun x h => by
    have h1 := ih x (by have := dep_mem h; omega) (hx x h)
    have h2 := (dptL_le (l := v.l) (n := dptL v.l)).1 (Nat.le_refl _) x h
    omega
   omega
  have no : v.l = [] → depL v.l + 1 ≤ dptv v := fun h => by
   rw [h, dpt_v]; simp [depL]
  rcases cn_v.1 hc with ⟨-, h, -⟩ | ⟨-, h, -⟩ | ⟨-, h, -⟩ | ⟨-, h, -⟩ | ⟨h, -, h2⟩ | ⟨h, -, h2⟩
  ·exact no h
  ·exact no h
  ·exact no h
  ·exact no h
  ·exact up (.inl (by rw [h])) h2
  ·exact up (.inr (by rw [h])) h2
structure VOk (v : V) : Prop where
 sm : Smv v
 iv : Iv v
 dp : dep v ≤ 1000
theorem canD_dp {v : V} (h : (canD v).1 = 0) : dep (canD v).2 ≤ 50 := by
 have hc := canD_cn h
 have h1 := cn_dep_n _ _ (Nat.le_refl _) hc
 have h2 : dptv (canD v).2 ≤ 50 := by
  unfold canD at h ⊢
  by_cases h2 : 50 < dptv v
  ·rw [if_pos h2] at h; simp at h
  ·rw [if_neg h2] at h ⊢
   rw [dpt_can h]; omega
 omega
theorem canD_vok {v : V} (h : (canD v).1 = 0) (hs : Smv v) (hi : Iv v) : VOk (canD v).2 := ⟨canD_sm h hs, canD_iv h hi, by have := canD_dp h; omega⟩
theorem vok_item {v x : V} (h : VOk v) (hx : x ∈ v.l) : VOk x := ⟨((sm_v v).1 h.sm).2.2 x hx, (iv_v.1 h.iv).2 x hx, by have := dep_mem hx; have h2 := h.dp; rw [dep_v] at h2; omega⟩
theorem vok_flat {h : Hd} (hn : -9223372036854775808 ≤ h.n ∧ h.n ≤ 9223372036854775807) : VOk (.mk h [] []) := ⟨(sm_v _).2 ⟨by simp [V.l], by simp [V.ns], fun x hx => by cases hx⟩, iv_flat hn, by rw [dep_v]; simp [V.l, depL]⟩
def VP (p : Int × V) : Prop := p.1 = 0 → VOk p.2
theorem vP_err {k : Int} {x : V} (h : k ≠ 0) : VP (k, x) := fun e => absurd e h
theorem vP_of {k : Int} {x : V} (h : VOk x) : VP (k, x) := fun _ => h
theorem vP_ite {c : Prop} [Decidable c] {a b : Int × V} (h1 : c → VP a) (h2 : ¬ c → VP b) : VP (if c then a else b) := by
 by_cases h : c
 ·rw [if_pos h]; exact h1 h
 ·rw [if_neg h]; exact h2 h
theorem vok_tru (b : Bool) : VOk (truV b) := vok_flat iv_zero
theorem vok_ref (t i : ByteArray) : VOk (refE4 t i) := vok_flat iv_zero
theorem vP_fit (n : Int) : VP (fitN n) := by
 unfold fitN
 split
 ·rename_i h; exact vP_of (vok_flat h)
 ·exact vP_err (by decide)
theorem vP_canD {v : V} (hs : Smv v) (hi : Iv v) : VP (canD v) := fun h => canD_vok h hs hi
def OkE : Nat → E → Prop
 | 0, _ => False
 | n + 1, e => ((Smv e.v ∧ Iv e.v ∧ dep e.v ≤ 1000 ∧ e.ks.length ≤ 70000 ∧ e.ns.length ≤ 70000) ∧ -9223372036854775808 ≤ e.op ∧ e.op ≤ 9223372036854775807) ∧ ∀ x ∈ e.ks, OkE n x
structure OkQ (Q : RqE) : Prop where
 c : Smv Q.c ∧ Iv Q.c ∧ dep Q.c ≤ 1000
 ent : ∀ u r, Q.ent u = some r → VOk r
theorem vok_rec {Q : RqE} (hQ : OkQ Q) {a : V} (ha : VOk a) (h : (recE Q a).1 = 0) : VOk (recE Q a).2 := by
 unfold recE at h ⊢
 split
 ·exact ha
 ·rename_i h6
  rw [if_neg h6] at h
  split
  ·rename_i h4
   rw [if_pos h4] at h
   cases e : Q.ent (usOf a) with
   | none => rw [e] at h; simp at h
   | some r => exact hQ.ent _ _ e
  ·rename_i h4
   rw [if_neg h4] at h; simp at h
theorem vP_op2 (Q : RqE) (op : Int) (a b : V) : VP (op2 Q op a b) := by
 unfold op2
 repeat' first
  | exact vP_of (vok_tru _)
  | exact vP_fit _
  | exact vP_err (by decide)
  | refine vP_ite (fun _ => ?_) (fun _ => ?_)
theorem vP_op1 {Q : RqE} (hQ : OkQ Q) (op : Int) (s : ByteArray) {a : V} (ha : VOk a) : VP (op1 Q op s a) := by
 unfold op1
 repeat' first
  | exact vP_of (vok_tru _)
  | exact vP_fit _
  | exact vP_of (vok_item (vok_rec hQ ha (by assumption)) (item_mem (by assumption)))
  | exact vP_err (by decide)
  | exact vP_err (by assumption)
  | refine vP_ite (fun _ => ?_) (fun _ => ?_)
  | split
theorem vP_var {Q : RqE} (hQ : OkQ Q) (s : ByteArray) : VP (varS Q s) := by
 unfold varS
 repeat' first
  | exact vP_of (vok_ref _ _)
  | exact vP_canD hQ.c.1 hQ.c.2.1
  | exact vP_err (by decide)
  | refine vP_ite (fun _ => ?_) (fun _ => ?_)
theorem vP_tru {p : Int × V} {k : Bool → Int × V} (h : ∀ b, VP (k b)) : VP (truS p k) := by
 unfold truS
 split
 ·split
  ·exact h _
  ·exact vP_err (by decide)
 ·rename_i h1; exact vP_err h1
theorem vP_then {p : Int × V} {k : V → Int × V} (hp : VP p) (h : ∀ x, VOk x → VP (k x)) : VP (thenS p k) := by
 unfold thenS
 split
 ·rename_i h1; exact h _ (hp h1)
 ·rename_i h1; exact vP_err h1
theorem vP_evM {Q : RqE} (hQ : OkQ Q) {f : E → Int × V} {op : Int} {nm : ByteArray} {ks : List E} (hf : ∀ x ∈ ks, VP (f x)) : VP (evM Q f op nm ks) := by
 match ks, hf with
 | [], _ => exact vP_err (by decide)
 | [a], hf => exact vP_then (hf a (by simp)) fun x hx => vP_op1 hQ op nm hx
 | [a, b], hf =>
  simp only [evM]
  split
  ·exact vP_tru fun x => by
    split
    ·exact vP_of (vok_tru _)
    ·exact vP_tru fun y => vP_of (vok_tru _)
  split
  ·exact vP_tru fun x => by
    split
    ·exact vP_of (vok_tru _)
    ·exact vP_tru fun y => vP_of (vok_tru _)
  ·exact vP_then (hf a (by simp)) fun x hx => vP_then (hf b (by simp)) fun y hy => vP_op2 Q op x y
 | [a, b, c], hf =>
  simp only [evM]
  exact vP_tru fun x => by
   split
   ·exact hf b (by simp)
   ·exact hf c (by simp)
 | a :: b :: c :: d :: l, _ => exact vP_err (by decide)
theorem evL_ok {f : E → Int × V} : ∀ {l : List E}, (∀ x ∈ l, VP (f x)) → (evL f l).1 = 0 → (evL f l).2.length = l.length ∧ ∀ y ∈ (evL f l).2, VOk y
 | [], _, _ => ⟨rfl, fun y hy => by cases hy⟩
 | x :: l, h, h0 => by
  rw [evL] at h0 ⊢
  by_cases h1 : (f x).1 = 0
  ·rw [if_pos h1] at h0 ⊢
   by_cases h2 : (evL f l).1 = 0
   ·rw [if_pos h2]
    obtain ⟨h3, h4⟩ := evL_ok (fun y hy => h y (by simp [hy])) h2
    refine ⟨by simp [h3], fun y hy => ?_⟩
    rcases List.mem_cons.1 hy with rfl | hy
    ·exact h x (by simp) h1
    ·exact h4 y hy
   ·rw [if_neg h2] at h0; exact absurd h0 h2
  ·rw [if_neg h1] at h0; exact absurd h0 h1
theorem smv_of {k : Int} {l : List V} {ns : List ByteArray} (h : l.length ≤ 70000) (hn : ns.length ≤ 70000) (hl : ∀ y ∈ l, VOk y) : Smv (.mk { hd0 with k := k } l ns) ∧ Iv (.mk { hd0 with k := k } l ns) ∧ dep (.mk { hd0 with k := k } l ns) ≤ 1001 :=
 ⟨(sm_v _).2 ⟨h, hn, fun x hx => (hl x hx).sm⟩, iv_v.2 ⟨iv_zero, fun x hx => (hl x hx).iv⟩, by rw [dep_v]; have := depL_le (l := l) (n := 1000) fun x hx => (hl x hx).dp; simp only [V.l]; omega⟩
theorem vP_evS {Q : RqE} (hQ : OkQ Q) : ∀ (n : Nat) (e : E), OkE n e → VP (evS Q n e)
 | 0, _, h => h.elim
 | n + 1, e, h => by
  rw [evS]
  split
  ·exact vP_err (by decide)
  obtain ⟨⟨⟨h1, h2, h3, h4, h5⟩, -, -⟩, hk⟩ := h
  have hf : ∀ x ∈ e.ks, VP (evS Q n x) := fun x hx => vP_evS hQ n x (hk x hx)
  have hL := evL_ok hf
  unfold evK thenL
  repeat' first
   | exact vP_canD h1 h2
   | exact vP_var hQ _
   | exact vP_evM hQ hf
   | exact vP_err (by decide)
   | exact vP_err (by assumption)
   | (have hq := hL (by assumption); have hz := smv_of (k := 5) (l := (evL (evS Q n) e.ks).2) (ns := []) (by rw [hq.1]; exact h4) (by simp) hq.2; exact vP_canD hz.1 hz.2.1)
   | (have hq := hL (by assumption); have hz := smv_of (k := 6) (l := (evL (evS Q n) e.ks).2) (ns := e.ns) (by rw [hq.1]; exact h4) h5 hq.2; exact vP_canD hz.1 hz.2.1)
   | refine vP_ite (fun _ => ?_) (fun _ => ?_)
theorem OkE.up : ∀ {n m : Nat} {e : E}, n ≤ m → OkE n e → OkE m e
 | 0, _, _, _, h => h.elim
 | n + 1, 0, _, hm, _ => absurd hm (by omega)
 | n + 1, m + 1, e, hm, h => ⟨h.1, fun x hx => OkE.up (by omega) (h.2 x hx)⟩
end Go.Proofs.YtnchohglplobeaaGreat
namespace Go.Proofs.YtnchohglplobeaaGreat
open Go.RowKit Go.Sort
abbrev av8 (h : Hd) (ai : Option Addr) (l ci : Nat) (an : Option Addr) (n cn : Nat) : Value := .agg #[.int .i64 h.k, .bool h.b, .int .i64 h.n, .string h.s, .string h.t, .string h.i, .slice ai l ci, .slice an n cn]
theorem rep_flat {A : Nat → Prop} {w : World} {h : Hd} (hb : Bh h) : Rep A w (.mk h [] []) (.slice none 0 0) (.slice none 0 0) := by
 refine rep_v.2 ⟨hb, ⟨none, 0, rfl, by simp [V.ns], by simp [V.ns], .inl rfl⟩, ⟨none, 0, rfl, by simp [V.l], .inl rfl⟩⟩
theorem bh_zero {k n : Int} {b : Bool} : Bh ⟨k, b, n, ⟨#[]⟩, ⟨#[]⟩, ⟨#[]⟩⟩ := by
 refine ⟨?_, ?_, ?_⟩ <;> exact Nat.zero_le _
abbrev trV (b : Bool) : Value := .agg #[.int .i64 1, .bool b, .int .i64 0, .string ⟨#[]⟩, .string ⟨#[]⟩, .string ⟨#[]⟩, .slice none 0 0, .slice none 0 0]
abbrev nuV (n : Int) : Value := .agg #[.int .i64 2, .bool false, .int .i64 n, .string ⟨#[]⟩, .string ⟨#[]⟩, .string ⟨#[]⟩, .slice none 0 0, .slice none 0 0]
abbrev reV (t i : ByteArray) : Value := .agg #[.int .i64 4, .bool false, .int .i64 0, .string ⟨#[]⟩, .string t, .string i, .slice none 0 0, .slice none 0 0]
abbrev zeV : Value := .agg #[.int .i64 0, .bool false, .int .i64 0, .string ⟨#[]⟩, .string ⟨#[]⟩, .string ⟨#[]⟩, .slice none 0 0, .slice none 0 0]
theorem truth_c (b : Bool) (w : World) : Calls Tryz.prog 53 #[.bool b] w fun e w' => e = .returned (trV b) ∧ Gr w w' := by
 go_enter Tryz.func53, Tryz.ntmps53
 go_wp2_with fail
 refine bodyPost_ret (v := trV b) (by simp [results, Tryz.results53, go_sem]; try rfl) rfl ?_
 exact ⟨rfl, Gr.alloc (Gr.refl w) _⟩
theorem ref_c (t i : ByteArray) (w : World) : Calls Tryz.prog 97 #[.agg #[.string t, .string i]] w fun e w' => e = .returned (reV t i) ∧ Gr w w' := by
 go_enter Tryz.func97, Tryz.ntmps97
 go_wp2_with fail
 refine bodyPost_ret (v := reV t i) (by simp [results, Tryz.results97, go_sem]; try rfl) rfl ?_
 exact ⟨rfl, Gr.alloc (Gr.alloc (Gr.refl w) _) _⟩
theorem number0_c (n : Int) (w : World) : Calls Tryz.prog 56 #[.int .i64 n, .int .i64 0] w fun e w' => e = .returned (.tuple #[nuV n, .int .i64 0]) ∧ Gr w w' := by
 go_enter Tryz.func56, Tryz.ntmps56
 go_wp2_with fail
 refine bodyPost_ret (v := .tuple #[nuV n, .int .i64 0]) (by simp [results, Tryz.results56, go_sem]; try rfl) rfl ?_
 exact ⟨rfl, Gr.alloc (Gr.refl w) _⟩
theorem number14_c (n : Int) (w : World) : Calls Tryz.prog 56 #[.int .i64 n, .int .i64 14] w fun e w' => e = .returned (.tuple #[zeV, .int .i64 14]) ∧ Gr w w' := by
 go_enter Tryz.func56, Tryz.ntmps56
 go_wp2_with fail
 refine bodyPost_ret (v := .tuple #[zeV, .int .i64 14]) (by simp [results, Tryz.results56, go_sem]; try rfl) rfl ?_
 exact ⟨rfl, Gr.alloc (Gr.refl w) _⟩
end Go.Proofs.YtnchohglplobeaaGreat
