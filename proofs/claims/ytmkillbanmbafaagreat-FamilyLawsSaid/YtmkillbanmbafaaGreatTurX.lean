/- Plain: a list of entities turned round, with their parents turned round. No condition. The reference's Whole says yes of lists of entities that are the same. No condition. Entities as they must be stay so; the order of a list, and of parents, doesn't matter. No condition. -/
import Derived.Test.YtmkillbanmbafaaGreatEnts
import Derived.Test.YtmkillbanmbafaaGreatLawX
import Derived.Test.YtmkillbanmbafaaGreatFews
import Derived.Test.YtmkillbanmbafaaGreatWhos
import Derived.Test.YtmkillbanmbafaaGreatAwaG
import Derived.Test.YtmkillbanmbafaaGreatOwnS
namespace Go.Proofs.YtmkillbanmbafaaGreat
def rvE (e : En) : En := ⟨e.u, e.ps.reverse, e.a⟩
def rvL (l : List En) : List En := l.reverse.map rvE
theorem rvE_rvE (e : En) : rvE (rvE e) = e := by unfold rvE; simp
theorem rvL_rvL (l : List En) : rvL (rvL l) = l := by
  unfold rvL
  rw [← List.map_reverse, List.reverse_reverse, List.map_map]
  have : rvE ∘ rvE = id := funext rvE_rvE
  rw [this, List.map_id]
theorem rvL_len (l : List En) : (rvL l).length = l.length := by simp [rvL]
theorem mem_rvL {l : List En} {d : En} : d ∈ rvL l ↔ ∃ e ∈ l, d = rvE e := by
  unfold rvL
  simp only [List.mem_map, List.mem_reverse]
  exact ⟨fun ⟨e, h, k⟩ => ⟨e, h, k.symm⟩, fun ⟨e, h, k⟩ => ⟨e, h, k.symm⟩⟩
theorem sim_rv (l : List En) : Sim l (rvL l) where
  u := by
    have : namesE (rvL l) = (namesE l).reverse := by unfold namesE rvL; rw [List.map_map, ← List.map_reverse]; rfl
    rw [this]
    exact (List.reverse_perm _).symm
  fw := fun e he => ⟨rvE e, mem_rvL.2 ⟨e, he, rfl⟩, rfl, rfl, fun z => by simp [rvE]⟩
  bw := fun d hd => by
    obtain ⟨e, he, rfl⟩ := mem_rvL.1 hd
    exact ⟨e, he, rfl, rfl, fun z => by simp [rvE]⟩
/-- One step of turning round. -/
theorem rvL_step {l : List En} {i : Nat} (hi : i < l.length) : rvL (l.drop i) = rvL (l.drop (i + 1)) ++ [rvE l[i]] := by
  unfold rvL
  rw [List.drop_eq_getElem_cons hi, List.reverse_cons, List.map_append]
  rfl
theorem rv_ps_step {l : List Us} {i : Nat} (hi : i < l.length) : (l.drop i).reverse = (l.drop (i + 1)).reverse ++ [l[i]] := by
  rw [List.drop_eq_getElem_cons hi, List.reverse_cons]
end Go.Proofs.YtmkillbanmbafaaGreat
namespace Go.Proofs.YtmkillbanmbafaaGreat
open Go.RowKit Go.Sort
theorem ent_cells {w : World} {b o : Nat} {u : Us} {ps : List Us} {v : V} {ap ai an : Option Addr} {cp ci cn : Nat} (h : CellsAt w b o (Ee.mk ⟨u, ps, v⟩ ap cp ai ci an cn).sh.cs) :
    w.cell? ⟨b, o, none⟩ = some (.string u.t) ∧ w.cell? ⟨b, o + 1, none⟩ = some (.string u.i) ∧ w.cell? ⟨b, o + 2, none⟩ = some (.slice ap ps.length cp) ∧ w.cell? ⟨b, o + 3, none⟩ = some (.int .i64 v.h.k) ∧
    w.cell? ⟨b, o + 4, none⟩ = some (.bool v.h.b) ∧ w.cell? ⟨b, o + 5, none⟩ = some (.int .i64 v.h.n) ∧ w.cell? ⟨b, o + 6, none⟩ = some (.string v.h.s) ∧ w.cell? ⟨b, o + 7, none⟩ = some (.string v.h.t) ∧
    w.cell? ⟨b, o + 8, none⟩ = some (.string v.h.i) ∧ w.cell? ⟨b, o + 9, none⟩ = some (.slice ai v.l.length ci) ∧ w.cell? ⟨b, o + 10, none⟩ = some (.slice an v.ns.length cn) := cells11 h
set_option maxHeartbeats 4000000 in
set_option maxRecDepth 100000 in
theorem wholeE_c (xs ys : List Ee) (w : World) (ra rb : Value) (hA : EtAt w ra xs) (hB : EtAt w rb ys) (heq : ensOf xs = ensOf ys) : Calls Tryz.prog 14 #[ra, rb] w fun e w' => e = .returned (.bool true) ∧ Gr w w' := by
  have hlen : ys.length = xs.length := by have := congrArg List.length heq; simpa [ensOf] using this.symm
  have hel : ∀ j (h1 : j < xs.length) (h2 : j < ys.length), ys[j].e = xs[j].e := fun j h1 h2 => by
    have h3 : (ensOf xs)[j]? = (ensOf ys)[j]? := by rw [heq]
    unfold ensOf at h3
    simp [h1, h2] at h3
    exact h3.symm
  obtain ⟨ao, c, rfl, ⟨hlc, hc9⟩, hx⟩ := hA.at
  obtain ⟨bo, d, rfl, ⟨hld, hd9⟩, hy⟩ := hB.at
  rw [hlen] at hld ⊢
  have HX := Lib.hid hx
  have HY := Lib.hid hy
  have OA := Lib.hid hA.2
  have OB := Lib.hid hB.2
  have HEL := Lib.hid hel
  have HLN := Lib.hid hlen
  clear hx hy hA hB hel hlen heq
  obtain ⟨N, hN⟩ : ∃ N, N = xs.length := ⟨_, rfl⟩
  rw [← hN] at hlc hld ⊢
  have HN := Lib.hid hN
  clear hN
  go_enter Tryz.func14, Tryz.ntmps14
  go_wp2_with fail
  go_loopg [5] N (fun gk vi wr => ∃ j : Nat, vi = .int .i64 (j : Int) ∧ j ≤ N ∧ N - j ≤ gk ∧ Hid (Gr w wr))
  case atStart => exact ⟨0, rfl, Nat.zero_le _, Nat.le_refl _, Lib.hid (Gr.refl _)⟩
  case round =>
    obtain ⟨j, rfl, hj, hg, G⟩ := hrel
    by_cases hlt : j < N
    · have zl : (j : Int) < (N : Int) := by omega
      have h1 : j < xs.length := by rw [← HN.out]; exact hlt
      have h2 : j < ys.length := by rw [HLN.out]; exact h1
      obtain ⟨b, o, rfl, hcs⟩ := HX.out j h1
      obtain ⟨b', o', rfl, hcs'⟩ := HY.out j h2
      have q1 := OA.out xs[j] (List.getElem_mem h1)
      have q2 := OB.out ys[j] (List.getElem_mem h2)
      have hee := HEL.out j h1 h2
      obtain ⟨q, hq⟩ : ∃ q, xs[j] = q := ⟨_, rfl⟩
      obtain ⟨q', hq'⟩ : ∃ q, ys[j] = q := ⟨_, rfl⟩
      rw [hq] at hcs q1 hee
      rw [hq'] at hcs' q2 hee
      obtain ⟨⟨u, ps, v⟩, ap, cp, ai, ci, an, cn⟩ := q
      obtain ⟨⟨u', ps', v'⟩, ap', cp', ai', ci', an', cn'⟩ := q'
      simp only [En.mk.injEq] at hee
      obtain ⟨rfl, rfl, rfl⟩ := hee
      obtain ⟨e0, e1, e2, e3, e4, e5, e6, e7, e8, e9, e10⟩ := ent_cells (G.out.low.cells hcs)
      obtain ⟨d0, d1, d2, d3, d4, d5, d6, d7, d8, d9, d10⟩ := ent_cells (G.out.low.cells hcs')
      obtain ⟨ap1, cp1, hv1, ⟨hp1, hp2⟩, hx1⟩ := q1.1.any
      obtain ⟨ap2, cp2, hv2, ⟨hp3, hp4⟩, hx2⟩ := q2.1.any
      change Value.slice ap ps'.length cp = _ at hv1
      change Value.slice ap' ps'.length cp' = _ at hv2
      simp only [Value.slice.injEq] at hv1 hv2
      obtain ⟨rfl, -, rfl⟩ := hv1
      obtain ⟨rfl, -, rfl⟩ := hv2
      have U1 := Lib.hid hx1
      have U2 := Lib.hid hx2
      have HC1 := Lib.hid hcs
      have HC2 := Lib.hid hcs'
      clear hx1 hx2
      have hcon := whole_c v' v'
      unfold WhC at hcon
      rw [← eqB_true (rfl : v' = v')] at hcon
      unfold av at hcon
      have HC := Lib.hid hcon
      have R1 := Lib.hid (show R wr v' (.slice ai v'.l.length ci) (.slice an v'.ns.length cn) from q1.2.low G.out.low)
      have R2 := Lib.hid (show R wr v' (.slice ai' v'.l.length ci') (.slice an' v'.ns.length cn') from q2.2.low G.out.low)
      have G1 := Lib.hid G.out.drew
      clear hcon hcs hcs' q1 q2 hq hq'
      go_wp2_with fail
      go_region_held3 (fun w' => w'.cell? ⟨b, o + j * 11 + 3, none⟩ = some (.int .i64 v'.h.k) ∧ w'.cell? ⟨b, o + j * 11 + 4, none⟩ = some (.bool v'.h.b) ∧ w'.cell? ⟨b, o + j * 11 + 5, none⟩ = some (.int .i64 v'.h.n) ∧ w'.cell? ⟨b, o + j * 11 + 6, none⟩ = some (.string v'.h.s) ∧ w'.cell? ⟨b, o + j * 11 + 7, none⟩ = some (.string v'.h.t) ∧ w'.cell? ⟨b, o + j * 11 + 8, none⟩ = some (.string v'.h.i) ∧ w'.cell? ⟨b, o + j * 11 + 9, none⟩ = some (.slice ai v'.l.length ci) ∧ w'.cell? ⟨b, o + j * 11 + 10, none⟩ = some (.slice an v'.ns.length cn) ∧ w'.cell? ⟨b', o' + j * 11 + 3, none⟩ = some (.int .i64 v'.h.k) ∧ w'.cell? ⟨b', o' + j * 11 + 4, none⟩ = some (.bool v'.h.b) ∧ w'.cell? ⟨b', o' + j * 11 + 5, none⟩ = some (.int .i64 v'.h.n) ∧ w'.cell? ⟨b', o' + j * 11 + 6, none⟩ = some (.string v'.h.s) ∧ w'.cell? ⟨b', o' + j * 11 + 7, none⟩ = some (.string v'.h.t) ∧ w'.cell? ⟨b', o' + j * 11 + 8, none⟩ = some (.string v'.h.i) ∧ w'.cell? ⟨b', o' + j * 11 + 9, none⟩ = some (.slice ai' v'.l.length ci') ∧ w'.cell? ⟨b', o' + j * 11 + 10, none⟩ = some (.slice an' v'.ns.length cn')) (go_keep) (first
        | (go_at_call 27; refine (HC.out _ _ _ _ _ (R1.out.low (Gr.refl _).drew.low) (R2.out.low (Gr.refl _).drew.low)).mono ?_; rintro e w1 ⟨rfl, g⟩; have e0 := g.cell e0; have d0 := g.cell d0; have e1 := g.cell e1; have d1 := g.cell d1; have e2 := g.cell e2; have d2 := g.cell d2; have e3 := g.cell e3; have d3 := g.cell d3; have e4 := g.cell e4; have d4 := g.cell d4; have e5 := g.cell e5; have d5 := g.cell d5; have e6 := g.cell e6; have d6 := g.cell d6; have e7 := g.cell e7; have d7 := g.cell d7; have e8 := g.cell e8; have d8 := g.cell d8; have e9 := g.cell e9; have d9 := g.cell d9; have e10 := g.cell e10; have d10 := g.cell d10; have G2 := Lib.hid (G1.out.trans g)))
      go_wp2_with fail
      go_quiet (fail)
      have G3 := Lib.hid (G2.out.drewN nq)
      obtain ⟨W3, hW3⟩ : ∃ W, W = w1.drewN nq := ⟨_, rfl⟩
      rw [← hW3] at G3 ⊢
      clear hW3 e0 d0 e1 d1 e2 d2 e3 d3 e4 d4 e5 d5 e6 d6 e7 d7 e8 d8 e9 d9 e10 d10
      go_wp2_with fail
      go_loopg [7] ps'.length (fun gj vj wi => ∃ x : Nat, vj = .int .i64 (x : Int) ∧ x ≤ ps'.length ∧ ps'.length - x ≤ gj ∧ Hid (Gr w wi))
      case atStart => exact ⟨0, rfl, Nat.zero_le _, Nat.le_refl _, G3⟩
      case round =>
        obtain ⟨x, rfl, hx, hgx, GI⟩ := hrel
        obtain ⟨e0, e1, e2, e3, e4, e5, e6, e7, e8, e9, e10⟩ := ent_cells (GI.out.low.cells HC1.out)
        obtain ⟨d0, d1, d2, d3, d4, d5, d6, d7, d8, d9, d10⟩ := ent_cells (GI.out.low.cells HC2.out)
        by_cases hlx : x < ps'.length
        · have zx : (x : Int) < (ps'.length : Int) := by omega
          obtain ⟨b1, o1, rfl, hk1⟩ := U1.out x hlx
          obtain ⟨b2, o2, rfl, hk2⟩ := U2.out x hlx
          obtain ⟨a0, a1⟩ := cells2 (GI.out.low.cells hk1)
          obtain ⟨c0, c1⟩ := cells2 (GI.out.low.cells hk2)
          clear hk1 hk2
          go_wp2_with fail
          go_quiet (fail)
          have G4 := Lib.hid (GI.out.drewN nq)
          clear e0 d0 e1 d1 e2 d2 e3 d3 e4 d4 e5 d5 e6 d6 e7 d7 e8 d8 e9 d9 e10 d10 a0 a1 c0 c1
          go_wp2_with fail
          go_roundg (ps'.length - (x + 1))
          case measure => omega
          case rel => exact ⟨x + 1, by go_num, by omega, by omega, G4⟩
        · have zx : ¬ (x : Int) < (ps'.length : Int) := by omega
          go_wp2_with fail
          go_roundg (N - (j + 1))
          case measure => omega
          case rel => exact ⟨j + 1, by go_num, by omega, by omega, GI⟩
    · have zl : ¬ (j : Int) < (N : Int) := by omega
      go_wp2_with fail
      go_ret
      exact ⟨rfl, G.out⟩
end Go.Proofs.YtmkillbanmbafaaGreat
namespace Go.Proofs.YtmkillbanmbafaaGreat
open Go.RowKit Go.Sort
theorem few_sm {l : List En} (h1 : l.length ≤ 20) (h2 : ∀ e ∈ l, SmE e) : FewE l := ⟨by omega, fun e he => by have := (h2 e he).2.2; omega⟩
theorem recC_k {ns : List ByteArray} {m : List V} (h : (recC ns m).1 = 0) : (recC ns m).2.h.k = 6 := by
  unfold recC at h ⊢
  by_cases h1 : ns.Nodup
  · rw [if_pos h1]; rfl
  · rw [if_neg h1] at h; simp at h
theorem canD_k6 {v : V} (h : (canD v).1 = 0) (hk : v.h.k = 6) : (canD v).2.h.k = 6 := by
  have e := (canD_ok h).1
  rw [e] at h ⊢
  have hv := can_v v
  rw [hk] at hv
  simp only [show ¬ ((6 : Int) = 1) by decide, show ¬ ((6 : Int) = 2) by decide, show ¬ ((6 : Int) = 3) by decide, show ¬ ((6 : Int) = 4) by decide, show ¬ ((6 : Int) = 5) by decide, if_false, if_true] at hv
  rw [hv] at h ⊢
  by_cases h1 : v.ns.length = v.l.length
  · rw [if_pos h1] at h ⊢
    by_cases h2 : (canL v.l).1 = 0
    · rw [if_pos h2] at h ⊢
      exact recC_k h
    · rw [if_neg h2] at h; exact absurd h h2
  · rw [if_neg h1] at h; simp at h
theorem canE_few {l : List En} (h : (canE canD l).1 = 0) (h20 : l.length ≤ 20) (hs : ∀ e ∈ l, Sm e.a ∧ e.ps.length ≤ 20) : (canE canD l).2.length ≤ 20 ∧ ∀ z ∈ (canE canD l).2, Sm z.a ∧ z.ps.length ≤ 20 := by
  obtain ⟨-, hn, he, -⟩ := canE_ok.1 h
  rw [canE_val h]
  have hn' : (namesE (l.map (oneE canD))).Nodup := by rw [names_one]; exact hn
  refine ⟨by have := uniq_len (c := cmpE) (l.map (oneE canD)); rw [List.length_map] at this; show (uniq cmpE _).length ≤ 20; omega, fun z hz => ?_⟩
  obtain ⟨e, hm, rfl⟩ := List.mem_map.1 ((mem_en hn').1 hz)
  have h0 := he e hm
  unfold errE at h0
  by_cases k1 : e.a.h.k ≠ 6
  · rw [if_pos k1] at h0; exact absurd h0 (by decide)
  · rw [if_neg k1] at h0
    by_cases k2 : (canD e.a).1 ≠ 0
    · rw [if_pos k2] at h0; exact absurd h0 k2
    · refine ⟨canD_sm (by omega) (hs e hm).1, ?_⟩
      have := uniq_len (c := cmpUs) e.ps
      have h2 := (hs e hm).2
      show (uniq cmpUs e.ps).length ≤ 20
      omega
end Go.Proofs.YtmkillbanmbafaaGreat
