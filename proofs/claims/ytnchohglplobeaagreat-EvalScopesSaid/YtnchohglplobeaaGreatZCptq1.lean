/- Of names in a row that are the same, the first of each run: what slices.Compact leaves; slices.Clone of names. Condition: not too many. -/
import Derived.Test.YtnchohglplobeaaGreatZg40
set_option linter.unusedVariables false
set_option linter.unusedSimpArgs false
set_option linter.unnecessarySimpa false
namespace Go.Proofs.YtnchohglplobeaaGreat
open Go.RowKit Go.Sort
theorem flat_set2 (q : Us) : ∀ (l : List Us) (k : Nat), k < l.length → ((l.flatMap Us.cs).set (k * 2) (.string q.t)).set (k * 2 + 1) (.string q.i) = (l.set k q).flatMap Us.cs
 | [], k, h => by simp at h
 | x :: l, 0, _ => by simp [Us.cs]
 | x :: l, k + 1, h => by
  have ih := flat_set2 q l k (by simpa using h)
  rw [List.set_cons_succ, List.flatMap_cons, List.flatMap_cons, ← ih]
  have e : ∀ c (m : List Value) (u : Value), (Us.cs x ++ m).set ((k + 1) * 2 + c) u = Us.cs x ++ m.set (k * 2 + c) u := fun c m u => by
   rw [List.set_append_right _ _ (by rw [encU_len]; omega), encU_len, show (k + 1) * 2 + c - 2 = k * 2 + c by omega]
  have e0 := e 0
  simp only [Nat.add_zero] at e0
  rw [e0, e 1]
theorem stored2 {B : Nat} {w : World} {g cap n : Nat} {cs : List Us} {k : Nat} (q : Us) (h : OwnU B w (.slice (some ⟨g, 0, none⟩) n cap) cs) (hk : k < cs.length) (hn : n = cs.length) :
  OwnU B ((w.setCell ⟨g, k * 2, none⟩ (.string q.t)).setCell ⟨g, k * 2 + 1, none⟩ (.string q.i)) (.slice (some ⟨g, 0, none⟩) n cap) (cs.set k q) ∧ KeptButv w ((w.setCell ⟨g, k * 2, none⟩ (.string q.t)).setCell ⟨g, k * 2 + 1, none⟩ (.string q.i)) (some g) := by
 subst hn
 refine ⟨?_, (kept_setCellv _ _ _ _).trans (kept_setCellv _ _ _ _)⟩
 unfold OwnU OwnR at *
 rw [← flat_set2 q cs k hk, List.length_set]
 have h0 := (World.ownsRow.stored h (k * 2) (.string q.t)).1
 exact (World.ownsRow.stored h0 (k * 2 + 1) (.string q.i)).1
def zerosU (n : Nat) : List Value := (Builtin.zeroCells #[.string ⟨#[]⟩, .string ⟨#[]⟩] n).toList
theorem zerosU_len (n : Nat) : (zerosU n).length = n * 2 := by simp [zerosU, size_zeroCells]
theorem zerosU_one (n : Nat) : ∀ v ∈ zerosU n, v.oneCell' = true := by
 intro v hv
 simp only [zerosU, Builtin.zeroCells] at hv
 simp only [Array.toList_map, List.mem_map] at hv
 obtain ⟨t, _, rfl⟩ := hv
 have hm : t % 2 < 2 := Nat.mod_lt _ (by decide)
 show (_ : Value).oneCell' = true
 have : ∀ c, c < 2 → ((#[.string ⟨#[]⟩, .string ⟨#[]⟩] : Array Value)[c]!).oneCell' = true := by
  intro c hc
  match c, hc with
  | 0, _ => rfl
  | 1, _ => rfl
 exact this _ hm
theorem run_clearU (w : World) (g o n c : Nat) (ty : TypeId) (hn : 0 < n) (hc : ∀ j, j < n * 2 → (w.cell? ⟨g, o + j, none⟩).isSome = true) (hf : ∀ j, j < n * 2 → w.frozen? ⟨g, o + j, none⟩ = false) :
  (Builtin.clear_ #[48] ty #[.slice (some ⟨g, o, none⟩) n c]).run Tryz.prog w = .ok (.tuple #[]) (w.setCells g o (zerosU n)) := by
 have hst := run_storeCells_cells (P := Tryz.prog) g o (zerosU n) 0 w (by rw [zerosU_len]; simpa using hc) (by rw [zerosU_len]; simpa using hf) (zerosU_one n)
 simp only [Nat.add_zero] at hst
 obtain ⟨m, rfl⟩ : ∃ m, n = m + 1 := ⟨n - 1, by omega⟩
 unfold zerosU at hst
 simp [Builtin.clear_, run_underlying Tryz.underlying48, Tryz.zeroValue23, hst, zerosU, Value.cells]
theorem ownU_cells {B : Nat} {w : World} {g cap n : Nat} {l : List Us} (h : OwnU B w (.slice (some ⟨g, 0, none⟩) n cap) l) {j : Nat} (hj : j < l.length) : w.cell? ⟨g, j * 2, none⟩ = some (.string l[j].t) ∧ w.cell? ⟨g, j * 2 + 1, none⟩ = some (.string l[j].i) :=
 ⟨OwnR.cell encU_len h j 0 hj (by decide), OwnR.cell encU_len h j 1 hj (by decide)⟩
theorem row_prefixU {A : Nat → Prop} {B : Nat} {w w' : World} {g cap n k : Nat} {cs : List Us} (h : OwnU B w (.slice (some ⟨g, 0, none⟩) n cap) cs) (hk : k ≤ cs.length) (hg : A g) (hn : n ≤ cap) (hcap : cap ≤ 9223372036854775807) (hcn : cs.length = n)
  (hc : ∀ j, j < k * 2 → w'.cell? ⟨g, j, none⟩ = w.cell? ⟨g, j, none⟩) : UsIn A w' (.slice (some ⟨g, 0, none⟩) k cap) (cs.take k) := by
 have hl : (cs.take k).length = k := by rw [List.length_take, Nat.min_eq_left hk]
 refine ⟨some ⟨g, 0, none⟩, cap, by rw [hl], ⟨by omega, hcap⟩, fun j hj => ⟨g, 0, rfl, hg, fun c u hu => ?_⟩⟩
 have hjk : j < k := by omega
 have hj' : j < cs.length := by omega
 have hc2 : c < 2 := by have := (List.getElem?_eq_some_iff.1 hu).1; simpa [Us.cs] using this
 rw [Nat.zero_add, hc (j * 2 + c) (by omega), OwnR.cell encU_len h j c hj' hc2]
 rw [List.getElem_take] at hu
 exact hu
theorem setCells_out (g x : Nat) : ∀ (vs : List Value) (o : Nat) (w : World), x < o → (w.setCells g o vs).cell? ⟨g, x, none⟩ = w.cell? ⟨g, x, none⟩
 | [], _, _, _ => rfl
 | v :: r, o, w, h => by
  rw [World.setCells, setCells_out g x r (o + 1) _ (by omega)]
  exact World.cell?_setCell_other _ _ _ _ (by intro e; injection e with _ e; omega)
def CptP (A : Nat → Prop) (r : Option Nat) (l : List Us) (w : World) (e : Ending) (w' : World) : Prop := ∃ v, e = .returned v ∧ UsIn A w' v l ∧ KeptButv w w' r
set_option maxHeartbeats 4000000 in
theorem cpt_some (A : Nat → Prop) (B g cap : Nat) (hA : A g) (ps : List Us) (w : World) (O : OwnU B w (.slice (some ⟨g, 0, none⟩) ps.length cap) ps) (hn : ps.length ≤ 70000) :
  Calls Tryz.prog 82 #[.slice (some ⟨g, 0, none⟩) ps.length cap] w (CptP A (some g) (dd cmpUs ps) w) := by
 obtain ⟨_, _, hv, hc1, hc2, -⟩ := O.shape
 simp only [Value.slice.injEq] at hv
 obtain ⟨-, -, rfl⟩ := hv
 have hgB : B ≤ g := ((World.ownsRow.lt O) g rfl).1
 have HA := Lib.hid hA
 have HO := Lib.hid O
 clear O hA
 by_cases h2 : ps.length < 2
 ·have z2 : (ps.length : Int) < 2 := by omega
  have hd : dd cmpUs ps = ps := by
   have := dd_one cmpUs (l := ps)
   rcases Nat.lt_or_ge ps.length 1 with h | h
   ·rw [List.eq_nil_of_length_eq_zero (show ps.length = 0 by omega)]; rfl
   ·have h1 := this h
    rwa [List.take_of_length_le (by omega)] at h1
  rw [hd]
  have HR := Lib.hid (show UsIn A w (.slice (some ⟨g, 0, none⟩) ps.length cap) ps from HO.out.usIn fun x hx => by simp [Value.ownBlock] at hx; subst hx; exact HA.out)
  clear hd
  go_enter Tryz.func82, Tryz.ntmps82
  go_wp2_with fail
  go_ret
  exact ⟨_, rfl, HR.out, KeptButv.refl _ _⟩
 ·have z2 : ¬ (ps.length : Int) < 2 := by omega
  obtain ⟨r, hr⟩ : ∃ r, r = dd cmpUs ps := ⟨_, rfl⟩
  rw [← hr]
  have HRR := Lib.hid hr
  clear hr
  generalize hnn : ps.length = n at *
  go_enter Tryz.func82, Tryz.ntmps82
  go_wp2_with fail
  go_loopg [3] n (fun gk vi wr => ∃ i : Nat, vi = .int .i64 ((i : Int) + 1) ∧ i + 1 ≤ n ∧ n - i ≤ gk ∧ Hid (Low w wr) ∧ Hid (dd cmpUs (ps.take (i + 1)) = ps.take (i + 1)))
  case atStart => exact ⟨0, rfl, by omega, by omega, Lib.hid (Low.refl _), Lib.hid (dd_one cmpUs (by omega))⟩
  case round =>
   obtain ⟨i, rfl, hi, hg, G, K⟩ := hrel
   have OW := Lib.hid (show OwnU B wr (.slice (some ⟨g, 0, none⟩) n cap) ps from HO.out.low G.out)
   by_cases hlt : i + 1 < n
   ·have z1 : (i : Int) + 1 < (n : Int) := by omega
    have z3 : (i : Int) < (n : Int) := by omega
    have z4 : (0 : Int) ≤ (i : Int) + 1 := by omega
    have z5 : ((i : Int) + 1).toNat = i + 1 := by omega
    have z6 : IntKind.i64.wrap (i : Int) = (i : Int) := by rw [IntKind.wrap_i64]; omega
    have hp1 : i + 1 < ps.length := by omega
    have hp2 : i < ps.length := by omega
    obtain ⟨p, hp⟩ : ∃ p, p = ps[i + 1] := ⟨_, rfl⟩
    obtain ⟨p', hp'⟩ : ∃ p, p = ps[i] := ⟨_, rfl⟩
    obtain ⟨e0, e1⟩ := ownU_cells OW.out hp1
    obtain ⟨d0, d1⟩ := ownU_cells OW.out hp2
    rw [← hp] at e0 e1
    rw [← hp'] at d0 d1
    have hsn := dd_snoc cmpUs (l := ps) (m := i + 1) (by omega) hp1
    rw [K.out] at hsn
    simp only [Nat.add_sub_cancel, ← hp, ← hp'] at hsn
    have HS := Lib.hid hsn
    have HP := Lib.hid hp
    have HP' := Lib.hid hp'
    clear hsn hp hp'
    by_cases hpp : p = p'
    ·subst hpp
     have hwx : IntKind.i64.wrap ((i : Int) + 1) = (i : Int) + 1 := by rw [IntKind.wrap_i64]; omega
     have z7 : (i : Int) + 1 ≤ (cap : Int) := by omega
     have z8 : (i : Int) + 1 ≤ (n : Int) := by omega
     have hP := Lib.hid (show dd cmpUs (ps.take (i + 1 + 1)) = ps.take (i + 1) by rw [HS.out, if_pos (us_refl p)])
     go_wp2_with fail
     go_quiet (fail)
     clear e0 e1 d0 d1
     go_wp2_with fail
     have LW := Lib.hid (G.out.trans (Low.drewN wr nq))
     clear z1 z3 z4 z5 z6 hwx z7 z8
     go_loopg [3, 5] n (fun gk2 vk vj wr2 => ∃ (k j : Nat) (cs : List Us), vk = .int .i64 (k : Int) ∧ vj = .int .i64 ((j : Int) + 1) ∧ k ≤ i + 1 + j ∧ i + 1 + j + 1 ≤ n ∧ n - j ≤ gk2 ∧ cs.length = n ∧
      Hid (OwnU B wr2 (.slice (some ⟨g, 0, none⟩) n cap) cs) ∧ Hid (cs.take k = dd cmpUs (ps.take (i + 1 + j + 1))) ∧
      Hid (∀ x (h1 : x < cs.length) (h2 : x < ps.length), i + 1 + j ≤ x → cs[x] = ps[x]) ∧ Hid (KeptButv w wr2 (some g)))
     case atStart => exact ⟨i + 1, 0, ps, rfl, rfl, by omega, by omega, by omega, hnn, Lib.hid (HO.out.low LW.out), Lib.hid hP.out.symm, Lib.hid fun x h1 h2 _ => rfl, Lib.hid (KeptButv.of_low LW.out)⟩
     case round =>
      obtain ⟨k, j, cs, rfl, rfl, hk, hj, hg2, hcl, O2, T2, Q2, K2⟩ := hrel
      by_cases hl2 : i + 1 + j + 1 < n
      ·have z1 : (j : Int) + 1 < ((n - (i + 1) : Nat) : Int) := by omega
       have z3 : (j : Int) < ((n - (i + 1) : Nat) : Int) := by omega
       have z4 : (0 : Int) ≤ (j : Int) + 1 := by omega
       have z5 : ((j : Int) + 1).toNat = j + 1 := by omega
       have z6 : IntKind.i64.wrap (j : Int) = (j : Int) := by rw [IntKind.wrap_i64]; omega
       have hp1 : i + 1 + j + 1 < cs.length := by omega
       have hp2 : i + 1 + j < cs.length := by omega
       have hp3 : i + 1 + j + 1 < ps.length := by omega
       have hp4 : i + 1 + j < ps.length := by omega
       have hp5 : k < cs.length := by omega
       obtain ⟨q, hq⟩ : ∃ p, p = cs[i + 1 + j + 1] := ⟨_, rfl⟩
       obtain ⟨q', hq'⟩ : ∃ p, p = cs[i + 1 + j] := ⟨_, rfl⟩
       obtain ⟨e0, e1⟩ := ownU_cells O2.out hp1
       obtain ⟨d0, d1⟩ := ownU_cells O2.out hp2
       rw [← hq, show (i + 1 + j + 1) * 2 = (i + 1) * 2 + (j + 1) * 2 by omega] at e0 e1
       rw [← hq', show (i + 1 + j) * 2 = (i + 1) * 2 + j * 2 by omega] at d0 d1
       have hsn := dd_snoc cmpUs (l := ps) (m := i + 1 + j + 1) (by omega) hp3
       rw [← T2.out] at hsn
       simp only [Nat.add_sub_cancel, ← Q2.out _ hp1 hp3 (by omega), ← Q2.out _ hp2 hp4 (Nat.le_refl _), ← hq, ← hq'] at hsn
       have HS2 := Lib.hid hsn
       clear hsn hq hq'
       by_cases hqq : q = q'
       ·subst hqq
        have HT := Lib.hid (show _ = cs.take k from HS2.out.trans (if_pos (us_refl q)))
        go_wp2_with fail
        go_quiet (fail)
        clear e0 e1 d0 d1
        go_wp2_with fail
        have LQ := Lib.hid (Low.drewN wr nq)
        go_roundg (n - (j + 1))
        case measure => omega
        case rel =>
         exact ⟨k, j + 1, cs, rfl, by go_num, by omega, by omega, by omega, hcl, Lib.hid (O2.out.low LQ.out), Lib.hid HT.out.symm, Lib.hid fun x h1 h2 h => Q2.out x h1 h2 (by omega), Lib.hid (K2.out.trans (KeptButv.of_low LQ.out))⟩
       ·have HNE := Lib.hid hqq
        have hnc : ¬ cmpUs q q' = 0 := fun h => HNE.out (us_zero h)
        have HT := Lib.hid (show _ = cs.take k ++ [q] from HS2.out.trans (if_neg hnc))
        have zk : (k : Int) < (n : Int) := by omega
        have zk1 : IntKind.i64.wrap ((k : Int) + 1) = (k : Int) + 1 := by rw [IntKind.wrap_i64]; omega
        have hN : ¬ (q.t = q'.t ∧ q.i = q'.i) := fun h => HNE.out (Us.ext' h.1 h.2)
        clear hqq hnc
        by_cases ht : q.t = q'.t
        ·have hi2 : ¬ q.i.toList = q'.i.toList := fun h => hN ⟨ht, tl_injE h⟩
         have HTT := Lib.hid ht
         rw [ht] at e0
         clear hN ht
         go_wp2_with fail
         go_quiet (fail)
         have LQ := Lib.hid (Low.drewN wr nq)
         obtain ⟨W, hW⟩ : ∃ W, W = wr.drewN nq := ⟨_, rfl⟩
         rw [← hW] at LQ ⊢
         replace e0 := LQ.out.keep e0
         replace e1 := LQ.out.keep e1
         have HO4 := Lib.hid (O2.out.low LQ.out)
         obtain ⟨s0, s1⟩ := ownU_cells (show OwnU B W (.slice (some ⟨g, 0, none⟩) n cap) cs from HO4.out) hp5
         have f0 := OwnR.frozen HO4.out (k * 2)
         have f1 := OwnR.frozen HO4.out (k * 2 + 1)
         clear hW d0 d1
         go_wp2_with fail
         obtain ⟨O3, K3⟩ := stored2 q (show OwnU B W (.slice (some ⟨g, 0, none⟩) n cap) cs from HO4.out) hp5 hcl.symm
         rw [HTT.out] at O3 K3
         have O4 := Lib.hid O3
         have K4 := Lib.hid K3
         clear O3 K3 s0 s1 f0 f1 e0 e1
         go_roundg (n - (j + 1))
         case measure => omega
         case rel =>
          refine ⟨k + 1, j + 1, cs.set k q, by go_num, by go_num, by omega, by omega, by omega, by rw [List.length_set]; exact hcl, O4, Lib.hid ?_, Lib.hid fun x h1 h2 h => ?_, Lib.hid ((K2.out.trans (KeptButv.of_low LQ.out)).trans K4.out)⟩
          ·rw [show i + 1 + (j + 1) + 1 = i + 1 + j + 1 + 1 by omega, HT.out, take_snoc (by rw [List.length_set]; exact hp5), List.getElem_set_self, List.take_set_of_le (Nat.le_refl _)]
          ·rw [List.getElem_set_ne (by omega)]
           exact Q2.out x (by simpa using h1) h2 (by omega)
        ·have ht2 : ¬ q.t.toList = q'.t.toList := fun h => ht (tl_injE h)
         clear hN ht
         go_wp2_with fail
         go_quiet (fail)
         have LQ := Lib.hid (Low.drewN wr nq)
         obtain ⟨W, hW⟩ : ∃ W, W = wr.drewN nq := ⟨_, rfl⟩
         rw [← hW] at LQ ⊢
         replace e0 := LQ.out.keep e0
         replace e1 := LQ.out.keep e1
         have HO4 := Lib.hid (O2.out.low LQ.out)
         obtain ⟨s0, s1⟩ := ownU_cells (show OwnU B W (.slice (some ⟨g, 0, none⟩) n cap) cs from HO4.out) hp5
         have f0 := OwnR.frozen HO4.out (k * 2)
         have f1 := OwnR.frozen HO4.out (k * 2 + 1)
         clear hW d0 d1
         go_wp2_with fail
         obtain ⟨O3, K3⟩ := stored2 q (show OwnU B W (.slice (some ⟨g, 0, none⟩) n cap) cs from HO4.out) hp5 hcl.symm
         have O4 := Lib.hid O3
         have K4 := Lib.hid K3
         clear O3 K3 s0 s1 f0 f1 e0 e1
         go_roundg (n - (j + 1))
         case measure => omega
         case rel =>
          refine ⟨k + 1, j + 1, cs.set k q, by go_num, by go_num, by omega, by omega, by omega, by rw [List.length_set]; exact hcl, O4, Lib.hid ?_, Lib.hid fun x h1 h2 h => ?_, Lib.hid ((K2.out.trans (KeptButv.of_low LQ.out)).trans K4.out)⟩
          ·rw [show i + 1 + (j + 1) + 1 = i + 1 + j + 1 + 1 by omega, HT.out, take_snoc (by rw [List.length_set]; exact hp5), List.getElem_set_self, List.take_set_of_le (Nat.le_refl _)]
          ·rw [List.getElem_set_ne (by omega)]
           exact Q2.out x (by simpa using h1) h2 (by omega)
      ·have hend : i + 1 + j + 1 = n := by omega
       have z1 : ¬ (j : Int) + 1 < ((n - (i + 1) : Nat) : Int) := by omega
       have zk2 : (k : Int) ≤ (n : Int) := by omega
       have zk3 : (k : Int) ≤ (cap : Int) := by omega
       have zk5 : k ≤ n := by omega
       have hcell : ∀ x, x < (n - k) * 2 → (wr.cell? ⟨g, k * 2 + x, none⟩).isSome = true := fun x hx => by
        have h8 : x % 2 < 2 := Nat.mod_lt _ (by decide)
        have hxk : k + x / 2 < cs.length := by omega
        have := OwnR.cell encU_len O2.out (k + x / 2) (x % 2) hxk h8
        rw [show (k + x / 2) * 2 + x % 2 = k * 2 + x by omega, List.getElem?_eq_getElem (by rw [encU_len]; exact h8)] at this
        rw [this]; rfl
       have hfr : ∀ x, x < (n - k) * 2 → wr.frozen? ⟨g, k * 2 + x, none⟩ = false := fun x _ => OwnR.frozen O2.out _
       have hcl2 := fun ty => run_clearU wr g (k * 2) (n - k) (cap - k) ty (by omega) hcell hfr
       have HT := Lib.hid T2.out
       have hpre : ∀ x, x < k * 2 → (wr.setCells g (k * 2) (zerosU (n - k))).cell? ⟨g, x, none⟩ = wr.cell? ⟨g, x, none⟩ := fun x hx => setCells_out g x (zerosU (n - k)) (k * 2) wr hx
       have HPRE := Lib.hid hpre
       have HKS := Lib.hid (kept_setCells g (zerosU (n - k)) (k * 2) wr)
       have hfin : dd cmpUs (ps.take (i + 1 + j + 1)) = r := by rw [HRR.out, List.take_of_length_le (by omega)]
       have HFIN := Lib.hid hfin
       clear hcell hfr hpre hfin
       go_wp2_with fail
       go_ret
       refine ⟨_, rfl, ?_, K2.out.trans HKS.out⟩
       have := row_prefixU (A := A) O2.out (k := k) (by omega) HA.out (by omega) hc2 hcl HPRE.out
       rw [HT.out, HFIN.out] at this
       exact this
    ·have HNE := Lib.hid hpp
     have hnc : ¬ cmpUs p p' = 0 := fun h => HNE.out (us_zero h)
     have HT := Lib.hid (show dd cmpUs (ps.take (i + 1 + 1)) = ps.take (i + 1 + 1) by rw [HS.out, if_neg hnc, take_snoc hp1, ← HP.out])
     have hN : ¬ (p.t = p'.t ∧ p.i = p'.i) := fun h => HNE.out (Us.ext' h.1 h.2)
     clear hpp hnc
     by_cases ht : p.t = p'.t
     ·have hi2 : ¬ p.i.toList = p'.i.toList := fun h => hN ⟨ht, tl_injE h⟩
      rw [ht] at e0
      clear hN ht
      go_wp2_with fail
      go_quiet (fail)
      clear e0 e1 d0 d1
      go_wp2_with fail
      have LQ := Lib.hid (Low.drewN wr nq)
      go_roundg (n - (i + 1))
      case measure => omega
      case rel => exact ⟨i + 1, by go_num, by omega, by omega, Lib.hid (G.out.trans LQ.out), HT⟩
     ·have ht2 : ¬ p.t.toList = p'.t.toList := fun h => ht (tl_injE h)
      clear hN ht
      go_wp2_with fail
      go_quiet (fail)
      clear e0 e1 d0 d1
      go_wp2_with fail
      have LQ := Lib.hid (Low.drewN wr nq)
      go_roundg (n - (i + 1))
      case measure => omega
      case rel => exact ⟨i + 1, by go_num, by omega, by omega, Lib.hid (G.out.trans LQ.out), HT⟩
   ·have hend : i + 1 = n := by omega
    have z1 : ¬ (i : Int) + 1 < (n : Int) := by omega
    have hfin : r = ps := by rw [HRR.out]; have := K.out; rwa [List.take_of_length_le (by omega)] at this
    have HF := Lib.hid hfin
    clear hfin
    go_wp2_with fail
    go_ret
    refine ⟨_, rfl, ?_, KeptButv.of_low G.out⟩
    rw [HF.out]
    have := OW.out.usIn (A := A) fun x hx => by simp [Value.ownBlock] at hx; subst hx; exact HA.out
    exact this
theorem cpt_c (A : Nat → Prop) (B : Nat) (v : Value) (hA : ∀ g, v.ownBlock = some g → A g) (ps : List Us) (w : World) (O : OwnU B w v ps) (hn : ps.length ≤ 70000) : Calls Tryz.prog 82 #[v] w (CptP A v.ownBlock (dd cmpUs ps) w) := by
 obtain ⟨ao, cap, rfl, h1, h2, h3⟩ := O.shape
 by_cases h0 : ps = []
 ·subst h0
  have HR := Lib.hid (show UsIn A w (.slice ao 0 cap) [] from ⟨ao, cap, rfl, ⟨by simp, h2⟩, fun j hj => by simp at hj⟩)
  clear O hn h3
  simp only [List.length_nil]
  go_enter Tryz.func82, Tryz.ntmps82
  go_wp2_with fail
  go_ret
  exact ⟨_, rfl, HR.out, KeptButv.refl _ _⟩
 ·rcases h3 with h3 | ⟨g, rfl, -, -⟩
  ·exact absurd h3 h0
  ·exact cpt_some A B g cap (hA g rfl) ps w O hn
end Go.Proofs.YtnchohglplobeaaGreat
