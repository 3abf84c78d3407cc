/- family.Load: the store of a list, or its error. Condition: no more than 300 entities, of no more than 300 parents each. -/
import Derived.Test.YtmkillbanmbafaaGreatStoG
import Derived.Test.YtmkillbanmbafaaGreatECanW
import Derived.Test.YtmkillbanmbafaaGreatRPX
import Derived.Test.YtmkillbanmbafaaGreatLawX
import Derived.Deep.DeepCutAuto
import Derived.Deep.RegionLawGrows
namespace Go.Proofs.YtmkillbanmbafaaGreat
open Go.RowKit Go.Sort Go.Maps
/-- What Load answers. -/
def LoadP (p : Int × List En) (w : World) (e : Ending) (w' : World) : Prop :=
  (p.1 ≠ 0 ∧ e = .returned (.tuple #[.pointer none, .int .i64 p.1]) ∧ Low w w') ∨
  (p.1 = 0 ∧ ∃ (z : St) (rs : List Ee), e = .returned (.tuple #[.pointer (some ⟨z.p, 0, none⟩), .int .i64 0]) ∧ Low w w' ∧ ensOf rs = p.2 ∧ Sto w' z rs ∧ w.heap.size ≤ z.ma)
theorem size_alloc' (w : World) (o : Obj) : (w.alloc o).heap.size = w.heap.size + 1 := by simp
theorem ens_take (rs : List Ee) (i : Nat) : ensOf (rs.take i) = (ensOf rs).take i := by
  unfold ensOf
  rw [List.map_take]
theorem names_take (l : List En) (i : Nat) : namesE (l.take i) = (namesE l).take i := by
  unfold namesE
  rw [List.map_take]
theorem not_in_take {α : Type} {l : List α} (h : l.Nodup) {i : Nat} (hi : i < l.length) : l[i] ∉ l.take i := by
  intro hm
  obtain ⟨j, hj, e⟩ := List.getElem_of_mem hm
  rw [List.length_take] at hj
  rw [List.getElem_take] at e
  rw [List.nodup_iff_pairwise_ne, List.pairwise_iff_getElem] at h
  exact h j i (by omega) hi (by omega) e
set_option maxHeartbeats 8000000 in
set_option maxRecDepth 100000 in
theorem load_c (qs : List Ee) (w : World) (r : Value) (h : EtAt w r qs) (hf : FewE (ensOf qs)) (hs : ∀ q ∈ qs, Sm q.e.a) : Calls Tryz.prog 10 #[r] w (LoadP (canE canD (ensOf qs)) w) := by
  have HC := Lib.hid (eCanon_c qs w r h hf hs)
  obtain ⟨c, res, hres⟩ : ∃ c res, canE canD (ensOf qs) = (c, res) := ⟨_, _, rfl⟩
  have HN0 := Lib.hid (show c = 0 → (namesE res).Nodup from fun h0 => by
    have h1 := canE_closed (f := canD) (l := ensOf qs) (by rw [hres]; exact h0)
    rw [hres] at h1
    exact rises_names h1.2.2)
  have HL0 := Lib.hid (show c = 0 → res.length ≤ 300 from fun h0 => by
    have h1 := canE_val (c := canD) (l := ensOf qs) (by rw [hres]; exact h0)
    rw [hres] at h1
    have h2 := uniq_len (c := cmpE) ((ensOf qs).map (oneE canD))
    rw [List.length_map] at h2
    have h3 := congrArg (fun x => x.2.length) h1
    have h4 := hf.1
    simp only at h3
    omega)
  rw [hres] at HC ⊢
  clear hres h hf hs
  go_enter Tryz.func10, Tryz.ntmps10
  go_wp2_with fail
  refine HC.out.mono ?_
  rintro e w1 ⟨v1, rfl, l1, rs, hrs, het⟩
  have L1 := Lib.hid l1
  have HRS := Lib.hid (show ensOf rs = res from hrs)
  have HET := Lib.hid het
  clear HC l1 hrs
  by_cases h0 : c = 0
  case neg =>
    have zc : (c != 0) = true := by simpa using h0
    have H0 := Lib.hid h0
    clear het h0
    show _
    go_wp2_with fail
    go_ret2
    exact .inl ⟨H0.out, rfl, L1.out⟩
  case pos =>
    subst h0
    have HN := Lib.hid (HN0.out rfl)
    have hlen : rs.length ≤ 300 := by have h1 := HL0.out rfl; rw [← HRS.out] at h1; simpa [ensOf] using h1
    obtain ⟨ao, cap, rfl, ⟨hc1, hc2⟩, hx⟩ := het.at
    have HX := Lib.hid hx
    have hmm := @run_makeMap Tryz.prog
    clear het HN0 HL0 hx
    obtain ⟨M0, hM0⟩ : ∃ W, W = ((w1.alloc (.map #[] 0)).alloc (.map #[] 0)).alloc (.cells #[.slice none 0 0, .map (some w1.heap.size), .map (some (w1.heap.size + 1))] 58) := ⟨_, rfl⟩
    have HM0 := Lib.hid hM0
    have L2 := Lib.hid (show Low w1 M0 by rw [hM0]; exact Low.alloc (Low.alloc (Low.alloc (Low.refl _) _) _) _)
    have BS := Lib.hid (show BoxAt M0 (w1.heap.size + 1 + 1) [.slice none 0 0, .map (some w1.heap.size), .map (some (w1.heap.size + 1))] from BoxAt.made hM0 (by simp) rfl)
    have ME := Lib.hid (show MapAt keyUs M0 w1.heap.size 0 (enF []) from ((MapAt.made keyUs w1).block (by rw [hM0]; exact (Low.alloc (Low.alloc (Low.refl (w1.alloc (.map #[] 0))) _) _).2.2.2 _ (by simp))).congr fun _ => rfl)
    have MA := Lib.hid (show MapAt keyUU M0 (w1.heap.size + 1) 0 (abF []) from by
      have h1 := MapAt.made keyUU (w1.alloc (.map #[] 0))
      rw [show (w1.alloc (.map #[] 0)).heap.size = w1.heap.size + 1 by simp] at h1
      rw [abF_nil]
      exact h1.block (by rw [hM0]; exact (Low.alloc (Low.refl ((w1.alloc (.map #[] 0)).alloc (.map #[] 0))) _).2.2.2 _ (by simp)))
    have HSZ := Lib.hid (show M0.heap.size = w1.heap.size + 3 by rw [hM0]; simp)
    clear hM0
    go_upto_region 5 with fail
    rw [← HM0.out]
    clear HM0 hmm
    obtain ⟨N, hN⟩ : ∃ N, N = rs.length := ⟨_, rfl⟩
    rw [← hN] at hc1 hlen ⊢
    have HNN := Lib.hid hN
    obtain ⟨B, hB⟩ : ∃ B, B = w1.heap.size := ⟨_, rfl⟩
    have HB := Lib.hid hB
    rw [← hB] at BS ME MA HSZ ⊢
    clear hN hB
    go_wp2_with fail
    go_loopg [23] N (fun gk vi wr => ∃ (i : Nat) (an : Option Addr) (cn : Nat), vi = .int .i64 (i : Int) ∧ i ≤ N ∧ N - i ≤ gk ∧ Hid (Low w1 wr) ∧ Hid (BoxAt wr (B + 1 + 1) [.slice an i cn, .map (some B), .map (some (B + 1))]) ∧ Hid (OwnU (B + 3) wr (.slice an i cn) ((namesE res).take i)) ∧ Hid (MapAt keyUs wr B i (enF (rs.take i))) ∧ Hid (MapAt keyUU wr (B + 1) 0 (abF [])) ∧ B + 3 ≤ wr.heap.size)
    case atStart => exact ⟨0, none, 0, rfl, Nat.zero_le _, Nat.le_refl _, L2, BS, Lib.hid (OwnR.nil _ _ _ _ _), ME, MA, by have := HSZ.out; omega⟩
    case round =>
      clear L2 BS ME MA HSZ
      obtain ⟨i, an, cn, rfl, hi, hg, G, GB, GO, GE, GA, hsz⟩ := hrel
      by_cases hlt : i < N
      · have zl : (i : Int) < (N : Int) := by omega
        have hir : i < rs.length := by rw [← HNN.out]; exact hlt
        obtain ⟨b, o, rfl, hcs⟩ := HX.out i hir
        obtain ⟨q, hq⟩ : ∃ q, rs[i] = q := ⟨_, rfl⟩
        rw [hq] at hcs
        obtain ⟨e0, e1, e2, e3, e4, e5, e6, e7, e8, e9, e10⟩ := ee11 (G.out.cells hcs)
        have hnl : i < (namesE res).length := by rw [← HRS.out, names_len]; simpa [ensOf] using hir
        have hqn : (namesE res)[i] = q.e.u := by
          have h2 : (namesE res)[i]? = some q.e.u := by rw [← HRS.out]; unfold namesE ensOf; simp [hir, hq]
          rw [List.getElem?_eq_getElem hnl] at h2
          exact Option.some.inj h2
        have HT := Lib.hid (show (namesE res).take (i + 1) = (namesE res).take i ++ [q.e.u] by rw [← hqn, List.take_succ_eq_append_getElem hnl])
        have HT2 := Lib.hid (show rs.take (i + 1) = rs.take i ++ [q] by rw [← hq, List.take_succ_eq_append_getElem hir])
        have HNI := Lib.hid (show q.e.u ∉ namesE (ensOf (rs.take i)) by
          rw [ens_take, HRS.out, names_take, ← hqn]
          exact not_in_take HN.out hnl)
        clear hq hcs hqn hnl
        obtain ⟨W1, hW1⟩ : ∃ W, W = wr.alloc (.cells #[.string q.e.u.t, .string q.e.u.i, .slice q.ap q.e.ps.length q.cp, .int .i64 q.e.a.h.k, .bool q.e.a.h.b, .int .i64 q.e.a.h.n, .string q.e.a.h.s, .string q.e.a.h.t, .string q.e.a.h.i, .slice q.ai q.e.a.l.length q.ci, .slice q.an q.e.a.ns.length q.cn] 39) := ⟨_, rfl⟩
        have HW1 := Lib.hid hW1
        have LW := Lib.hid (show Low wr W1.drew by rw [hW1]; exact (Low.alloc (Low.refl wr) _).trans (Low.drewN _ 1))
        have BE := Lib.hid (show BoxAt W1.drew wr.heap.size [.string q.e.u.t, .string q.e.u.i, .slice q.ap q.e.ps.length q.cp, .int .i64 q.e.a.h.k, .bool q.e.a.h.b, .int .i64 q.e.a.h.n, .string q.e.a.h.s, .string q.e.a.h.t, .string q.e.a.h.i, .slice q.ai q.e.a.l.length q.ci, .slice q.an q.e.a.ns.length q.cn] from BoxAt.low (BoxAt.made hW1 rfl rfl) (Low.drewN _ 1))
        have LWa := Lib.hid (show Low wr W1 by rw [hW1]; exact Low.alloc (Low.refl wr) _)
        have BEa := Lib.hid (show BoxAt W1 wr.heap.size [.string q.e.u.t, .string q.e.u.i, .slice q.ap q.e.ps.length q.cp, .int .i64 q.e.a.h.k, .bool q.e.a.h.b, .int .i64 q.e.a.h.n, .string q.e.a.h.s, .string q.e.a.h.t, .string q.e.a.h.i, .slice q.ai q.e.a.l.length q.ci, .slice q.an q.e.a.ns.length q.cn] from BoxAt.made hW1 rfl rfl)
        have BS1 := Lib.hid (GB.out.low LW.out)
        have O1 := Lib.hid (OwnR.low GO.out LW.out)
        have HZ1 := Lib.hid (show W1.drew.heap.size = wr.heap.size + 1 by show W1.heap.size = _; rw [hW1]; simp)
        clear hW1
        go_upto_region 8 with fail
        rw [← HW1.out]
        clear HW1 e0 e1 e2 e3 e4 e5 e6 e7 e8 e9 e10
        have s0 := (GB.out.low LWa.out).at 0 _ rfl
        have s0X := fun X => (GB.out.low (LWa.out.trans (Low.alloc (Low.refl W1) X))).at 0 _ rfl
        have u0 := BEa.out.at 0 _ rfl
        have u1 := BEa.out.at 1 _ rfl
        have u0X := fun X => (BEa.out.low (Low.alloc (Low.refl W1) X)).at 0 _ rfl
        have u1X := fun X => (BEa.out.low (Low.alloc (Low.refl W1) X)).at 1 _ rfl
        have hil : ((namesE res).take i).length = i := by rw [List.length_take, Nat.min_eq_left]; have h1 := congrArg List.length HRS.out; simp [ensOf] at h1; rw [names_len, ← h1, ← HNN.out]; omega
        have HIL := Lib.hid hil
        clear hil
        have HLN := Lib.hid (show ((namesE res).take i).length ≤ 1000000 by rw [HIL.out]; omega)
        have HSB := Lib.hid (show B + 3 ≤ (W1.drew.alloc (.cells #[.string q.e.u.t, .string q.e.u.i] 24)).heap.size by have := HZ1.out; simp only [size_alloc']; omega)
        have OX := Lib.hid (OwnR.alloc O1.out (.cells #[.string q.e.u.t, .string q.e.u.i] 24))
        have HIL2 := Lib.hid (show (((namesE res).take i) ++ [q.e.u]).length = i + 1 by rw [List.length_append, HIL.out]; rfl)
        have LX := Lib.hid (Low.alloc (Low.refl W1.drew) (.cells #[.string q.e.u.t, .string q.e.u.i] 24))
        have HOW := Lib.hid (show ∀ g, (Value.slice an i cn).ownBlock = some g → g < wr.heap.size from fun g hg => (World.ownsRow.lt GO.out g hg).2)
        go_wp2_with fail
        go_region_law (first
          | (refine ownR_step2 rfl _ _ _ rfl Tryz.underlying33 u_info rfl (by decide) (by decide) encU_len encU_one (B + 3) (.slice an i cn) ((namesE res).take i) rfl OX.out q.e.u ⟨W1.heap.size, 0, none⟩ 1 rfl (fun j u hj => newcell_at _ _ _ _ _ rfl hj) HLN.out HSB.out ?_; intro v6 w6 O6 B6 K6 N6; obtain ⟨an6, cn6, hv6, -, -, -⟩ := OwnR.shape O6; rw [HIL2.out] at hv6; subst hv6; have HB6 := Lib.hid (show RowKit.Below (B + 3) (W1.drew.alloc (.cells #[.string q.e.u.t, .string q.e.u.i] 24)) w6 from B6); have HK6 := Lib.hid (show KeptBut (W1.drew.alloc (.cells #[.string q.e.u.t, .string q.e.u.i] 24)) w6 (Value.slice an i cn).ownBlock from ⟨B6.os, B6.output, B6.size, K6⟩); have HO6 := Lib.hid (show OwnU (B + 3) w6 _ _ from O6); have BS6 := Lib.hid ((BS1.out.low LX.out).below HB6.out (by omega)); have s0 := BS6.out.at 0 _ rfl; have z0 := BS6.out.open' 0; clear O6 B6 K6 N6))
        all_goals
          obtain ⟨W5, hW5⟩ : ∃ W, W = w6.setCell ⟨B + 1 + 1, 0, none⟩ (.slice an6 (i + 1) cn6) := ⟨_, rfl⟩
          have HW5 := Lib.hid hW5
          have K5 := Lib.hid (show KeptBut w6 W5 (some (B + 1 + 1)) from hW5 ▸ kept_setCell _ _ _ _)
          have BS5 := Lib.hid (show BoxAt W5 (B + 1 + 1) [.slice an6 (i + 1) cn6, .map (some B), .map (some (B + 1))] from hW5 ▸ BS6.out.set 0 _)
          have BE5 := Lib.hid (((BE.out.low LX.out).kept HK6.out (fun e => by have := HOW.out _ e.symm; omega)).kept K5.out (by simp; omega))
          have L5 := Lib.hid (show Low w1 W5 from (((G.out.trans LW.out).trans LX.out).trans_belowU HB6.out (by have := HB.out; omega)).kept K5.out fun g hg => by simp at hg; have := HB.out; omega)
          have hb5 : ∀ k, k < B + 3 → k ≠ B + 1 + 1 → W5.heap[k]? = wr.heap[k]? := fun k hk hne => ((K5.out.2.2.2 k (by have := HB6.out.size; have := HSB.out; omega) (by simp; omega)).trans (HB6.out.block k hk)).trans (((LX.out.2.2.2 k (by have := HZ1.out; omega))).trans (LW.out.2.2.2 k (by omega)))
          have ME5 := Lib.hid (GE.out.block (hb5 B (by omega) (by omega)))
          have MA5 := Lib.hid (GA.out.block (hb5 (B + 1) (by omega) (by omega)))
          have O5 := Lib.hid (show OwnU (B + 3) W5 (.slice an6 (i + 1) cn6) ((namesE res).take i ++ [q.e.u]) from HO6.out.to fun g hg => K5.out.2.2.2 g (World.ownsRow.lt HO6.out g hg).2 (by have := (World.ownsRow.lt HO6.out g hg).1; simp; omega))
          have hsz5 : B + 3 ≤ W5.heap.size := by have h1 := K5.out.2.2.1; have h2 := HB6.out.size; have h3 := HSB.out; omega
          have ED := Lib.hid (ME5.out.block (w' := W5.drew) rfl)
          obtain ⟨w8, hrun, m8, t8⟩ := ED.out.store keyedUs Tryz.underlying55 (by unfold maxLen; omega) q.e.u q.val
          simp only [keyUs, usV, Ee.val] at hrun
          have M8 := Lib.hid (show MapAt keyUs w8 B (i + 1) (enF (rs.take (i + 1))) by rw [HT2.out, enF_more HNI.out]; exact m8)
          have hb8 := But.of (Low.refl W5.drew) t8
          have L8 := Lib.hid (show Low w1 w8 from ((L5.out.trans (Gr.refl W5).drew.low).turned t8 (by have := HB.out; omega)))
          have BS8 := Lib.hid (show BoxAt w8 (B + 1 + 1) [.slice an6 (i + 1) cn6, .map (some B), .map (some (B + 1))] from BoxAt.kept (x := some B) BS5.out ⟨by have := L8.out.1; rw [this, L5.out.1], by rw [L8.out.2.1, L5.out.2.1], t8.grown.size, fun b hb hne => hb8 b hb (by simpa using hne)⟩ (by simp; omega))
          have MA8 := Lib.hid (MA5.out.block (hb8 (B + 1) (by show B + 1 < W5.heap.size; omega) (by omega)))
          have O8 := Lib.hid (show OwnU (B + 3) w8 (.slice an6 (i + 1) cn6) ((namesE res).take (i + 1)) by rw [HT.out]; exact O5.out.to fun g hg => hb8 g (World.ownsRow.lt O5.out g hg).2 (by have := (World.ownsRow.lt O5.out g hg).1; omega))
          have hsz8 : B + 3 ≤ w8.heap.size := Nat.le_trans hsz5 t8.grown.size
          have c1 := BS5.out.at 1 _ rfl
          obtain ⟨e0, e1, e2, e3, e4, e5, e6, e7, e8, e9, e10⟩ := BE5.out.at11
          rw [← hW5]
          clear hW5 HW5 m8 t8 hb8 hb5 z0 s0
          go_wp2_with fail
          go_region
          clear hrun c1 e0 e1 e2 e3 e4 e5 e6 e7 e8 e9 e10
          all_goals
            go_wp2_with fail
            go_roundg (N - (i + 1))
            case measure => omega
            case rel => exact ⟨i + 1, an6, cn6, by go_num, by omega, by omega, L8, BS8, O8, M8, MA8, hsz8⟩
      · have zl : ¬ (i : Int) < (N : Int) := by omega
        obtain rfl : i = N := by omega
        have hnl : (namesE res).length = i := by rw [← HRS.out, names_len]; simp [ensOf]; exact HNN.out.symm
        go_wp2_with fail
        go_ret2
        refine .inr ⟨rfl, ⟨B + 1 + 1, B, B + 1, an, cn⟩, rs, rfl, L1.out.trans G.out, HRS.out, ⟨[], AbvOk.nil _, ?_⟩, by have := HB.out; have := L1.out.size; show w.heap.size ≤ B + 1; omega⟩
        have hNN := HNN.out
        have hrt : rs.take i = rs := by rw [hNN, List.take_length]
        exact {
          c0 := by have := GB.out.at 0 _ rfl; rw [← hNN]; exact this
          c1 := GB.out.at 1 _ rfl
          c2 := GB.out.at 2 _ rfl
          names := by
            have h1 := (OwnR.usIn (A := fun _ => True) GO.out fun _ _ => trivial).any
            rw [← hnl, List.take_length, hnl] at h1
            rw [← hNN, HRS.out]; exact h1
          ents := by have h1 := GE.out; rw [hrt] at h1; rw [← hNN]; exact h1
          abv := ⟨0, Nat.zero_le _, GA.out⟩
          ne := by show B ≠ B + 1; omega
          ok := fun q hq => (HET.out.2 q hq).low G.out }
end Go.Proofs.YtmkillbanmbafaaGreat
