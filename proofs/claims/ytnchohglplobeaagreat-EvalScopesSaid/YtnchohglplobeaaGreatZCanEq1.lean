/- An entity as it must be, as the program tells it. Condition: its rows are short. -/
import Derived.Test.YtnchohglplobeaaGreatZCanEq12
import Derived.Test.YtnchohglplobeaaGreatZCptq1
set_option linter.unusedVariables false
set_option linter.unusedSimpArgs false
set_option linter.unnecessarySimpa false
namespace Go.Proofs.YtnchohglplobeaaGreat
open Go.RowKit Go.Sort Go.Maps
def CanEP (names : List Us) (e0 : En) (w : World) (e : Ending) (w' : World) : Prop :=
 ∃ q : Ee, e = .returned (.tuple #[.agg #[.string q.e.u.t, .string q.e.u.i, .slice q.ap q.e.ps.length q.cp, .int .i64 q.e.a.h.k, .bool q.e.a.h.b, .int .i64 q.e.a.h.n, .string q.e.a.h.s, .string q.e.a.h.t, .string q.e.a.h.i, .slice q.ai q.e.a.l.length q.ci, .slice q.an q.e.a.ns.length q.cn], .int .i64 (errE canD names e0)]) ∧ Low w w' ∧
  (errE canD names e0 = 0 → q.e = oneE canD e0 ∧ EeOk (fun b => w.heap.size ≤ b) w' q)
set_option maxHeartbeats 8000000 in
set_option maxRecDepth 100000 in
theorem canE_c (ls : List Sh) (names : List Us) (hnm : ∀ x, x ∈ names ↔ (fS ls x).isSome = true) (b n : Nat) (u : Us) (ps : List Us) (v : V) (ap : Option Addr) (cp : Nat) (ai : Option Addr) (ci : Nat) (an : Option Addr) (cn : Nat) (w : World)
  (hP : UsAt w (.slice ap ps.length cp) ps) (hR : R w v (.slice ai v.l.length ci) (.slice an v.ns.length cn)) (hsm : Smv v) (hps : ps.length ≤ 70000) (hM : MapAt keyUs w b n (fS ls)) :
  Calls Tryz.prog 41 #[.agg #[.string u.t, .string u.i, .slice ap ps.length cp, .int .i64 v.h.k, .bool v.h.b, .int .i64 v.h.n, .string v.h.s, .string v.h.t, .string v.h.i, .slice ai v.l.length ci, .slice an v.ns.length cn], .map (some b)] w (CanEP names ⟨u, ps, v⟩ w) := by
 have L0 := (Low.alloc (Low.alloc (Low.refl w) _) _ : Low w ((w.alloc (.cells #[.string u.t, .string u.i, .slice ap ps.length cp, .int .i64 v.h.k, .bool v.h.b, .int .i64 v.h.n, .string v.h.s, .string v.h.t, .string v.h.i, .slice ai v.l.length ci, .slice an v.ns.length cn] 72)).alloc (.cells #[.string ⟨#[]⟩, .string ⟨#[]⟩, .slice none 0 0, .int .i64 0, .bool false, .int .i64 0, .string ⟨#[]⟩, .string ⟨#[]⟩, .string ⟨#[]⟩, .slice none 0 0, .slice none 0 0] 72)))
 have hn1 : (w.alloc (.cells #[.string u.t, .string u.i, .slice ap ps.length cp, .int .i64 v.h.k, .bool v.h.b, .int .i64 v.h.n, .string v.h.s, .string v.h.t, .string v.h.i, .slice ai v.l.length ci, .slice an v.ns.length cn] 72)).heap.size = w.heap.size + 1 := by simp
 by_cases k6 : v.h.k = 6
 case neg =>
  have he : errE canD names ⟨u, ps, v⟩ = 1 := by unfold errE; rw [if_pos k6]
  have z6 : (v.h.k != 6) = true := by simpa using k6
  have HL := Lib.hid L0
  unfold CanEP
  rw [he]
  clear hP hR hsm hM hnm he L0 k6 hn1
  go_enter Tryz.func41, Tryz.ntmps41
  go_wp2_with fail
  refine bodyPost_ret (v := .tuple #[.agg #[.string ⟨#[]⟩, .string ⟨#[]⟩, .slice none 0 0, .int .i64 0, .bool false, .int .i64 0, .string ⟨#[]⟩, .string ⟨#[]⟩, .string ⟨#[]⟩, .slice none 0 0, .slice none 0 0], .int .i64 1]) (by simp [results, Tryz.results41, go_sem]; try rfl) rfl ?_
  exact ⟨Z0, rfl, HL.out, fun h => by simp at h⟩
 case pos =>
  have z6 : (v.h.k != 6) = false := by simpa using k6
  obtain ⟨c, x, hq⟩ : ∃ c x, canD v = (c, x) := ⟨_, _, rfl⟩
  have CN := Canon_c v _ _ _ (hR.low L0) hsm
  rw [hq] at CN
  have HC := Lib.hid (show Calls Tryz.prog 65 #[avv v.h (.slice ai v.l.length ci) (.slice an v.ns.length cn)] ((w.alloc (.cells #[.string u.t, .string u.i, .slice ap ps.length cp, .int .i64 v.h.k, .bool v.h.b, .int .i64 v.h.n, .string v.h.s, .string v.h.t, .string v.h.i, .slice ai v.l.length ci, .slice an v.ns.length cn] 72)).alloc (.cells #[.string ⟨#[]⟩, .string ⟨#[]⟩, .slice none 0 0, .int .i64 0, .bool false, .int .i64 0, .string ⟨#[]⟩, .string ⟨#[]⟩, .string ⟨#[]⟩, .slice none 0 0, .slice none 0 0] 72)) (CanPost x c ((w.alloc (.cells #[.string u.t, .string u.i, .slice ap ps.length cp, .int .i64 v.h.k, .bool v.h.b, .int .i64 v.h.n, .string v.h.s, .string v.h.t, .string v.h.i, .slice ai v.l.length ci, .slice an v.ns.length cn] 72)).alloc (.cells #[.string ⟨#[]⟩, .string ⟨#[]⟩, .slice none 0 0, .int .i64 0, .bool false, .int .i64 0, .string ⟨#[]⟩, .string ⟨#[]⟩, .string ⟨#[]⟩, .slice none 0 0, .slice none 0 0] 72))) from CN)
  have he : errE canD names ⟨u, ps, v⟩ = if c ≠ 0 then c else if ps.all (fun p => decide (p ∈ names)) = true then 0 else 20 := by
   unfold errE
   rw [if_neg (by simpa using k6)]
   show (if (canD v).1 ≠ 0 then (canD v).1 else _) = _
   rw [hq]
  have ho : oneE canD ⟨u, ps, v⟩ = ⟨u, canU ps, x⟩ := by unfold oneE; rw [hq]
  have HE := Lib.hid he
  have HO := Lib.hid ho
  have HP := Lib.hid hP
  have HM := Lib.hid hM
  have HN := Lib.hid hnm
  have HL := Lib.hid L0
  have HN1 := Lib.hid hn1
  have HPS := Lib.hid hps
  clear hP hR hsm hM hnm he ho L0 CN hq hn1 hps
  unfold CanEP
  have K6 := Lib.hid k6
  clear k6
  unfold avv at HC
  go_enter Tryz.func41, Tryz.ntmps41
  go_wp2_with fail
  refine HC.out.mono ?_
  rintro e w1 ⟨bi, di, bn, dn, rfl, hrep, hlow⟩
  have HR := Lib.hid hrep
  have HL1 := Lib.hid hlow
  have BZ := Lib.hid (BoxAtv.new (w.heap.size + 1) hlow (cs := zE) rfl HN1.out)
  have BE := Lib.hid (BoxAtv.new w.heap.size ((Low.alloc (Low.refl _) _).trans hlow) (cs := [.string u.t, .string u.i, .slice ap ps.length cp, .int .i64 v.h.k, .bool v.h.b, .int .i64 v.h.n, .string v.h.s, .string v.h.t, .string v.h.i, .slice ai v.l.length ci, .slice an v.ns.length cn]) rfl rfl)
  clear hrep hlow HC
  by_cases h0 : c = 0
  case neg =>
   have zc : (c != 0) = true := by simpa using h0
   obtain ⟨W1, hW1⟩ : ∃ W, W = w1.alloc (.cells #[.int .i64 x.h.k, .bool x.h.b, .int .i64 x.h.n, .string x.h.s, .string x.h.t, .string x.h.i, .slice bi x.l.length di, .slice bn x.ns.length dn] 27) := ⟨_, rfl⟩
   have HW1 := Lib.hid hW1
   have LW := Lib.hid (show Low w1 W1 from hW1 ▸ Low.alloc (Low.refl w1) _)
   have BZX := BZ.out.low LW.out
   obtain ⟨c0, c1, c2, c3, c4, c5, c6, c7, c8, c9, c10⟩ := BZX.at11
   obtain ⟨f0, f1, f2, f3, f4, f5, f6, f7, f8, f9, f10⟩ := BZX.op11
   clear BZX hW1
   have HH := Lib.hid h0
   clear h0
   go_upto_region 5 with fail
   rw [← HW1.out]
   clear HW1
   go_wp2_with fail
   refine bodyPost_ret (v := .tuple #[.agg #[.string ⟨#[]⟩, .string ⟨#[]⟩, .slice none 0 0, .int .i64 0, .bool false, .int .i64 0, .string ⟨#[]⟩, .string ⟨#[]⟩, .string ⟨#[]⟩, .slice none 0 0, .slice none 0 0], .int .i64 c]) (by simp [results, Tryz.results41, go_sem, World.cell?_setCell_same', c0, c1, c2, c3, c4, c5, c6, c7, c8, c9, c10]; try rfl) rfl ?_
   have hee : errE canD names ⟨u, ps, v⟩ = c := by rw [HE.out, if_pos HH.out]
   refine ⟨Z0, by rw [hee]; rfl, ?_, fun h => absurd (hee ▸ h) HH.out⟩
   exact low_allv ((HL.out.trans HL1.out).trans LW.out) (Nat.le_succ _) (kept11 _ _ _ _ _ _ _ _ _ _ _ _ _)
  case pos =>
   subst h0
   have e2 : ∀ X, (w1.alloc X).cell? ⟨w.heap.size, 2, none⟩ = some (.slice ap ps.length cp) := fun X => (BE.out.low (Low.alloc (Low.refl w1) X)).at 2 _ rfl
   have HP1 := Lib.hid (HP.out.low (HL.out.trans HL1.out))
   have HM1 := Lib.hid (HM.out.block ((HL.out.trans HL1.out).2.2.2 _ HM.out.lt))
   have hE0 : ps.all (fun p => decide (p ∈ names)) = true → errE canD names ⟨u, ps, v⟩ = 0 := fun h => by rw [HE.out]; simp [h]
   have hE1 : ¬ ps.all (fun p => decide (p ∈ names)) = true → errE canD names ⟨u, ps, v⟩ = 20 := fun h => by rw [HE.out]; simp [h]
   have HE0 := Lib.hid hE0
   have HE1 := Lib.hid hE1
   have HX := Lib.hid (BoxAtv.new w1.heap.size (Low.refl (w1.alloc (.cells #[.int .i64 x.h.k, .bool x.h.b, .int .i64 x.h.n, .string x.h.s, .string x.h.t, .string x.h.i, .slice bi x.l.length di, .slice bn x.ns.length dn] 27))) (cs := [.int .i64 x.h.k, .bool x.h.b, .int .i64 x.h.n, .string x.h.s, .string x.h.t, .string x.h.i, .slice bi x.l.length di, .slice bn x.ns.length dn]) rfl rfl)
   have HS1 := Lib.hid (show w.heap.size + 1 < w1.heap.size from BZ.out.lt)
   obtain ⟨W1, hW1⟩ : ∃ W, W = w1.alloc (.cells #[.int .i64 x.h.k, .bool x.h.b, .int .i64 x.h.n, .string x.h.s, .string x.h.t, .string x.h.i, .slice bi x.l.length di, .slice bn x.ns.length dn] 27) := ⟨_, rfl⟩
   have HW1 := Lib.hid hW1
   have LW := Lib.hid (show Low w1 W1 from hW1 ▸ Low.alloc (Low.refl w1) _)
   rw [← hW1] at HX
   clear hE0 hE1 HE HM HP hW1
   go_upto_region 6 with fail
   rw [← HW1.out]
   clear HW1
   replace e2 : W1.cell? ⟨w.heap.size, 2, none⟩ = some (.slice ap ps.length cp) := (BE.out.low LW.out).at 2 _ rfl
   go_wp2_with fail
   have hx := Lib.hid (HP1.out.low LW.out)
   obtain ⟨ap9, cp9, hv9, ⟨hl1, hl2⟩, hx9⟩ := hx.out
   simp only [Value.slice.injEq] at hv9
   obtain ⟨rfl, -, rfl⟩ := hv9
   have HX9 := Lib.hid hx9
   clear hx9
   go_loopg [31] ps.length (fun gk vi wr => ∃ i : Nat, vi = .int .i64 (i : Int) ∧ i ≤ ps.length ∧ ps.length - i ≤ gk ∧ Hid (Low W1 wr) ∧ Hid (∀ p ∈ ps.take i, p ∈ names))
   case atStart => exact ⟨0, rfl, Nat.zero_le _, Nat.le_refl _, Lib.hid (Low.refl _), Lib.hid fun p hp => by simp at hp⟩
   case round =>
    obtain ⟨i, rfl, hi, hg, G, K⟩ := hrel
    have GG := Lib.hid (LW.out.trans G.out)
    by_cases hlt : i < ps.length
    ·have zl : (i : Int) < (ps.length : Int) := by omega
     obtain ⟨pb, po, rfl, hcs⟩ := HX9.out i hlt
     obtain ⟨e0, e1⟩ := cells2 (G.out.cells hcs)
     obtain ⟨p, hp⟩ : ∃ p, p = ps[i] := ⟨_, rfl⟩
     have HT := Lib.hid (show ps.take (i + 1) = ps.take i ++ [p] by rw [hp, List.take_succ_eq_append_getElem hlt])
     have HPM := Lib.hid (show p ∈ ps from hp ▸ List.getElem_mem hlt)
     rw [← hp] at e0 e1
     clear hcs hp
     have M2 := Lib.hid (show MapAt keyUs (wr.alloc (.cells #[.string p.t, .string p.i] 23)) b n (fS ls) from HM1.out.block ((Low.alloc GG.out _).2.2.2 _ HM1.out.lt))
     have L2 := Lib.hid (show Low W1 (wr.alloc (.cells #[.string p.t, .string p.i] 23)) from Low.alloc G.out _)
     cases hq : (fS ls p).isSome with
     | true =>
      have HQ := Lib.hid hq
      clear hq
      go_wp2_with (at_lookup; refine at_lookOk rfl _ _ _ rfl keyedUs Tryz.underlying87 (zeroUs _) rfl M2.out p rfl _ true rfl HQ.out ?_)
      go_roundg (ps.length - (i + 1))
      case measure => omega
      case rel =>
       refine ⟨i + 1, by go_num, by omega, by omega, L2, Lib.hid ?_⟩
       rw [HT.out]
       intro z hz
       rcases List.mem_append.1 hz with h | h
       ·exact K.out z h
       ·simp at h; rw [h]; exact (HN.out p).2 HQ.out
     | false =>
      have HQ := Lib.hid hq
      clear hq
      obtain ⟨W2, hW2⟩ : ∃ W, W = wr.alloc (.cells #[.string p.t, .string p.i] 23) := ⟨_, rfl⟩
      have HW2 := Lib.hid hW2
      have LW2 := Lib.hid (show Low wr W2 from hW2 ▸ Low.alloc (Low.refl wr) _)
      have BW := Lib.hid (BZ.out.low (GG.out.trans LW2.out))
      clear hW2
      obtain ⟨c0, c1, c2, c3, c4, c5, c6, c7, c8, c9, c10⟩ := BW.out.at11
      obtain ⟨f0, f1, f2, f3, f4, f5, f6, f7, f8, f9, f10⟩ := BW.out.op11
      go_upto_region 11 with (at_lookup; refine at_lookOk rfl _ _ _ rfl keyedUs Tryz.underlying87 (zeroUs _) rfl M2.out p rfl _ false rfl HQ.out ?_)
      rw [← HW2.out]
      clear HW2
      go_wp2_with fail
      refine bodyPost_ret (v := .tuple #[.agg #[.string ⟨#[]⟩, .string ⟨#[]⟩, .slice none 0 0, .int .i64 0, .bool false, .int .i64 0, .string ⟨#[]⟩, .string ⟨#[]⟩, .string ⟨#[]⟩, .slice none 0 0, .slice none 0 0], .int .i64 20]) (by simp [results, Tryz.results41, go_sem, World.cell?_setCell_same', c0, c1, c2, c3, c4, c5, c6, c7, c8, c9, c10]; try rfl) rfl ?_
      have hee : errE canD names ⟨u, ps, v⟩ = 20 := HE1.out fun h => by
       have := List.all_eq_true.1 h p HPM.out
       simp at this
       have := (HN.out p).1 this
       rw [HQ.out] at this
       simp at this
      refine ⟨Z0, by rw [hee]; rfl, ?_, fun h => by rw [hee] at h; simp at h⟩
      exact low_allv (((HL.out.trans HL1.out).trans GG.out).trans LW2.out) (Nat.le_succ _) (kept11 _ _ _ _ _ _ _ _ _ _ _ _ _)
    ·have zl : ¬ (i : Int) < (ps.length : Int) := by omega
     have hil : i = ps.length := by omega
     have hall : ps.all (fun p => decide (p ∈ names)) = true := List.all_eq_true.2 fun p hp => by
      simp
      exact K.out p (by rw [hil, List.take_length]; exact hp)
     have hee := Lib.hid (HE0.out hall)
     clear hall hil K
     replace e2 : wr.cell? ⟨w.heap.size, 2, none⟩ = some (.slice ap ps.length cp) := (BE.out.low GG.out).at 2 _ rfl
     have CL := Lib.hid (clone_cv ps wr (.slice ap ps.length cp) HPS.out (hx.out.low G.out))
     go_wp2_with fail
     refine CL.out.mono ?_
     rintro e w2 ⟨v2, rfl, O2, L2⟩
     have HSR := Lib.hid (show w1.heap.size < wr.heap.size from Nat.lt_of_lt_of_le HX.out.lt G.out.size)
     have SO := Lib.hid (sortU_c wr.heap.size v2 ps w2 O2 HPS.out)
     unfold ordUV at SO
     have GL := Lib.hid (GG.out.trans L2)
     have LL := Lib.hid (G.out.trans L2)
     have HV2 := Lib.hid (show ∀ g, v2.ownBlock = some g → wr.heap.size ≤ g from fun g hg => (World.ownsRow.lt O2 g hg).1)
     clear O2 L2 CL e2
     go_wp2_with fail
     refine SO.out.mono ?_
     rintro e w3 ⟨rfl, rs, hperm, hsrt, O3, K3⟩
     have CP := Lib.hid fun W (h : Low w3 W) => cpt_c (fun b => wr.heap.size ≤ b) wr.heap.size v2 HV2.out rs W (O3.low h) (by rw [hperm.length_eq]; exact HPS.out)
     have hdd : dd cmpUs rs = canU ps := dd_uniq good_us (fun _ _ _ _ h => us_zero h) hperm hsrt fun _ _ => trivial
     rw [hdd] at CP
     have B3 := Lib.hid ((BE.out.low GL.out).kept K3 (fun e => by have := HV2.out _ e.symm; have := HSR.out; have := HS1.out; omega))
     have X3 := Lib.hid ((HX.out.low LL.out).kept K3 (fun e => by have := HV2.out _ e.symm; have := HSR.out; omega))
     have Z3 := Lib.hid ((BZ.out.low GL.out).kept K3 (fun e => by have := HV2.out _ e.symm; have := HSR.out; have := HS1.out; omega))
     have HB2 := Lib.hid (show some w.heap.size ≠ v2.ownBlock from fun e => by have := HV2.out _ e.symm; have := HSR.out; have := HS1.out; omega)
     have HX2 := Lib.hid (show some w1.heap.size ≠ v2.ownBlock from fun e => by have := HV2.out _ e.symm; have := HSR.out; omega)
     have HZ2 := Lib.hid (show some (w.heap.size + 1) ≠ v2.ownBlock from fun e => by have := HV2.out _ e.symm; have := HSR.out; have := HS1.out; omega)
     have K3' := Lib.hid K3
     clear hperm hsrt O3 K3 hdd SO
     have e0 : w3.cell? ⟨w.heap.size, 0, none⟩ = some (.string u.t) := B3.out.at 0 _ rfl
     have e1 : w3.cell? ⟨w.heap.size, 1, none⟩ = some (.string u.i) := B3.out.at 1 _ rfl
     obtain ⟨x0, x1, x2, x3, x4, x5, x6, x7⟩ := X3.out.at8
     obtain ⟨c0, c1, c2, c3, c4, c5, c6, c7, c8, c9, c10⟩ := Z3.out.at11
     obtain ⟨f0, f1, f2, f3, f4, f5, f6, f7, f8, f9, f10⟩ := Z3.out.op11
     go_wp2_with fail
     have CPD := Lib.hid (CP.out w3.drew (show Low w3 w3.drew from Low.drewN w3 1))
     clear CP
     go_region_with (go_at_call 82; refine CPD.out.mono ?_; rintro e w4 ⟨v4, rfl, U4, K4⟩; obtain ⟨ao4, cp4, rfl, hz4, -⟩ := id U4; have KK4 : KeptButv w3 w4 v2.ownBlock := (KeptButv.of_low (r := v2.ownBlock) (Low.drewN w3 1)).trans K4; have B4 := B3.out.kept KK4 (HB2.out); have X4 := X3.out.kept KK4 (HX2.out); have Z4 := Z3.out.kept KK4 (HZ2.out); have e0 : w4.cell? ⟨w.heap.size, 0, none⟩ = some (.string u.t) := B4.at 0 _ rfl; have e1 : w4.cell? ⟨w.heap.size, 1, none⟩ = some (.string u.i) := B4.at 1 _ rfl; obtain ⟨x0, x1, x2, x3, x4, x5, x6, x7⟩ := X4.at8; obtain ⟨c0, c1, c2, c3, c4, c5, c6, c7, c8, c9, c10⟩ := Z4.at11; obtain ⟨f0, f1, f2, f3, f4, f5, f6, f7, f8, f9, f10⟩ := Z4.op11; have U5 := Lib.hid U4; have K5 := Lib.hid KK4; clear U4 K4 KK4 B4 X4 Z4 hz4)
     all_goals
      go_wp2_with fail
      refine bodyPost_ret (v := .tuple #[.agg #[.string u.t, .string u.i, .slice ao4 (canU ps).length cp4, .int .i64 x.h.k, .bool x.h.b, .int .i64 x.h.n, .string x.h.s, .string x.h.t, .string x.h.i, .slice bi x.l.length di, .slice bn x.ns.length dn], .int .i64 0]) (by simp [results, Tryz.results41, go_sem, World.cell?_setCell_same', c0, c1, c2, c3, c4, c5, c6, c7, c8, c9, c10]; try rfl) rfl ?_
      have K11 := kept11 w4 (w.heap.size + 1) (.string u.t) (.string u.i) (.slice ao4 (canU ps).length cp4) (.int .i64 x.h.k) (.bool x.h.b) (.int .i64 x.h.n) (.string x.h.s) (.string x.h.t) (.string x.h.i) (.slice bi x.l.length di) (.slice bn x.ns.length dn)
      have hs1 := HSR.out
      have hs0 := HS1.out
      have LF : Low w w4 := (((HL.out.trans HL1.out).trans GL.out).kept K3'.out fun g hg => by have := HV2.out g hg; omega).kept K5.out fun g hg => by have := HV2.out g hg; omega
      refine ⟨⟨⟨u, canU ps, x⟩, ao4, cp4, bi, di, bn, dn⟩, by rw [hee.out], low_allv LF (Nat.le_succ _) K11, fun _ => ⟨HO.out.symm, ?_, ?_⟩⟩
      ·exact UsIn.to (fun b ha hb => ⟨by omega, K11.2.2.2 b hb (by simp; omega)⟩) U5.out
      ·refine Rep.to (fun b ha hb => ?_) _ HR.out
       simp at ha
       have s2 := GL.out.size
       have s3 := K3'.out.2.2.1
       have s4 := K5.out.2.2.1
       have hne : some b ≠ v2.ownBlock := fun e => by have := HV2.out b e.symm; omega
       exact ⟨by omega, ((K11.2.2.2 b (by omega) (by simp; omega)).trans (K5.out.2.2.2 b (by omega) hne)).trans ((K3'.out.2.2.2 b (by omega) hne).trans (GL.out.2.2.2 b hb))⟩
end Go.Proofs.YtnchohglplobeaaGreat
