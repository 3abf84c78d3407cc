/- The reference's entity as it must be. Condition: its rows are short. -/
import Derived.Test.YtnenjgngahipdaaGreatZRPut
import Derived.Test.YtnenjgngahipdaaGreatZg35
import Derived.Test.YtnenjgngahipdaaGreatZg25
set_option linter.unusedVariables false
set_option linter.unusedSimpArgs false
set_option linter.unnecessarySimpa false
namespace Go.Proofs.YtnenjgngahipdaaGreat
open Go.RowKit Go.Sort Go.Maps
theorem BoxAtv.put {w : World} {n : Nat} {cs : List Value} (h : BoxAtv w n cs) (j : Nat) (v : Value) : BoxAtv (w.setCell ⟨n, j, none⟩ v) n (cs.set j v) where
  cells := fun k u hk => by
    rw [Nat.zero_add]
    have hlt : k < cs.length := by have := (List.getElem?_eq_some_iff.1 hk).1; rwa [List.length_set] at this
    by_cases e : k = j
    · subst e
      rw [List.getElem?_set_self hlt] at hk
      simp at hk
      subst hk
      have h0 := h.at k _ (List.getElem?_eq_getElem hlt)
      exact World.cell?_setCell_same' _ _ _ (by rw [h0]; rfl)
    · rw [List.getElem?_set_ne (Ne.symm e)] at hk
      rw [World.cell?_setCell_other _ _ _ _ (by intro h; injection h with _ h; exact e h.symm)]
      exact h.at k u hk
  open' := fun o => by
    rw [World.frozen?_setCell]
    exact h.open' o
  lt := by
    have := h.lt
    have hs : (w.setCell ⟨n, j, none⟩ v).heap.size = w.heap.size := by simp
    rw [hs]; exact this
theorem findI_none {l : List Sh} {x : Us} (h : (fS l x).isSome = false) : findI l x = -1 := by
  unfold findI
  rw [if_neg]
  intro hi
  have := idx_at hi
  have h2 : (fS l l[idxS l x].u).isSome = true := idx_some hi
  rw [this, h] at h2
  simp at h2
theorem canU_step {ps : List Us} {i : Nat} (hi : i < ps.length) : canU (ps.take (i + 1)) = putS ps[i] (canU (ps.take i)) false := by
  rw [putS_ins (canU_rises _), List.take_succ_eq_append_getElem hi]
  unfold canU uniq
  rw [List.foldl_append]
  rfl
theorem canU_len (ps : List Us) : (canU ps).length ≤ ps.length := uniq_len ps
set_option maxHeartbeats 16000000 in
set_option maxRecDepth 100000 in
theorem rone_c (ls : List Sh) (names : List Us) (hnm : ∀ x, x ∈ names ↔ (fS ls x).isSome = true) (rl : Value) (u : Us) (ps : List Us) (v : V) (ap : Option Addr) (cp : Nat) (ai : Option Addr) (ci : Nat) (an : Option Addr) (cn : Nat) (w : World)
    (hL : EsAt w rl ls) (hP : UsAt w (.slice ap ps.length cp) ps) (hR : R w v (.slice ai v.l.length ci) (.slice an v.ns.length cn)) (hsm : Smv v) (hdp : dep v ≤ 1000000) (hps : ps.length ≤ 70000) :
    Calls Tryz.prog 82 #[rl, .agg #[.string u.t, .string u.i, .slice ap ps.length cp, .int .i64 v.h.k, .bool v.h.b, .int .i64 v.h.n, .string v.h.s, .string v.h.t, .string v.h.i, .slice ai v.l.length ci, .slice an v.ns.length cn]] w (CanEP names ⟨u, ps, v⟩ w) := by
  have L0 := (Low.alloc (Low.alloc (Low.alloc (Low.refl w) _) _) _ : Low w (((w.alloc (.cells #[.string u.t, .string u.i, .slice ap ps.length cp, .int .i64 v.h.k, .bool v.h.b, .int .i64 v.h.n, .string v.h.s, .string v.h.t, .string v.h.i, .slice ai v.l.length ci, .slice an v.ns.length cn] 71)).alloc (.cells #[.string ⟨#[]⟩, .string ⟨#[]⟩, .slice none 0 0, .int .i64 0, .bool false, .int .i64 0, .string ⟨#[]⟩, .string ⟨#[]⟩, .string ⟨#[]⟩, .slice none 0 0, .slice none 0 0] 71)).alloc (.cells #[.string u.t, .string u.i, .slice none 0 0, .int .i64 0, .bool false, .int .i64 0, .string ⟨#[]⟩, .string ⟨#[]⟩, .string ⟨#[]⟩, .slice none 0 0, .slice none 0 0] 71)))
  by_cases k6 : v.h.k = 6
  case neg =>
    have he : errE canD names ⟨u, ps, v⟩ = 1 := by unfold errE; rw [if_pos k6]
    have z6 : (v.h.k != 6) = true := by simpa using k6
    have HL := Lib.hid L0
    unfold CanEP
    rw [he]
    clear hP hR hsm hL hnm he L0 k6 hdp
    go_enter Tryz.func82, Tryz.ntmps82
    go_wp2_with fail
    refine bodyPost_ret (v := .tuple #[.agg #[.string u.t, .string u.i, .slice none 0 0, .int .i64 0, .bool false, .int .i64 0, .string ⟨#[]⟩, .string ⟨#[]⟩, .string ⟨#[]⟩, .slice none 0 0, .slice none 0 0], .int .i64 1]) (by simp [results, Tryz.results82, go_sem]; try rfl) rfl ?_
    refine ⟨⟨⟨u, [], V0⟩, none, 0, none, 0, none, 0⟩, rfl, ?_, fun h => by simp at h⟩
    exact Low.alloc (Low.alloc (Low.alloc (Low.refl w) _) _) _
  case pos =>
    have z6 : (v.h.k != 6) = false := by simpa using k6
    obtain ⟨c, x, hq⟩ : ∃ c x, canD v = (c, x) := ⟨_, _, rfl⟩
    have CN := rCanon_c v _ _ _ (hR.low L0) hsm hdp
    rw [hq] at CN
    have HC := Lib.hid (show Calls Tryz.prog 12 #[.agg #[.int .i64 v.h.k, .bool v.h.b, .int .i64 v.h.n, .string v.h.s, .string v.h.t, .string v.h.i, .slice ai v.l.length ci, .slice an v.ns.length cn]] (((w.alloc (.cells #[.string u.t, .string u.i, .slice ap ps.length cp, .int .i64 v.h.k, .bool v.h.b, .int .i64 v.h.n, .string v.h.s, .string v.h.t, .string v.h.i, .slice ai v.l.length ci, .slice an v.ns.length cn] 71)).alloc (.cells #[.string ⟨#[]⟩, .string ⟨#[]⟩, .slice none 0 0, .int .i64 0, .bool false, .int .i64 0, .string ⟨#[]⟩, .string ⟨#[]⟩, .string ⟨#[]⟩, .slice none 0 0, .slice none 0 0] 71)).alloc (.cells #[.string u.t, .string u.i, .slice none 0 0, .int .i64 0, .bool false, .int .i64 0, .string ⟨#[]⟩, .string ⟨#[]⟩, .string ⟨#[]⟩, .slice none 0 0, .slice none 0 0] 71)) (CanPost x c (((w.alloc (.cells #[.string u.t, .string u.i, .slice ap ps.length cp, .int .i64 v.h.k, .bool v.h.b, .int .i64 v.h.n, .string v.h.s, .string v.h.t, .string v.h.i, .slice ai v.l.length ci, .slice an v.ns.length cn] 71)).alloc (.cells #[.string ⟨#[]⟩, .string ⟨#[]⟩, .slice none 0 0, .int .i64 0, .bool false, .int .i64 0, .string ⟨#[]⟩, .string ⟨#[]⟩, .string ⟨#[]⟩, .slice none 0 0, .slice none 0 0] 71)).alloc (.cells #[.string u.t, .string u.i, .slice none 0 0, .int .i64 0, .bool false, .int .i64 0, .string ⟨#[]⟩, .string ⟨#[]⟩, .string ⟨#[]⟩, .slice none 0 0, .slice none 0 0] 71))) from CN)
    have he : errE canD names ⟨u, ps, v⟩ = if c ≠ 0 then c else if ps.all (fun p => decide (p ∈ names)) = true then 0 else 20 := by
      unfold errE
      rw [if_neg (by simpa using k6)]
      show (if (canD v).1 ≠ 0 then (canD v).1 else _) = _
      rw [hq]
    have ho : oneE canD ⟨u, ps, v⟩ = ⟨u, canU ps, x⟩ := by unfold oneE; rw [hq]
    have HE := Lib.hid he
    have HO := Lib.hid ho
    have HP := Lib.hid hP
    have HLS := Lib.hid hL
    have HN := Lib.hid hnm
    have HL := Lib.hid L0
    have HPS := Lib.hid hps
    have HN1 := Lib.hid (show (w.alloc (.cells #[.string u.t, .string u.i, .slice ap ps.length cp, .int .i64 v.h.k, .bool v.h.b, .int .i64 v.h.n, .string v.h.s, .string v.h.t, .string v.h.i, .slice ai v.l.length ci, .slice an v.ns.length cn] 71)).heap.size = w.heap.size + 1 by simp)
    have HN2 := Lib.hid (show ((w.alloc (.cells #[.string u.t, .string u.i, .slice ap ps.length cp, .int .i64 v.h.k, .bool v.h.b, .int .i64 v.h.n, .string v.h.s, .string v.h.t, .string v.h.i, .slice ai v.l.length ci, .slice an v.ns.length cn] 71)).alloc (.cells #[.string ⟨#[]⟩, .string ⟨#[]⟩, .slice none 0 0, .int .i64 0, .bool false, .int .i64 0, .string ⟨#[]⟩, .string ⟨#[]⟩, .string ⟨#[]⟩, .slice none 0 0, .slice none 0 0] 71)).heap.size = w.heap.size + 1 + 1 by simp)
    have HK6 := Lib.hid k6
    clear hP hR hsm hL hnm he ho L0 CN hq hps hdp k6
    unfold CanEP
    go_enter Tryz.func82, Tryz.ntmps82
    go_wp2_with fail
    refine HC.out.mono ?_
    rintro e w1 ⟨bi, di, bn, dn, rfl, hrep, hlow⟩
    have HR := Lib.hid hrep
    have HL1 := Lib.hid hlow
    have BO := Lib.hid (BoxAtv.new (w.heap.size + 1 + 1) hlow (cs := [.string u.t, .string u.i, .slice none 0 0, .int .i64 0, .bool false, .int .i64 0, .string ⟨#[]⟩, .string ⟨#[]⟩, .string ⟨#[]⟩, .slice none 0 0, .slice none 0 0]) rfl HN2.out)
    have BZ := Lib.hid (BoxAtv.new (w.heap.size + 1) ((Low.alloc (Low.refl _) _).trans hlow) (cs := zE) rfl HN1.out)
    have BE := Lib.hid (BoxAtv.new w.heap.size ((Low.alloc (Low.alloc (Low.refl _) _) _).trans hlow) (cs := [.string u.t, .string u.i, .slice ap ps.length cp, .int .i64 v.h.k, .bool v.h.b, .int .i64 v.h.n, .string v.h.s, .string v.h.t, .string v.h.i, .slice ai v.l.length ci, .slice an v.ns.length cn]) rfl rfl)
    clear hrep hlow HC
    obtain ⟨W1, hW1⟩ : ∃ W, W = w1.alloc (.cells #[.int .i64 x.h.k, .bool x.h.b, .int .i64 x.h.n, .string x.h.s, .string x.h.t, .string x.h.i, .slice bi x.l.length di, .slice bn x.ns.length dn] 27) := ⟨_, rfl⟩
    have HW1 := Lib.hid hW1
    have LW := Lib.hid (show Low w1 W1 from hW1 ▸ Low.alloc (Low.refl w1) _)
    have HX := Lib.hid (show BoxAtv W1 w1.heap.size [.int .i64 x.h.k, .bool x.h.b, .int .i64 x.h.n, .string x.h.s, .string x.h.t, .string x.h.i, .slice bi x.l.length di, .slice bn x.ns.length dn] from hW1 ▸ BoxAtv.new w1.heap.size (Low.refl (w1.alloc (.cells #[.int .i64 x.h.k, .bool x.h.b, .int .i64 x.h.n, .string x.h.s, .string x.h.t, .string x.h.i, .slice bi x.l.length di, .slice bn x.ns.length dn] 27))) rfl rfl)
    have BO1 := Lib.hid (BO.out.low LW.out)
    have BZ1 := Lib.hid (BZ.out.low LW.out)
    have BE1 := Lib.hid (BE.out.low LW.out)
    have HS1 := Lib.hid (show w.heap.size + 1 + 1 < w1.heap.size from BO.out.lt)
    have LB := Lib.hid ((HL.out.trans HL1.out).trans LW.out)
    clear hW1 BO BZ BE
    by_cases h0 : c = 0
    case neg =>
      have zc : (c != 0) = true := by simpa using h0
      obtain ⟨c0, c1, c2, c3, c4, c5, c6, c7, c8, c9, c10⟩ := BZ1.out.at11
      obtain ⟨f0, f1, f2, f3, f4, f5, f6, f7, f8, f9, f10⟩ := BZ1.out.op11
      obtain ⟨o0, o1, o2, o3, o4, o5, o6, o7, o8, o9, o10⟩ := BO1.out.at11
      have HH := Lib.hid h0
      clear h0
      go_upto_region 5 with fail
      rw [← HW1.out]
      clear HW1
      go_wp2_with fail
      refine bodyPost_ret (v := .tuple #[.agg #[.string u.t, .string u.i, .slice none 0 0, .int .i64 0, .bool false, .int .i64 0, .string ⟨#[]⟩, .string ⟨#[]⟩, .string ⟨#[]⟩, .slice none 0 0, .slice none 0 0], .int .i64 c]) (by simp [results, Tryz.results82, go_sem, World.cell?_setCell_same', c0, c1, c2, c3, c4, c5, c6, c7, c8, c9, c10]; try rfl) rfl ?_
      have hee : errE canD names ⟨u, ps, v⟩ = c := by rw [HE.out, if_pos HH.out]
      exact ⟨⟨⟨u, [], V0⟩, none, 0, none, 0, none, 0⟩, by rw [hee]; rfl, low_allv LB.out (Nat.le_succ _) (kept11 _ _ _ _ _ _ _ _ _ _ _ _ _), fun h => absurd (hee ▸ h) HH.out⟩
    case pos =>
      subst h0
      have HE0 := Lib.hid (show ps.all (fun p => decide (p ∈ names)) = true → errE canD names ⟨u, ps, v⟩ = 0 from fun h => by rw [HE.out]; simp [h])
      have HE1 := Lib.hid (show ¬ ps.all (fun p => decide (p ∈ names)) = true → errE canD names ⟨u, ps, v⟩ = 20 from fun h => by rw [HE.out]; simp [h])
      obtain ⟨W2, hW2⟩ : ∃ W, W = ((((((((W1.setCell ⟨w.heap.size + 1 + 1, 3, none⟩ (.int .i64 x.h.k)).setCell ⟨w.heap.size + 1 + 1, 4, none⟩ (.bool x.h.b)).setCell ⟨w.heap.size + 1 + 1, 5, none⟩ (.int .i64 x.h.n)).setCell ⟨w.heap.size + 1 + 1, 6, none⟩ (.string x.h.s)).setCell ⟨w.heap.size + 1 + 1, 7, none⟩ (.string x.h.t)).setCell ⟨w.heap.size + 1 + 1, 8, none⟩ (.string x.h.i)).setCell ⟨w.heap.size + 1 + 1, 9, none⟩ (.slice bi x.l.length di)).setCell ⟨w.heap.size + 1 + 1, 10, none⟩ (.slice bn x.ns.length dn)) := ⟨_, rfl⟩
      have HW2 := Lib.hid hW2
      have K12 := Lib.hid (show KeptButv W1 W2 (some (w.heap.size + 1 + 1)) from hW2 ▸ (kept_setCellv _ _ _ _).trans ((kept_setCellv _ _ _ _).trans ((kept_setCellv _ _ _ _).trans ((kept_setCellv _ _ _ _).trans ((kept_setCellv _ _ _ _).trans ((kept_setCellv _ _ _ _).trans ((kept_setCellv _ _ _ _).trans (kept_setCellv _ _ _ _))))))))
      have BO2 := Lib.hid (show BoxAtv W2 (w.heap.size + 1 + 1) [.string u.t, .string u.i, .slice none 0 0, .int .i64 x.h.k, .bool x.h.b, .int .i64 x.h.n, .string x.h.s, .string x.h.t, .string x.h.i, .slice bi x.l.length di, .slice bn x.ns.length dn] from hW2 ▸ (((((((BO1.out.put 3 _).put 4 _).put 5 _).put 6 _).put 7 _).put 8 _).put 9 _).put 10 _)
      have BZ2 := Lib.hid (BZ1.out.kept K12.out (by simp))
      have BE2 := Lib.hid (BE1.out.kept K12.out (by simp; omega))
      have L2 := Lib.hid (LB.out.kept K12.out fun g hg => by simp at hg; omega)
      obtain ⟨x0, x1, x2, x3, x4, x5, x6, x7⟩ := HX.out.at8
      obtain ⟨o0, o1, o2, o3, o4, o5, o6, o7, o8, o9, o10⟩ := BO1.out.at11
      obtain ⟨f0, f1, f2, f3, f4, f5, f6, f7, f8, f9, f10⟩ := BO1.out.op11
      have HRX := Lib.hid (show Rep (fun b => w.heap.size + 1 + 1 < b ∧ b < w1.heap.size) W2 x (.slice bi x.l.length di) (.slice bn x.ns.length dn) from Rep.to (fun b ha hb => by
        simp at ha
        have h1 := LW.out.size
        exact ⟨⟨by omega, hb⟩, (K12.out.2.2.2 b (by omega) (by simp; omega)).trans (LW.out.2.2.2 b hb)⟩) _ HR.out)
      have HSW := Lib.hid (show w1.heap.size ≤ W2.heap.size from Nat.le_trans LW.out.size K12.out.2.2.1)
      clear hW2 HE
      go_upto_region 7 with fail
      rw [← HW1.out]
      clear HW1
      go_upto_region 8 with fail
      rw [← HW2.out]
      clear HW2 x0 x1 x2 x3 x4 x5 x6 x7 o0 o1 o2 o3 o4 o5 o6 o7 o8 o9 o10 f0 f1 f2 f3 f4 f5 f6 f7 f8 f9 f10
      go_wp2_with fail
      obtain ⟨ap9, cp9, hv9, ⟨hl1, hl2⟩, hx9⟩ := HP.out
      simp only [Value.slice.injEq] at hv9
      obtain ⟨rfl, -, rfl⟩ := hv9
      have HX9 := Lib.hid hx9
      clear hx9
      go_loopg [9] ps.length (fun gk vi wr => ∃ (i : Nat) (ao : Option Addr) (ca : Nat) (rs : List Us), vi = .int .i64 (i : Int) ∧ i ≤ ps.length ∧ ps.length - i ≤ gk ∧ Hid (Low w wr) ∧ Hid (BoxAtv wr w.heap.size [.string u.t, .string u.i, .slice ap ps.length cp, .int .i64 v.h.k, .bool v.h.b, .int .i64 v.h.n, .string v.h.s, .string v.h.t, .string v.h.i, .slice ai v.l.length ci, .slice an v.ns.length cn]) ∧ Hid (BoxAtv wr (w.heap.size + 1) zE) ∧ Hid (BoxAtv wr (w.heap.size + 1 + 1) [.string u.t, .string u.i, .slice ao rs.length ca, .int .i64 x.h.k, .bool x.h.b, .int .i64 x.h.n, .string x.h.s, .string x.h.t, .string x.h.i, .slice bi x.l.length di, .slice bn x.ns.length dn]) ∧ Hid (OwnU w1.heap.size wr (.slice ao rs.length ca) rs) ∧ Hid (rs = canU (ps.take i)) ∧ Hid (Rep (fun b => w.heap.size + 1 + 1 < b ∧ b < w1.heap.size) wr x (.slice bi x.l.length di) (.slice bn x.ns.length dn)) ∧ Hid (∀ p ∈ ps.take i, p ∈ names) ∧ w1.heap.size ≤ wr.heap.size)
      case atStart => exact ⟨0, none, 0, [], rfl, Nat.zero_le _, Nat.le_refl _, L2, BE2, BZ2, BO2, Lib.hid (OwnR.nil _ _ _ _ _), Lib.hid rfl, HRX, Lib.hid fun p hp => by simp at hp, HSW.out⟩
      case round =>
        clear L2 BE2 BZ2 BO2 HRX HSW K12
        obtain ⟨i, ao, ca, rs, rfl, hi, hg, G, GE, GZ, GO, O, KR, RX, KN, hsw⟩ := hrel
        have e2 : wr.cell? ⟨w.heap.size, 2, none⟩ = some (.slice ap ps.length cp) := GE.out.at 2 _ rfl
        by_cases hlt : i < ps.length
        · have zl : (i : Int) < (ps.length : Int) := by omega
          obtain ⟨pb, po, rfl, hcs⟩ := HX9.out i hlt
          obtain ⟨d0, d1⟩ := cells2 (G.out.cells hcs)
          have hcu := canU_step hlt
          obtain ⟨p, hp⟩ : ∃ p, ps[i] = p := ⟨_, rfl⟩
          rw [hp] at d0 d1 hcu hcs
          have HT := Lib.hid (show ps.take (i + 1) = ps.take i ++ [p] by rw [← hp, List.take_succ_eq_append_getElem hlt])
          have HPM := Lib.hid (show p ∈ ps from hp ▸ List.getElem_mem hlt)
          have HCU := Lib.hid hcu
          have HCS := Lib.hid hcs
          have hfi := find_c ls p wr rl (HLS.out.low G.out)
          unfold usV at hfi
          have HRL := Lib.hid (show rs.length ≤ 70000 by have h1 := canU_len (ps.take i); have h2 := HPS.out; rw [← KR.out, List.length_take] at h1; omega)
          cases hq : (fS ls p).isSome with
          | false =>
            rw [findI_none hq] at hfi
            have HF := Lib.hid hfi
            have HQ := Lib.hid hq
            clear hfi hq hcs hp hcu
            go_wp2_with fail
            refine HF.out.mono ?_
            rintro e w3 ⟨rfl, l3⟩
            have L3 := Lib.hid (G.out.trans l3)
            obtain ⟨c0, c1, c2, c3, c4, c5, c6, c7, c8, c9, c10⟩ := (GZ.out.low l3).at11
            obtain ⟨f0, f1, f2, f3, f4, f5, f6, f7, f8, f9, f10⟩ := (GZ.out.low l3).op11
            obtain ⟨o0, o1, o2, o3, o4, o5, o6, o7, o8, o9, o10⟩ := (GO.out.low l3).at11
            clear l3 d0 d1 e2
            go_wp2_with fail
            refine bodyPost_ret (v := .tuple #[.agg #[.string u.t, .string u.i, .slice ao rs.length ca, .int .i64 x.h.k, .bool x.h.b, .int .i64 x.h.n, .string x.h.s, .string x.h.t, .string x.h.i, .slice bi x.l.length di, .slice bn x.ns.length dn], .int .i64 20]) (by simp [results, Tryz.results82, go_sem, World.cell?_setCell_same', c0, c1, c2, c3, c4, c5, c6, c7, c8, c9, c10]; try rfl) rfl ?_
            have hee : errE canD names ⟨u, ps, v⟩ = 20 := HE1.out fun h => by
              have := List.all_eq_true.1 h p HPM.out
              simp at this
              have := (HN.out p).1 this
              rw [HQ.out] at this
              simp at this
            exact ⟨⟨⟨u, rs, x⟩, ao, ca, bi, di, bn, dn⟩, by rw [hee], low_allv L3.out (Nat.le_succ _) (kept11 _ _ _ _ _ _ _ _ _ _ _ _ _), fun h => by rw [hee] at h; simp at h⟩
          | true =>
            have HQ := Lib.hid hq
            have hfz : ¬ findI ls p < 0 := by rw [findI_idx hq]; omega
            obtain ⟨fi, hfe⟩ : ∃ fi, findI ls p = fi := ⟨_, rfl⟩
            rw [hfe] at hfi hfz
            have zf : 0 ≤ fi := by omega
            have zfd : decide (fi < 0) = false := by simp; omega
            have HF := Lib.hid hfi
            clear hfi hq hcs hp hcu hfe hfz
            go_wp2_with fail
            refine HF.out.mono ?_
            rintro e w3 ⟨rfl, l3⟩
            have GE3 := Lib.hid (GE.out.low l3)
            have GZ3 := Lib.hid (GZ.out.low l3)
            have GO3 := Lib.hid (GO.out.low l3)
            have O3 := Lib.hid (OwnR.low O.out l3)
            have L3 := Lib.hid (G.out.trans l3)
            have RX3 := Lib.hid (Rep.low RX.out l3)
            have hsw3 : w1.heap.size ≤ w3.heap.size := Nat.le_trans hsw l3.size
            clear l3 d0 d1 e2
            have e2 : w3.cell? ⟨w.heap.size, 2, none⟩ = some (.slice (some ⟨pb, po, none⟩) ps.length cp) := GE3.out.at 2 _ rfl
            have o2 : w3.cell? ⟨w.heap.size + 1 + 1, 2, none⟩ = some (.slice ao rs.length ca) := GO3.out.at 2 _ rfl
            obtain ⟨d0, d1⟩ := cells2 (L3.out.cells HCS.out)
            have D3 := Lib.hid (show Low w3 w3.drew from Low.drewN w3 1)
            have hrs2 : putS p rs false = canU (ps.take (i + 1)) := by rw [KR.out, HCU.out]
            have HPC := Lib.hid (show Calls Tryz.prog 118 #[.slice ao rs.length ca, .agg #[.string p.t, .string p.i]] w3.drew (ClnP (canU (ps.take (i + 1))) w3.drew) by rw [← hrs2]; exact rput_c rs p w3.drew _ HRL.out (OwnR.usIn (A := fun _ => True) (OwnR.low O3.out D3.out) fun _ _ => trivial).any)
            clear hrs2
            go_wp2_with fail
            go_region_law (first
              | (go_simp; go_at_call 118; (refine HPC.out.mono ?_); rintro e w4 ⟨v4, rfl, O4, l4⟩; obtain ⟨ao4, cp4, rfl, -, -, -⟩ := OwnR.shape O4; have L34 := Lib.hid (D3.out.trans l4); have HO4 := Lib.hid (show OwnU _ _ _ _ from O4); obtain ⟨n4, hn4⟩ : ∃ m, m = (canU (ps.take (i + 1))).length := ⟨_, rfl⟩; rw [← hn4]; have HN4 := Lib.hid hn4; clear hn4; have o2 : w4.cell? ⟨w.heap.size + 1 + 1, 2, none⟩ = some (.slice ao rs.length ca) := (GO3.out.low L34.out).at 2 _ rfl; have q2 : w4.frozen? ⟨w.heap.size + 1 + 1, 2, none⟩ = false := (GO3.out.low L34.out).open' 2; clear O4 l4))
            all_goals
              obtain ⟨W5, hW5⟩ : ∃ W, W = w4.setCell ⟨w.heap.size + 1 + 1, 2, none⟩ (.slice ao4 n4 cp4) := ⟨_, rfl⟩
              have K45 := Lib.hid (show KeptButv w4 W5 (some (w.heap.size + 1 + 1)) from hW5 ▸ kept_setCellv _ _ _ _)
              have GO5 := Lib.hid (show BoxAtv W5 (w.heap.size + 1 + 1) [.string u.t, .string u.i, .slice ao4 (canU (ps.take (i + 1))).length cp4, .int .i64 x.h.k, .bool x.h.b, .int .i64 x.h.n, .string x.h.s, .string x.h.t, .string x.h.i, .slice bi x.l.length di, .slice bn x.ns.length dn] from by rw [← HN4.out]; exact hW5 ▸ (GO3.out.low L34.out).put 2 _)
              have GE5 := Lib.hid ((GE3.out.low L34.out).kept K45.out (by simp; omega))
              have GZ5 := Lib.hid ((GZ3.out.low L34.out).kept K45.out (by simp))
              have L5 := Lib.hid ((L3.out.trans L34.out).kept K45.out fun g hg => by simp at hg; omega)
              have hs3 := HS1.out
              have hs4 := L34.out.size
              have hs5 := K45.out.2.2.1
              have RX5 := Lib.hid (show Rep (fun b => w.heap.size + 1 + 1 < b ∧ b < w1.heap.size) W5 x (.slice bi x.l.length di) (.slice bn x.ns.length dn) from Rep.to (fun b ha hb => ⟨ha, (K45.out.2.2.2 b (by omega) (by simp; omega)).trans (L34.out.2.2.2 b hb)⟩) _ RX3.out)
              have O5 := Lib.hid (show OwnU w1.heap.size W5 (.slice ao4 (canU (ps.take (i + 1))).length cp4) (canU (ps.take (i + 1))) from OwnR.to (OwnR.base HO4.out (Nat.le_trans hsw3 D3.out.size)) fun g hg => K45.out.2.2.2 g (World.ownsRow.lt HO4.out g hg).2 (fun e => by simp at e; have h1 := (World.ownsRow.lt HO4.out g hg).1; have h2 := D3.out.size; omega))
              rw [← hW5]
              clear hW5 o2 q2 e2 d0 d1
              go_wp2_with fail
              go_roundg (ps.length - (i + 1))
              case measure => omega
              case rel =>
                refine ⟨i + 1, ao4, cp4, canU (ps.take (i + 1)), by go_num, by omega, by omega, L5, GE5, GZ5, GO5, O5, Lib.hid rfl, RX5, Lib.hid ?_, by omega⟩
                rw [HT.out]
                intro z hz
                rcases List.mem_append.1 hz with h | h
                · exact KN.out z h
                · simp at h; rw [h]; exact (HN.out p).2 HQ.out
        · have zl : ¬ (i : Int) < (ps.length : Int) := by omega
          have hil : i = ps.length := by omega
          have hall : ps.all (fun p => decide (p ∈ names)) = true := List.all_eq_true.2 fun p hp => by
            simp
            exact KN.out p (by rw [hil, List.take_length]; exact hp)
          have hee := Lib.hid (HE0.out hall)
          have hrs := Lib.hid (show rs = canU ps by rw [KR.out, hil, List.take_length])
          clear hall hil
          obtain ⟨c0, c1, c2, c3, c4, c5, c6, c7, c8, c9, c10⟩ := GZ.out.at11
          obtain ⟨f0, f1, f2, f3, f4, f5, f6, f7, f8, f9, f10⟩ := GZ.out.op11
          obtain ⟨o0, o1, o2, o3, o4, o5, o6, o7, o8, o9, o10⟩ := GO.out.at11
          go_wp2_with fail
          refine bodyPost_ret (v := .tuple #[.agg #[.string u.t, .string u.i, .slice ao rs.length ca, .int .i64 x.h.k, .bool x.h.b, .int .i64 x.h.n, .string x.h.s, .string x.h.t, .string x.h.i, .slice bi x.l.length di, .slice bn x.ns.length dn], .int .i64 0]) (by simp [results, Tryz.results82, go_sem, World.cell?_setCell_same', c0, c1, c2, c3, c4, c5, c6, c7, c8, c9, c10]; try rfl) rfl ?_
          have K11 : KeptButv wr _ (some (w.heap.size + 1)) := kept11 wr (w.heap.size + 1) (.string u.t) (.string u.i) (.slice ao rs.length ca) (.int .i64 x.h.k) (.bool x.h.b) (.int .i64 x.h.n) (.string x.h.s) (.string x.h.t) (.string x.h.i) (.slice bi x.l.length di) (.slice bn x.ns.length dn)
          have hs1 := HS1.out
          refine ⟨⟨⟨u, rs, x⟩, ao, ca, bi, di, bn, dn⟩, by rw [hee.out], low_allv G.out (Nat.le_succ _) K11, fun _ => ⟨?_, ?_, ?_⟩⟩
          · rw [HO.out, hrs.out]
          · exact UsIn.to (fun b ha hb => ⟨by omega, K11.2.2.2 b hb (by simp; omega)⟩) (OwnR.usIn (A := fun b => w1.heap.size ≤ b) O.out fun g hg => (World.ownsRow.lt O.out g hg).1)
          · exact Rep.to (fun b ha hb => ⟨by omega, K11.2.2.2 b hb (by simp; omega)⟩) _ RX.out
end Go.Proofs.YtnenjgngahipdaaGreat
