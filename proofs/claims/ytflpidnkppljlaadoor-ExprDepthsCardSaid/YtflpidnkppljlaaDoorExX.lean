/- Parse of a text. Condition: the text is shorter than 2^32; the table of marks is as it was laid. Layer 8's examples hold. Condition: the table of marks is as it was laid. -/
import Derived.Test.YtflpidnkppljlaaDoorExZ
import Derived.Test.YtflpidnkppljlaaDoorExA
import Derived.Test.YtflpidnkppljlaaDoorExQ
import Derived.Test.YtflpidnkppljlaaDoorLxK
set_option linter.unusedVariables false
set_option linter.unnecessarySimpa false
set_option linter.unusedSimpArgs false
namespace Go.Proofs.YtflpidnkppljlaaDoor
open Go.RowKit
/-- What Parse answers. -/
def parR (ws : List Wd) : Ex × Int × Int :=
  match rdT ws 0 with
  | .bad e p => (ex0, e, (p : Int))
  | .ok y n => if (wdA ws n).k ≠ 0 then (ex0, 10, ((wdA ws n).a : Int)) else if 50 < exDep y then (ex0, 11, 0) else (y, 0, 0)
def parT (L : List UInt8) : Ex × Int × Int := if (lexL L).1 ≠ 0 then (ex0, (lexL L).1, ((lexL L).2.1 : Int)) else parR (lexL L).2.2
theorem parR_bad {ws : List Wd} {e : Int} {p : Nat} (h : rdT ws 0 = .bad e p) : parR ws = (ex0, e, (p : Int)) := by unfold parR; rw [h]
theorem parR_ok {ws : List Wd} {y : Ex} {n : Int} (h : rdT ws 0 = .ok y n) : parR ws = if (wdA ws n).k ≠ 0 then (ex0, 10, ((wdA ws n).a : Int)) else if 50 < exDep y then (ex0, 11, 0) else (y, 0, 0) := by unfold parR; rw [h]
def ParP (L : List UInt8) (w : World) (e : Ending) (w' : World) : Prop := ∃ p, e = .returned (.tuple #[exv (parT L).1 p, .int .i64 (parT L).2.1, .int .i64 (parT L).2.2]) ∧ XAt (Nw w.heap.size) w' (parT L).1 p ∧ Low w w'
theorem ws_of_own {B : Nat} {w : World} {v : Value} {ws : List Wd} (h : OwnW B w v ws) : ∃ ao cap, v = .slice ao ws.length cap ∧ WsQ ao ws w ∧ (∀ g, ao = some ⟨g, 0, none⟩ → 0 < ws.length → B ≤ g) := by
  obtain ⟨ao, cap, rfl, -, -, h0⟩ := h.shape
  refine ⟨ao, cap, rfl, ?_⟩
  rcases h0 with h0 | ⟨g, rfl, hB, hg⟩
  · exact ⟨.inl h0, fun _ _ hp => by rw [h0] at hp; exact absurd hp (Nat.lt_irrefl 0)⟩
  · refine ⟨?_, fun g' he _ => by injection he with he; injection he with he; exact he ▸ hB⟩
    exact .inr ⟨g, rfl, hg, fun j hj c u hu => by
      have hc : c < 4 := by have := (List.getElem?_eq_some_iff.1 hu).1; simpa [encW] using this
      rw [OwnR.cell encW_len h j c hj hc]; exact hu⟩
theorem rdT_at {ws : List Wd} (h : WsOk ws) {y : Ex} {n : Int} (hr : rdT ws 0 = .ok y n) : ∃ k : Nat, n = (k : Int) ∧ k < ws.length := by
  have h1 := (advEM h.en (12 * leftW ws 0 + 12)).rd _ _ _ _ _ hr
  exact ⟨n.toNat, by omega, by omega⟩
theorem rdT_bad {ws : List Wd} {e : Int} {p : Nat} (h : rdT ws 0 = .bad e p) : e ≠ 0 := by rcases (badE (12 * leftW ws 0 + 12)).rd 0 0 0 e p h with h | h <;> omega
theorem rdT_dep {ws : List Wd} {y : Ex} {n : Int} (h : rdT ws 0 = .ok y n) (hl : ws.length ≤ 70000) : exDep y ≤ 1000000 := by
  have h1 := (depE (12 * leftW ws 0 + 12)).rd 0 0 0 y n h
  have h2 := (advE (12 * leftW ws 0 + 12)).rd 0 0 0 y n h
  omega
theorem wsq_cells {ao : Option Addr} {ws : List Wd} {w : World} (h : WsQ ao ws w) {k : Nat} (hk : k < ws.length) : ∃ g, ao = some ⟨g, 0, none⟩ ∧ w.cell? ⟨g, k * 4, none⟩ = some (.int .i64 ws[k].k) ∧ w.cell? ⟨g, k * 4 + 3, none⟩ = some (.int .i64 (ws[k].a : Int)) := by
  rcases h with rfl | ⟨g, rfl, -, hc⟩
  · simp at hk
  · exact ⟨g, rfl, hc k hk 0 _ rfl, hc k hk 3 _ rfl⟩
set_option maxHeartbeats 8000000 in
set_option maxRecDepth 100000 in
theorem parse_c8 (s : ByteArray) (hs : s.size ≤ 4294967294) (w : World) (hm : MkAt w) : Calls Tryd.prog 9 #[.string s] w (ParP s.data.toList w) := by
  have HW := Lib.hid fun X => words_c s hs (w.alloc X) (hm.low (low_new (Low.refl w) X))
  unfold WordsP at HW
  obtain ⟨er, her⟩ : ∃ er, (lexL s.data.toList).1 = er := ⟨_, rfl⟩
  obtain ⟨pl, hpl⟩ : ∃ pl, (lexL s.data.toList).2.1 = pl := ⟨_, rfl⟩
  obtain ⟨ws, hws⟩ : ∃ ws, (lexL s.data.toList).2.2 = ws := ⟨_, rfl⟩
  have HP : parT s.data.toList = if er ≠ 0 then (ex0, er, (pl : Int)) else parR ws := by unfold parT; rw [her, hpl, hws]
  have HOK : er = 0 → WsOk ws := fun e => by rw [← hws]; exact lexL_ok (by rw [her]; exact e)
  rw [her, hpl, hws] at HW
  clear hm her hpl hws
  by_cases he : er = 0
  · subst he
    rw [if_neg (by decide)] at HP
    have OK := Lib.hid (HOK rfl)
    have HPP := Lib.hid HP
    clear HOK HP
    go_enter Tryd.func9, Tryd.ntmps9
    go_wp2_with fail
    refine (HW.out _).mono ?_
    rintro e w1 ⟨v, rfl, hv, l1⟩
    obtain ⟨ao, cap, rfl, hq, hgb⟩ := ws_of_own hv
    have HGB := Lib.hid hgb
    clear hgb
    have HQ := Lib.hid hq
    have L1 := Lib.hid l1
    clear hv hq l1 HW
    go_wp2_with fail
    refine (read8_c OK.out.len OK.out.nam 0 (by decide) (by decide) w1 HQ.out).mono ?_
    rintro e w2 ⟨p, rfl, x2, l2⟩
    have L2 := Lib.hid (L1.out.trans l2)
    have HS2 := Lib.hid (show w.heap.size + 1 ≤ w1.heap.size by have := L1.out.size; simpa using this)
    have X2 := Lib.hid (x2.lower (B' := w.heap.size + 1) HS2.out)
    have HQ2 := Lib.hid (HQ.out.low l2)
    clear x2 l2
    obtain ⟨R, hR⟩ : ∃ R, rdT ws 0 = R := ⟨_, rfl⟩
    rw [hR] at X2 ⊢
    have HRR := Lib.hid hR
    clear hR
    cases R with
    | bad e p8 =>
      have HR := Lib.hid (show parT s.data.toList = (ex0, e, (p8 : Int)) from HPP.out.trans (parR_bad HRR.out))
      have z0 : (e != 0) = true := by have := rdT_bad HRR.out; simpa using this
      unfold exv
      simp only [Rd.num]
      obtain ⟨⟨c0, c1, c2, c3, c4, c5, c6, c7, c8, c9, c10, c11⟩, fz⟩ := boxL12 (L2.out.trans (Low.refl w2))
      have G := Lib.hid (boxL12 (L2.out.trans (low_new (Low.refl w2) (.cells #[.int .i64 (Rd.bad e p8 : Rd Ex).ex.op, .int .i64 (Rd.bad e p8 : Rd Ex).ex.v.k, .bool (Rd.bad e p8 : Rd Ex).ex.v.b, .int .i64 (Rd.bad e p8 : Rd Ex).ex.v.n, .string ⟨(Rd.bad e p8 : Rd Ex).ex.v.s.toArray⟩, .string ⟨(Rd.bad e p8 : Rd Ex).ex.v.t.toArray⟩, .string ⟨(Rd.bad e p8 : Rd Ex).ex.v.i.toArray⟩, .slice none 0 0, .slice none 0 0, .string ⟨(Rd.bad e p8 : Rd Ex).ex.nm.toArray⟩, .slice p.ka (Rd.bad e p8 : Rd Ex).ex.ks.length p.kc, .slice p.na (Rd.bad e p8 : Rd Ex).ex.ns.length p.nc] 30))))
      clear c0 c1 c2 c3 c4 c5 c6 c7 c8 c9 c10 c11 fz
      obtain ⟨⟨c0, c1, c2, c3, c4, c5, c6, c7, c8, c9, c10, c11⟩, fz⟩ := G.out
      go_wp2_with fail
      obtain ⟨E0, E1, E2, E3, E4, E5, E6, E7, E8, E9, E10, E11⟩ := put12 c0 c1 c2 c3 c4 c5 c6 c7 c8 c9 c10 c11
      refine bodyPost_ret (v := .tuple #[.agg #[.int .i64 0, .int .i64 0, .bool false, .int .i64 0, .string ⟨#[]⟩, .string ⟨#[]⟩, .string ⟨#[]⟩, .slice none 0 0, .slice none 0 0, .string ⟨#[]⟩, .slice none 0 0, .slice none 0 0], .int .i64 e, .int .i64 (p8 : Int)]) (by simp [results, Tryd.results9, go_sem, E0, E1, E2, E3, E4, E5, E6, E7, E8, E9, E10, E11]) rfl ?_
      unfold ParP
      rw [HR.out]
      exact ⟨pl0, rfl, xAt_leaf _ _ _ _ _, Lx.to_low (Low.refl w) (tow_lxk (b := w.heap.size) (Lx.of_low ((low_new (Low.refl w) _).trans (L2.out.trans (low_new (Low.refl _) _)))) (Nat.le_refl _)) (Nat.le_refl _)⟩
    | ok y n =>
      obtain ⟨k, hnk, hk⟩ := rdT_at OK.out HRR.out
      subst hnk
      have HR := Lib.hid (HPP.out.trans (parR_ok HRR.out))
      have HDEP := Lib.hid (rdT_dep HRR.out OK.out.len)
      obtain ⟨g, rfl, hc0, hc3⟩ := wsq_cells HQ2.out hk
      have hng : w.heap.size < g := by have h := HGB.out g rfl (by omega); have e : (w.alloc (.cells #[.int .i64 0, .int .i64 0, .bool false, .int .i64 0, .string ⟨#[]⟩, .string ⟨#[]⟩, .string ⟨#[]⟩, .slice none 0 0, .slice none 0 0, .string ⟨#[]⟩, .slice none 0 0, .slice none 0 0] 30)).heap.size = w.heap.size + 1 := (by simp); omega
      have hne1 : g ≠ w.heap.size := by omega
      have hne2 : w.heap.size ≠ g := by omega
      clear hng
      obtain ⟨kk, hkk⟩ : ∃ kk, ws[k].k = kk := ⟨_, rfl⟩
      obtain ⟨ka, hka⟩ : ∃ ka : Nat, ws[k].a = ka := ⟨_, rfl⟩
      replace hc0 : w2.cell? ⟨g, k * 4, none⟩ = some (.int .i64 kk) := by rw [← hkk]; exact hc0
      replace hc3 : w2.cell? ⟨g, k * 4 + 3, none⟩ = some (.int .i64 (ka : Int)) := by rw [← hka]; exact hc3
      have HKK := Lib.hid (show (wdA ws (k : Int)).k = kk by rw [wdA_at hk]; exact hkk)
      have HKA := Lib.hid (show (wdA ws (k : Int)).a = ka by rw [wdA_at hk]; exact hka)
      have hc0' := (low_new (Low.refl w2) (.cells #[.int .i64 y.op, .int .i64 y.v.k, .bool y.v.b, .int .i64 y.v.n, .string ⟨y.v.s.toArray⟩, .string ⟨y.v.t.toArray⟩, .string ⟨y.v.i.toArray⟩, .slice none 0 0, .slice none 0 0, .string ⟨y.nm.toArray⟩, .slice p.ka y.ks.length p.kc, .slice p.na y.ns.length p.nc] 30)).keep hc0
      have hc3' := (low_new (Low.refl w2) (.cells #[.int .i64 y.op, .int .i64 y.v.k, .bool y.v.b, .int .i64 y.v.n, .string ⟨y.v.s.toArray⟩, .string ⟨y.v.t.toArray⟩, .string ⟨y.v.i.toArray⟩, .slice none 0 0, .slice none 0 0, .string ⟨y.nm.toArray⟩, .slice p.ka y.ks.length p.kc, .slice p.na y.ns.length p.nc] 30)).keep hc3
      have hlt : (k : Int) < (ws.length : Int) := by omega
      have hk0 : (0 : Int) ≤ (k : Int) := Int.natCast_nonneg k
      have hkz : ¬ ((k : Int) < 0) := by omega
      have hkn : ((k : Int)).toNat = k := Int.toNat_natCast k
      clear hkk hka hk hc0 hc3
      unfold exv
      simp only [Rd.num, Rd.ex] at X2 ⊢
      have G := Lib.hid (boxL12 (L2.out.trans (low_new (Low.refl w2) (.cells #[.int .i64 y.op, .int .i64 y.v.k, .bool y.v.b, .int .i64 y.v.n, .string ⟨y.v.s.toArray⟩, .string ⟨y.v.t.toArray⟩, .string ⟨y.v.i.toArray⟩, .slice none 0 0, .slice none 0 0, .string ⟨y.nm.toArray⟩, .slice p.ka y.ks.length p.kc, .slice p.na y.ns.length p.nc] 30))))
      obtain ⟨⟨c0, c1, c2, c3, c4, c5, c6, c7, c8, c9, c10, c11⟩, fz⟩ := G.out
      obtain ⟨⟨d0, d1, d2, d3, d4, d5, d6, d7, d8, d9, d10, d11⟩, dz⟩ := BoxE.new w2 y p 30
      by_cases hkk : kk = 0
      · subst hkk
        have HDC := Lib.hid fun W (hx : KAt W (roE y) p.ka y.ks.length p.kc) => depth_c8 (roE y) (by rw [ro_dep]; exact HDEP.out) W ⟨y.op, y.v.k, y.v.b, y.v.n, ⟨y.v.s.toArray⟩, ⟨y.v.t.toArray⟩, ⟨y.v.i.toArray⟩, none, 0, 0, none, 0, 0, ⟨y.nm.toArray⟩, p.na, y.ns.length, p.nc⟩ p.ka y.ks.length p.kc hx
        go_wp2_with fail
        refine (HDC.out _ (kAt_of y (X2.out.low (low_new (Low.refl w2) _)))).mono ?_
        rintro e w3 ⟨rfl, l3⟩
        rw [ro_dep]
        have HL3 := Lib.hid (L2.out.trans ((low_new (Low.refl w2) (.cells #[.int .i64 y.op, .int .i64 y.v.k, .bool y.v.b, .int .i64 y.v.n, .string ⟨y.v.s.toArray⟩, .string ⟨y.v.t.toArray⟩, .string ⟨y.v.i.toArray⟩, .slice none 0 0, .slice none 0 0, .string ⟨y.nm.toArray⟩, .slice p.ka y.ks.length p.kc, .slice p.na y.ns.length p.nc] 30)).trans l3))
        have X3 := Lib.hid ((X2.out.low (low_new (Low.refl w2) (.cells #[.int .i64 y.op, .int .i64 y.v.k, .bool y.v.b, .int .i64 y.v.n, .string ⟨y.v.s.toArray⟩, .string ⟨y.v.t.toArray⟩, .string ⟨y.v.i.toArray⟩, .slice none 0 0, .slice none 0 0, .string ⟨y.nm.toArray⟩, .slice p.ka y.ks.length p.kc, .slice p.na y.ns.length p.nc] 30))).low l3)
        have G3 := Lib.hid (boxL12 HL3.out)
        have D3 := Lib.hid ((BoxE.new w2 y p 30).low l3)
        clear c0 c1 c2 c3 c4 c5 c6 c7 c8 c9 c10 c11 fz d0 d1 d2 d3 d4 d5 d6 d7 d8 d9 d10 d11 dz hc0' hc3' l3 HDC
        obtain ⟨⟨c0, c1, c2, c3, c4, c5, c6, c7, c8, c9, c10, c11⟩, fz⟩ := G3.out
        obtain ⟨⟨d0, d1, d2, d3, d4, d5, d6, d7, d8, d9, d10, d11⟩, dz⟩ := D3.out
        have HC := Lib.hid (show (exDep y : Int) ≤ 1000000 by have := HDEP.out; omega)
        obtain ⟨D, hD⟩ : ∃ D : Int, (exDep y : Int) = D := ⟨_, rfl⟩
        have HD := Lib.hid hD
        rw [hD]
        clear hD
        by_cases h50 : (50 : Int) < D
        · go_wp2_with fail
          obtain ⟨E0, E1, E2, E3, E4, E5, E6, E7, E8, E9, E10, E11⟩ := put12 c0 c1 c2 c3 c4 c5 c6 c7 c8 c9 c10 c11
          refine bodyPost_ret (v := .tuple #[.agg #[.int .i64 0, .int .i64 0, .bool false, .int .i64 0, .string ⟨#[]⟩, .string ⟨#[]⟩, .string ⟨#[]⟩, .slice none 0 0, .slice none 0 0, .string ⟨#[]⟩, .slice none 0 0, .slice none 0 0], .int .i64 11, .int .i64 0]) (by simp [results, Tryd.results9, go_sem, E0, E1, E2, E3, E4, E5, E6, E7, E8, E9, E10, E11]) rfl ?_
          unfold ParP
          rw [HR.out, HKK.out, if_neg (fun h => h rfl), if_pos (by have := HD.out; omega)]
          exact ⟨pl0, rfl, xAt_leaf _ _ _ _ _, Lx.to_low (Low.refl w) (tow_lxk (b := w.heap.size) (Lx.of_low ((low_new (Low.refl w) _).trans HL3.out)) (Nat.le_refl _)) (Nat.le_refl _)⟩
        · go_wp2_with fail
          obtain ⟨E0, E1, E2, E3, E4, E5, E6, E7, E8, E9, E10, E11⟩ := put12 c0 c1 c2 c3 c4 c5 c6 c7 c8 c9 c10 c11
          refine bodyPost_ret (v := .tuple #[.agg #[.int .i64 y.op, .int .i64 y.v.k, .bool y.v.b, .int .i64 y.v.n, .string ⟨y.v.s.toArray⟩, .string ⟨y.v.t.toArray⟩, .string ⟨y.v.i.toArray⟩, .slice none 0 0, .slice none 0 0, .string ⟨y.nm.toArray⟩, .slice p.ka y.ks.length p.kc, .slice p.na y.ns.length p.nc], .int .i64 0, .int .i64 0]) (by simp [results, Tryd.results9, go_sem, E0, E1, E2, E3, E4, E5, E6, E7, E8, E9, E10, E11]) rfl ?_
          unfold ParP
          rw [HR.out, HKK.out, if_neg (fun h => h rfl), if_neg (by have := HD.out; omega)]
          exact ⟨p, rfl, tow_x (w := w) (B := w.heap.size + 1) X3.out (Nat.lt_succ_self _), Lx.to_low (Low.refl w) (tow_lxk (b := w.heap.size) (Lx.of_low ((low_new (Low.refl w) _).trans HL3.out)) (Nat.le_refl _)) (Nat.le_refl _)⟩
      · have z0 : (kk != 0) = true := by simpa using hkk
        go_wp2_with fail
        go_region
        all_goals
          go_wp2_with fail
          obtain ⟨E0, E1, E2, E3, E4, E5, E6, E7, E8, E9, E10, E11⟩ := put12 c0 c1 c2 c3 c4 c5 c6 c7 c8 c9 c10 c11
          refine bodyPost_ret (v := .tuple #[.agg #[.int .i64 0, .int .i64 0, .bool false, .int .i64 0, .string ⟨#[]⟩, .string ⟨#[]⟩, .string ⟨#[]⟩, .slice none 0 0, .slice none 0 0, .string ⟨#[]⟩, .slice none 0 0, .slice none 0 0], .int .i64 10, .int .i64 (ka : Int)]) (by simp [results, Tryd.results9, go_sem, E0, E1, E2, E3, E4, E5, E6, E7, E8, E9, E10, E11]) rfl ?_
          unfold ParP
          rw [HR.out, HKK.out, if_pos hkk, HKA.out]
          exact ⟨pl0, rfl, xAt_leaf _ _ _ _ _, (Lx.to_low (Low.refl w) (tow_lxk (b := w.heap.size) (Lx.of_low ((low_new (Low.refl w) _).trans (L2.out.trans (low_new (Low.refl w2) (.cells #[.int .i64 y.op, .int .i64 y.v.k, .bool y.v.b, .int .i64 y.v.n, .string ⟨y.v.s.toArray⟩, .string ⟨y.v.t.toArray⟩, .string ⟨y.v.i.toArray⟩, .slice none 0 0, .slice none 0 0, .string ⟨y.nm.toArray⟩, .slice p.ka y.ks.length p.kc, .slice p.na y.ns.length p.nc] 30))))) (Nat.le_refl _)) (Nat.le_refl _)).trans (Low.of_drew ⟨1, rfl⟩)⟩
  · have HR := Lib.hid (show parT s.data.toList = (ex0, er, (pl : Int)) by rw [HP, if_pos he])
    have z0 : (er != 0) = true := by simpa using he
    clear HP HOK he
    go_enter Tryd.func9, Tryd.ntmps9
    go_wp2_with fail
    refine (HW.out _).mono ?_
    rintro e w1 ⟨v, rfl, hv, l1⟩
    obtain ⟨ao, cap, rfl, hq, -⟩ := ws_of_own hv
    have L2 := Lib.hid l1
    obtain ⟨⟨c0, c1, c2, c3, c4, c5, c6, c7, c8, c9, c10, c11⟩, fz⟩ := boxL12 l1
    clear hv hq l1 HW
    go_wp2_with fail
    obtain ⟨E0, E1, E2, E3, E4, E5, E6, E7, E8, E9, E10, E11⟩ := put12 c0 c1 c2 c3 c4 c5 c6 c7 c8 c9 c10 c11
    refine bodyPost_ret (v := .tuple #[.agg #[.int .i64 0, .int .i64 0, .bool false, .int .i64 0, .string ⟨#[]⟩, .string ⟨#[]⟩, .string ⟨#[]⟩, .slice none 0 0, .slice none 0 0, .string ⟨#[]⟩, .slice none 0 0, .slice none 0 0], .int .i64 er, .int .i64 (pl : Int)]) (by simp [results, Tryd.results9, go_sem, E0, E1, E2, E3, E4, E5, E6, E7, E8, E9, E10, E11]) rfl ?_
    unfold ParP
    rw [HR.out]
    exact ⟨pl0, rfl, xAt_leaf _ _ _ _ _, Lx.to_low (Low.refl w) (tow_lxk (b := w.heap.size) (Lx.of_low ((low_new (Low.refl w) _).trans L2.out)) (Nat.le_refl _)) (Nat.le_refl _)⟩
end Go.Proofs.YtflpidnkppljlaaDoor
namespace Go.Proofs.YtflpidnkppljlaaDoor
open Go.RowKit
def awY : Ex := nodE 8 [nodE 11 [litE { li0 with k := 2, n := 1 }, nodE 13 [litE { li0 with k := 2, n := 2 }, litE { li0 with k := 2, n := 3 }]], litE { li0 with k := 2, n := 7 }]
set_option maxRecDepth 100000 in
theorem aw_e1 : parT (ByteArray.mk #[49, 32, 43, 32, 50, 32, 42, 32, 51, 32, 61, 61, 32, 55]).data.toList = (awY, 0, 0) := by kernel_rfl
set_option maxRecDepth 100000 in
theorem aw_e2 : parT (ByteArray.mk #[97]).data.toList = (ex0, 10, 0) := by kernel_rfl
set_option maxRecDepth 100000 in
theorem aw_e3 : (lexL (ByteArray.mk #[85, 115, 101, 114, 58, 58, 34, 97, 34, 32, 120]).data.toList).1 = 0 := by decide +kernel
set_option maxRecDepth 100000 in
theorem aw_e4 : udT (lexL (ByteArray.mk #[85, 115, 101, 114, 58, 58, 34, 97, 34, 32, 120]).data.toList).2.2 0 = .ok ([85, 115, 101, 114], [97]) 3 := by kernel_rfl
theorem pw1 (w : World) (hm : MkAt w) : Calls Tryd.prog 9 #[.string (ByteArray.mk #[49, 32, 43, 32, 50, 32, 42, 32, 51, 32, 61, 61, 32, 55])] w fun e w' => ∃ (g kc : Nat) (na : Option Addr) (nc : Nat), e = .returned (.tuple #[.agg #[.int .i64 8, .int .i64 0, .bool false, .int .i64 0, .string ⟨#[]⟩, .string ⟨#[]⟩, .string ⟨#[]⟩, .slice none 0 0, .slice none 0 0, .string ⟨#[]⟩, .slice (some ⟨g, 0, none⟩) 2 kc, .slice na 0 nc], .int .i64 0, .int .i64 0]) ∧ w'.cell? ⟨g, 0, none⟩ = some (.int .i64 11) ∧ KAt w' (roE awY) (some ⟨g, 0, none⟩) 2 kc ∧ Low w w' := by
  refine (parse_c8 _ (by decide) w hm).mono ?_
  rintro e w1 ⟨p, he, hx, hl⟩
  rw [aw_e1] at he hx
  have hk := kAt_of awY hx
  obtain ⟨-, -, hr⟩ := xAt_v.1 hx
  rcases hr with hr | ⟨g, hg, -, hr⟩
  · exact absurd hr (by simp [awY, nodE, Ex.ks])
  · obtain ⟨q, hc, -⟩ := xRow_at hr 0 (by decide)
    refine ⟨g, p.kc, p.na, p.nc, ?_, hc 0 _ rfl, ?_, hl⟩
    · rw [he, ← hg]; rfl
    · rw [← hg]; exact hk
theorem pw2 (w : World) (hm : MkAt w) : Calls Tryd.prog 9 #[.string (ByteArray.mk #[97])] w fun e w' => ∃ (ka : Option Addr) (kc : Nat) (na : Option Addr) (nc : Nat), e = .returned (.tuple #[.agg #[.int .i64 0, .int .i64 0, .bool false, .int .i64 0, .string ⟨#[]⟩, .string ⟨#[]⟩, .string ⟨#[]⟩, .slice none 0 0, .slice none 0 0, .string ⟨#[]⟩, .slice ka 0 kc, .slice na 0 nc], .int .i64 10, .int .i64 0]) ∧ Low w w' := by
  refine (parse_c8 _ (by decide) w hm).mono ?_
  rintro e w1 ⟨p, he, hx, hl⟩
  rw [aw_e2] at he
  exact ⟨p.ka, p.kc, p.na, p.nc, he, hl⟩
theorem pw3 (w : World) (hm : MkAt w) : Calls Tryd.prog 10 #[.string (ByteArray.mk #[85, 115, 101, 114, 58, 58, 34, 97, 34, 32, 120])] w fun e w' => ∃ (ao : Option Addr) (n cap : Nat) (er pl : Int), e = .returned (.tuple #[.slice ao n cap, .int .i64 er, .int .i64 pl]) ∧ (∀ w2, Low w' w2 → Calls Tryd.prog 11 #[.slice ao n cap, .int .i64 0] w2 fun e w3 => e = .returned (.tuple #[.agg #[.string ⟨#[85, 115, 101, 114]⟩, .string ⟨#[97]⟩], .int .i64 3, .int .i64 0, .int .i64 0]) ∧ Low w2 w3) ∧ Low w w' := by
  refine (words_c _ (by decide) w hm).mono ?_
  rintro e w1 ⟨v, rfl, hv, l1⟩
  obtain ⟨ao, cap, rfl, hq, -⟩ := ws_of_own hv
  have OK := lexL_ok aw_e3
  refine ⟨ao, _, cap, _, _, rfl, fun w2 hw2 => ?_, l1⟩
  refine (uid8_c OK.len OK.nam 0 (by decide) (by decide) w2 (hq.low hw2)).mono ?_
  rintro e w3 ⟨he, hl⟩
  rw [aw_e4] at he
  exact ⟨he, hl⟩
set_option maxHeartbeats 3200000 in
set_option maxRecDepth 100000 in
theorem awake8_c (w : World) (hm : MkAt w) : Calls Tryd.prog 4 #[] w fun e w' => e = .returned (.bool true) ∧ Low w w' := by
  have HM := Lib.hid hm
  clear hm
  go_enter Tryd.func4, Tryd.ntmps4
  go_wp2_with fail
  refine (pw1 _ HM.out).mono ?_
  rintro e w1 ⟨g, kc, na, nc, rfl, hg, hk, l1⟩
  have HG := Lib.hid hg
  have HK := Lib.hid hk
  have L1 := Lib.hid (low_new l1 (.cells #[.int .i64 8, .int .i64 0, .bool false, .int .i64 0, .string ⟨#[]⟩, .string ⟨#[]⟩, .string ⟨#[]⟩, .slice none 0 0, .slice none 0 0, .string ⟨#[]⟩, .slice (some ⟨g, 0, none⟩) 2 kc, .slice na 0 nc] 30))
  have B1 := Lib.hid (boxL12 (Low.refl (w1.alloc (.cells #[.int .i64 8, .int .i64 0, .bool false, .int .i64 0, .string ⟨#[]⟩, .string ⟨#[]⟩, .string ⟨#[]⟩, .slice none 0 0, .slice none 0 0, .string ⟨#[]⟩, .slice (some ⟨g, 0, none⟩) 2 kc, .slice na 0 nc] 30))))
  have L1' := Lib.hid (low_new (Low.refl w1) (.cells #[.int .i64 8, .int .i64 0, .bool false, .int .i64 0, .string ⟨#[]⟩, .string ⟨#[]⟩, .string ⟨#[]⟩, .slice none 0 0, .slice none 0 0, .string ⟨#[]⟩, .slice (some ⟨g, 0, none⟩) 2 kc, .slice na 0 nc] 30))
  clear hg hk l1
  go_wp2_with fail
  refine (pw2 _ (HM.out.low L1.out)).mono ?_
  rintro e w2 ⟨ka2, kc2, na2, nc2, rfl, l2⟩
  have L2 := Lib.hid (low_new l2 (.cells #[.int .i64 0, .int .i64 0, .bool false, .int .i64 0, .string ⟨#[]⟩, .string ⟨#[]⟩, .string ⟨#[]⟩, .slice none 0 0, .slice none 0 0, .string ⟨#[]⟩, .slice ka2 0 kc2, .slice na2 0 nc2] 30))
  clear l2
  go_wp2_with fail
  refine (pw3 _ (HM.out.low (L1.out.trans L2.out))).mono ?_
  rintro e w3 ⟨ao, n, cap, er, pl, rfl, hu, l3⟩
  have HU := Lib.hid (hu w3 (Low.refl w3))
  have L3 := Lib.hid l3
  clear l3 hu
  go_wp2_with fail
  refine (HU.out).mono ?_
  rintro e w4 ⟨rfl, l4⟩
  have L5 := Lib.hid ((L2.out.trans L3.out).trans (low_new l4 (.cells #[.string ⟨#[85, 115, 101, 114]⟩, .string ⟨#[97]⟩] 23)))
  have G := Lib.hid (boxL12 (L2.out.trans (L3.out.trans (low_new l4 (.cells #[.string ⟨#[85, 115, 101, 114]⟩, .string ⟨#[97]⟩] 23)))))
  have hg := (L1'.out.trans L5.out).keep HG.out
  have hk := HK.out.low ((L1'.out.trans L5.out)) _
  have HD := Lib.hid (depth_c8 (roE awY) (by rw [ro_dep]; decide) _ ⟨8, 0, false, 0, ⟨#[]⟩, ⟨#[]⟩, ⟨#[]⟩, none, 0, 0, none, 0, 0, ⟨#[]⟩, na, 0, nc⟩ _ _ _ hk)
  clear l4 hk
  obtain ⟨⟨c0, c1, c2, c3, c4, c5, c6, c7, c8, c9, c10, c11⟩, fz⟩ := G.out
  go_wp2_with fail
  refine (HD.out).mono ?_
  rintro e w5 ⟨rfl, l5⟩
  rw [show ((rdep (roE awY) : Nat) : Int) = 4 by rw [ro_dep]; rfl]
  have u0 : w5.cell? ⟨w4.heap.size, 0, none⟩ = some (.string ⟨#[85, 115, 101, 114]⟩) := l5.keep (by rw [World.cell?_alloc_mark]; rfl)
  have LW := Lib.hid (L1.out.trans (L5.out.trans l5))
  clear c0 c1 c2 c3 c4 c5 c6 c7 c8 c9 c10 c11 fz hg l5
  go_wp2_with fail
  go_ret
  exact ⟨rfl, LW.out⟩
end Go.Proofs.YtflpidnkppljlaaDoor
