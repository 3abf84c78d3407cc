/- The reference's Check, Below, Same. Condition: as said. -/
import Derived.Test.YtnenjgngahipdaaGreatZg13
import Derived.Test.YtnenjgngahipdaaGreatZg10
import Derived.Deep.DeepCutAuto
set_option linter.unusedVariables false
set_option linter.unusedSimpArgs false
set_option linter.unnecessarySimpa false
namespace Go.Proofs.YtnenjgngahipdaaGreat
open Go.RowKit
def chkE (n : Nat) (t : T) : Int := if 50 < dpt n t then 11 else if mayB n t then 0 else 1
theorem chkE_ok {n : Nat} {t : T} : chkE n t = 0 ↔ dpt n t ≤ 50 ∧ mayB n t = true := by
  unfold chkE
  by_cases h : 50 < dpt n t
  · rw [if_pos h]; constructor
    · intro h; simp at h
    · rintro ⟨h2, -⟩; omega
  · rw [if_neg h]
    by_cases h2 : mayB n t = true
    · rw [if_pos h2]; exact ⟨fun _ => ⟨by omega, h2⟩, fun _ => rfl⟩
    · rw [if_neg h2]; constructor
      · intro h; simp at h
      · rintro ⟨-, h3⟩; exact absurd h3 h2
set_option maxHeartbeats 1600000 in
theorem rCheck_c {A : Nat → Prop} {n : Nat} (hn : n ≤ 1000000) (t : T) (w : World) (e v : Value) (h : RT A w n t e v) : Calls Tryz.prog 11 #[tv t e v] w fun e w' => e = .returned (.int .i64 (chkE n t)) ∧ Low w w' := by
  obtain ⟨pe, ce, pv, cv, rfl, rfl, z1, z2, z3, z4⟩ := h.sl
  obtain ⟨U, hU⟩ : ∃ U, U = w.alloc (box4 t pe ce pv cv) := ⟨_, rfl⟩
  have LU := Lib.hid (show Low w U by rw [hU]; exact low_new (Low.refl w) _)
  have hd := depth_n n hn A t U _ _ (h.low LU.out)
  have HM := Lib.hid fun W (l : Low U W) => may_c n A t W _ _ (h.low (LU.out.trans l))
  obtain ⟨r, hr⟩ : ∃ r, r = chkE n t := ⟨_, rfl⟩
  have HR := Lib.hid hr
  have FU := Lib.hid (show U.cell? ⟨w.heap.size, 0, none⟩ = some (.int .i64 t.k) ∧ U.cell? ⟨w.heap.size, 1, none⟩ = some (.string t.n) ∧ U.cell? ⟨w.heap.size, 2, none⟩ = some (.slice pe t.l.length ce) ∧ U.cell? ⟨w.heap.size, 3, none⟩ = some (.slice pv t.ats.length cv) from low_box (show Low (w.alloc (box4 t pe ce pv cv)) U by rw [← hU]; exact Low.refl U))
  rw [← hr]
  obtain ⟨d, hd'⟩ : ∃ d, d = dpt n t := ⟨_, rfl⟩
  rw [← hd'] at hd
  have HD' := Lib.hid hd'
  have HU := Lib.hid hU
  have hd9 : d ≤ 1000000 := by have := dpt_le n t; omega
  unfold tv at *
  have HD := Lib.hid hd
  clear h hr hd' hU hd
  go_enter Tryz.func11, Tryz.ntmps11
  go_upto_region 1 with fail
  rw [show w.alloc (.cells #[.int .i64 t.k, .string t.n, .slice pe t.l.length ce, .slice pv t.ats.length cv] 31) = U from HU.out.symm]
  obtain ⟨f0, f1, f2, f3⟩ := FU.out
  clear FU
  by_cases h50 : 50 < d
  · have z : (50 : Int) < (d : Int) := by omega
    have HQ := Lib.hid (show 11 = r by rw [HR.out, chkE, if_pos (by rw [← HD'.out]; exact h50)])
    go_wp2_with fail
    refine HD.out.mono ?_
    rintro e w1 ⟨rfl, l1⟩
    have L1 := Lib.hid l1
    clear l1
    go_wp2_with fail
    go_ret
    exact ⟨retI HQ.out, LU.out.trans L1.out⟩
  · have z : ¬ (50 : Int) < (d : Int) := by omega
    obtain ⟨b, hb⟩ : ∃ b, b = mayB n t := ⟨_, rfl⟩
    have HQ := Lib.hid (show (if b then 0 else 1) = r by rw [HR.out, chkE, if_neg (show ¬ 50 < dpt n t by rw [← HD'.out]; exact h50), hb])
    go_wp2_with fail
    refine HD.out.mono ?_
    rintro e w1 ⟨rfl, l1⟩
    have L1 := Lib.hid l1
    have hm := HM.out w1 l1
    rw [← hb] at hm
    have HM2 := Lib.hid hm
    have f0 := l1.keep f0
    have f1 := l1.keep f1
    have f2 := l1.keep f2
    have f3 := l1.keep f3
    clear l1 hb hm
    go_wp2_with fail
    refine HM2.out.mono ?_
    rintro e w2 ⟨rfl, l2⟩
    have L2 := Lib.hid l2
    clear l2
    cases b with
    | true =>
      go_wp2_with fail
      go_ret
      exact ⟨retI HQ.out, (LU.out.trans L1.out).trans L2.out⟩
    | false =>
      go_wp2_with fail
      go_ret
      exact ⟨retI HQ.out, (LU.out.trans L1.out).trans L2.out⟩
def BelC (F : Nat) (n : Nat) : Prop := ∀ (A A' : Nat → Prop) (a b : T) (w : World) (e v e' v' : Value), RT A w n a e v → RT A' w n b e' v' → mayB n a = true → mayB n b = true → Calls Tryz.prog F #[tv a e v, tv b e' v'] w (fun e w' => e = .returned (.bool (belB n a b)) ∧ Low w w')
theorem low_box2 {w wr : World} {c0 c1 c2 c3 d0 d1 d2 d3 : Value} {t t' : TypeId} (h : Low ((w.alloc (.cells #[c0, c1, c2, c3] t)).alloc (.cells #[d0, d1, d2, d3] t')) wr) :
    (wr.cell? ⟨w.heap.size, 0, none⟩ = some c0 ∧ wr.cell? ⟨w.heap.size, 1, none⟩ = some c1 ∧ wr.cell? ⟨w.heap.size, 2, none⟩ = some c2 ∧ wr.cell? ⟨w.heap.size, 3, none⟩ = some c3) ∧
    (wr.cell? ⟨w.heap.size + 1, 0, none⟩ = some d0 ∧ wr.cell? ⟨w.heap.size + 1, 1, none⟩ = some d1 ∧ wr.cell? ⟨w.heap.size + 1, 2, none⟩ = some d2 ∧ wr.cell? ⟨w.heap.size + 1, 3, none⟩ = some d3) := by
  refine ⟨low_box ((low_new (Low.refl _) _).trans h), ?_⟩
  have := low_box h
  rwa [show (w.alloc (.cells #[c0, c1, c2, c3] t)).heap.size = w.heap.size + 1 by simp] at this
theorem beq_t {a b : Int} (h : a = b) : (a == b) = true := by simpa using h
theorem beq_f {a b : Int} (h : ¬ a = b) : (a == b) = false := by simpa using h
set_option maxHeartbeats 3200000 in
set_option maxRecDepth 100000 in
theorem rBelow_n (n : Nat) : BelC 14 n := by
  induction n with
  | zero => intro A A' a b w e v e' v' h; exact h.elim
  | succ n ih =>
    intro A A' a b w e v e' v' ha hb ma mb
    obtain ⟨pe, ce, pv, cv, rfl, rfl, z1, z2, z3, z4⟩ := ha.sl
    obtain ⟨pe', ce', pv', cv', rfl, rfl, z1', z2', z3', z4'⟩ := hb.sl
    obtain ⟨-, hla, haa⟩ := rt_succ.1 ha
    obtain ⟨-, hlb, hab⟩ := rt_succ.1 hb
    have HLA := Lib.hid hla
    have HAA := Lib.hid haa
    have HLB := Lib.hid hlb
    have HAB := Lib.hid hab
    have IH := Lib.hid ih
    have MA := Lib.hid ma
    have MB := Lib.hid mb
    obtain ⟨r, hr⟩ : ∃ r, r = belB (n + 1) a b := ⟨_, rfl⟩
    have HR := Lib.hid hr
    rw [← hr]
    clear ha hb hla haa hlb hab ih ma mb hr
    unfold tv
    by_cases h0 : a.k = 0
    · have HQ := Lib.hid (show true = r by rw [HR.out, belB]; simp [h0])
      have b0 := beq_t h0
      clear h0
      go_enter Tryz.func14, Tryz.ntmps14
      go_wp2_with fail
      go_ret
      exact ⟨retB HQ.out, low_new (low_new (Low.refl w) _) _⟩
    have b0 := beq_f h0
    by_cases h1 : a.k = 1 ∧ b.k = 3
    · obtain ⟨h1, h3⟩ := h1
      have HQ := Lib.hid (show true = r by rw [HR.out, belB]; simp [h1, h3])
      have b1 := beq_t h1
      have b3 := beq_t h3
      clear h0 h1 h3
      go_enter Tryz.func14, Tryz.ntmps14
      go_wp2_with fail
      go_ret
      exact ⟨retB HQ.out, low_new (low_new (Low.refl w) _) _⟩
    by_cases h2 : a.k = 2 ∧ b.k = 3
    · obtain ⟨h2, h3⟩ := h2
      have HQ := Lib.hid (show true = r by rw [HR.out, belB]; simp [h2, h3])
      have b2 := beq_t h2
      have b1 : (a.k == 1) = false := beq_f (by omega)
      have b3 := beq_t h3
      clear h0 h1 h2 h3
      go_enter Tryz.func14, Tryz.ntmps14
      go_wp2_with fail
      go_ret
      exact ⟨retB HQ.out, low_new (low_new (Low.refl w) _) _⟩
    have hno : ¬ (a.k = 0 ∨ ((a.k = 1 ∨ a.k = 2) ∧ b.k = 3)) := by omega
    -- the first question is false in each of three ways
    have hway : ((a.k == 1) = true ∧ (b.k == 3) = false) ∨ ((a.k == 1) = false ∧ (a.k == 2) = true ∧ (b.k == 3) = false) ∨ ((a.k == 1) = false ∧ (a.k == 2) = false) := by
      by_cases g1 : a.k = 1
      · exact .inl ⟨beq_t g1, beq_f (by omega)⟩
      · by_cases g2 : a.k = 2
        · exact .inr (.inl ⟨beq_f g1, beq_t g2, beq_f (by omega)⟩)
        · exact .inr (.inr ⟨beq_f g1, beq_f g2⟩)
    by_cases hk : a.k = b.k
    case neg =>
      have HQ := Lib.hid (show false = r by rw [HR.out, belB, if_neg hno, if_pos hk])
      have bk := beq_f hk
      have bk2 : (!a.k == b.k) = true := by rw [bk]; rfl
      clear h0 h1 h2 hno
      rcases hway with ⟨b1, b3⟩ | ⟨b1, b2, b3⟩ | ⟨b1, b2⟩
      all_goals
        go_enter Tryz.func14, Tryz.ntmps14
        go_wp2_with fail
        go_ret
        exact ⟨retB HQ.out, low_new (low_new (Low.refl w) _) _⟩
    have HR2 := Lib.hid (show r = if a.k = 6 then decide (a.n = b.n) else if a.k = 7 then belB n a.hd b.hd else if a.k = 8 then pairB (fun x y => (!ao x || ao y) && belB n (aty x) (aty y)) a.ats b.ats else true by rw [HR.out, belB, if_neg hno, if_neg (by simpa using hk)])
    have HK := Lib.hid hk
    rw [← hk] at hway
    rw [← hk]
    have hway2 : (a.k == 6) = false ∧ (((a.k == 1) = true ∧ (a.k == 3) = false) ∨ ((a.k == 1) = false ∧ (a.k == 2) = true ∧ (a.k == 3) = false) ∨ ((a.k == 1) = false ∧ (a.k == 2) = false)) ∧ (a.k == 7) = false ∧ (a.k == 8) = false ∨ (a.k = 6 ∨ a.k = 7 ∨ a.k = 8) := by
      by_cases g : a.k = 6 ∨ a.k = 7 ∨ a.k = 8
      · exact .inr g
      · exact .inl ⟨beq_f (by omega), hway, beq_f (by omega), beq_f (by omega)⟩
    clear h0 h1 h2 hno hk hway HR
    rcases hway2 with ⟨b6, hway, b7, b8⟩ | hk
    · have HQ := Lib.hid (show true = r by
        have g6 : ¬ a.k = 6 := by simpa using b6
        have g7 : ¬ a.k = 7 := by simpa using b7
        have g8 : ¬ a.k = 8 := by simpa using b8
        rw [HR2.out, if_neg g6, if_neg g7, if_neg g8])
      rcases hway with ⟨b1, b3⟩ | ⟨b1, b2, b3⟩ | ⟨b1, b2⟩
      all_goals
        go_enter Tryz.func14, Tryz.ntmps14
        go_wp2_with fail
        go_ret
        exact ⟨retB HQ.out, low_new (low_new (Low.refl w) _) _⟩
    have b1 : (a.k == 1) = false := beq_f (by omega)
    have b2 : (a.k == 2) = false := beq_f (by omega)
    rcases hk with hk | hk | hk
    · have b6 := beq_t hk
      have b7 : (a.k == 7) = false := beq_f (by omega)
      have b8 : (a.k == 8) = false := beq_f (by omega)
      by_cases hn : a.n = b.n
      · have HQ := Lib.hid (show true = r by rw [HR2.out, if_pos hk]; simp [hn])
        rw [← hn]
        clear hk hn
        go_enter Tryz.func14, Tryz.ntmps14
        go_wp2_with fail
        all_goals first
          | (go_ret
             exact ⟨retB HQ.out, low_new (low_new (Low.refl w) _) _⟩)
          | (exfalso; simp_all; done)
      · have HQ := Lib.hid (show false = r by rw [HR2.out, if_pos hk]; simp [hn])
        have bn2 : ¬ a.n.toList = b.n.toList := fun h => hn (tl_inj.1 h)
        have bn : (a.n.toList == b.n.toList) = false := by simpa using bn2
        have bn3 : (!a.n.toList == b.n.toList) = true := by rw [bn]; rfl
        clear hk hn
        go_enter Tryz.func14, Tryz.ntmps14
        go_wp2_with fail
        all_goals first
          | (go_ret
             exact ⟨retB HQ.out, low_new (low_new (Low.refl w) _) _⟩)
          | (exfalso; simp_all; done)
    · have b6 : (a.k == 6) = false := beq_f (by omega)
      have b7 := beq_t hk
      obtain ⟨x, hx, hhx, mx⟩ := may_set MA.out hk
      obtain ⟨y, hy, hhy, my⟩ := may_set MB.out (HK.out ▸ hk)
      have HQ := Lib.hid (show belB n x y = r by rw [HR2.out, if_neg (by omega), if_pos hk, hhx, hhy])
      clear hk hhx hhy
      have hxl : a.l.length = 1 := by rw [hx]; rfl
      have hyl : b.l.length = 1 := by rw [hy]; rfl
      rw [hxl, hyl]
      rw [hxl] at HLA z1
      rw [hyl] at HLB z1'
      rw [hx] at HLA
      rw [hy] at HLB
      obtain ⟨U, hU⟩ : ∃ U, U = (w.alloc (.cells #[.int .i64 a.k, .string a.n, .slice pe 1 ce, .slice pv a.ats.length cv] 31)).alloc (.cells #[.int .i64 a.k, .string b.n, .slice pe' 1 ce', .slice pv' b.ats.length cv'] 31) := ⟨_, rfl⟩
      have LU := Lib.hid (show Low w U by rw [hU]; exact low_new (low_new (Low.refl w) _) _)
      have FU := Lib.hid (fun W (h : Low U W) => low_box2 (w := w) (wr := W) (hU ▸ h))
      have HU := Lib.hid hU
      clear hU hx hy hxl hyl
      obtain ⟨p, o, qe, de, qv, dv, rfl, -, e0, e1, e2, e3, hx⟩ := RL.at (RL.low HLA.out LU.out) (j := 0) (by simp)
      obtain ⟨p', o', qe', de', qv', dv', rfl, -, g0, g1, g2, g3, hy⟩ := RL.at (RL.low HLB.out LU.out) (j := 0) (by simp)
      simp only [List.getElem_cons_zero, Nat.zero_mul, Nat.add_zero] at e0 e1 e2 e3 g0 g1 g2 g3 hx hy
      have HC := Lib.hid fun q : InL U => Calls.low q (show Calls Tryz.prog 14 #[.agg #[.int .i64 x.k, .string x.n, .slice qe x.l.length de, .slice qv x.ats.length dv], .agg #[.int .i64 y.k, .string y.n, .slice qe' y.l.length de', .slice qv' y.ats.length dv']] q.w _ from IH.out A A' x y q.w _ _ _ _ (hx.low q.ok) (hy.low q.ok) mx my)
      rw [HQ.out] at HC
      clear hx hy mx my HQ HLA HLB
      go_enter Tryz.func14, Tryz.ntmps14
      go_upto_region 6 with fail
      rw [← HU.out]
      obtain ⟨⟨f0, f1, f2, f3⟩, i0, i1, i2, i3⟩ := FU.out U (Low.refl U)
      clear FU HU
      have f2 := fun q : InL U => q.cell f2
      have i2 := fun q : InL U => q.cell i2
      have e0 := fun q : InL U => q.cell e0
      have e1 := fun q : InL U => q.cell e1
      have e2 := fun q : InL U => q.cell e2
      have e3 := fun q : InL U => q.cell e3
      have g0 := fun q : InL U => q.cell g0
      have g1 := fun q : InL U => q.cell g1
      have g2 := fun q : InL U => q.cell g2
      have g3 := fun q : InL U => q.cell g3
      haveI := InL.some U
      go_wp2_with fail
      refine wp_region_low mixedT (by kernel_rfl) ?_
      repeat (go_big_quiet_step (with_reducible exact HC.out _))
      refine wpQuiet_nil ?_
      rintro W8 ⟨p8, hW8⟩
      have L8 := Lib.hid (show Low U W8 by rw [hW8]; exact p8.ok)
      clear hW8 p8 HC e0 e1 e2 e3 g0 g1 g2 g3 f2 i2
      go_wp2_with fail
      go_ret
      exact ⟨rfl, LU.out.trans L8.out⟩
    · have b6 : (a.k == 6) = false := beq_f (by omega)
      have b7 : (a.k == 7) = false := beq_f (by omega)
      have b8 := beq_t hk
      have hr8 : r = pairB (fun x y => (!ao x || ao y) && belB n (aty x) (aty y)) a.ats b.ats := by rw [HR2.out, if_neg (by omega), if_neg (by omega), if_pos hk]
      have C1 := Lib.hid (show namesB a.ats b.ats = false → false = r from fun h => by
        rw [hr8]; symm; rw [Bool.eq_false_iff]; intro k
        obtain ⟨k1, k2⟩ := (pairB_iff _ _).1 k
        rw [namesB_yes k1 fun j h1 h2 => (k2 j h1 h2).1] at h; simp at h)
      have C2 := Lib.hid (show ∀ j (h1 : j < a.ats.length) (h2 : j < b.ats.length), (belB n (aty a.ats[j]) (aty b.ats[j]) = false ∨ (ao a.ats[j] = true ∧ ao b.ats[j] = false)) → false = r from fun j h1 h2 h => by
        rw [hr8]; symm; rw [Bool.eq_false_iff]; intro k
        obtain ⟨k1, k2⟩ := (pairB_iff _ _).1 k
        have k3 := (k2 j h1 h2).2
        rcases h with h | ⟨h, h'⟩
        · simp [h] at k3
        · simp [h, h'] at k3)
      have C3 := Lib.hid (show namesB a.ats b.ats = true → (∀ j (h1 : j < a.ats.length) (h2 : j < b.ats.length), belB n (aty a.ats[j]) (aty b.ats[j]) = true ∧ (ao a.ats[j] = false ∨ ao b.ats[j] = true)) → true = r from fun h h3 => by
        rw [hr8]; symm
        have hm := of_decide_eq_true h
        refine (pairB_iff _ _).2 ⟨by simpa using congrArg List.length hm, fun j h1 h2 => ⟨?_, ?_⟩⟩
        · have := congrArg (fun x => x[j]?) hm
          simpa [h1, h2] using this
        · obtain ⟨k1, k2⟩ := h3 j h1 h2
          rcases k2 with k2 | k2 <;> simp [k1, k2])
      have CM := Lib.hid (show ∀ j (h1 : j < a.ats.length) (h2 : j < b.ats.length), mayB n (aty a.ats[j]) = true ∧ mayB n (aty b.ats[j]) = true from fun j h1 h2 => ⟨may_as MA.out (List.getElem_mem h1), may_as MB.out (List.getElem_mem h2)⟩)
      have C4 := Lib.hid (show namesB a.ats b.ats = true → a.ats.length = b.ats.length from fun h => by simpa using congrArg List.length (of_decide_eq_true h))
      obtain ⟨U, hU⟩ : ∃ U, U = (w.alloc (.cells #[.int .i64 a.k, .string a.n, .slice pe a.l.length ce, .slice pv a.ats.length cv] 31)).alloc (.cells #[.int .i64 a.k, .string b.n, .slice pe' b.l.length ce', .slice pv' b.ats.length cv'] 31) := ⟨_, rfl⟩
      have LU := Lib.hid (show Low w U by rw [hU]; exact low_new (low_new (Low.refl w) _) _)
      have FU := Lib.hid (fun W (h : Low U W) => low_box2 (w := w) (wr := W) (hU ▸ h))
      have HU := Lib.hid hU
      have HN := Lib.hid (rNames_c a.ats b.ats U _ _ (RAs.low HAA.out LU.out) (RAs.low HAB.out LU.out))
      obtain ⟨q, hq⟩ : ∃ q, q = namesB a.ats b.ats := ⟨_, rfl⟩
      rw [← hq] at C1 C3 HN C4
      clear hU hk hr8 hq MA MB HR2
      go_enter Tryz.func14, Tryz.ntmps14
      go_upto_region 9 with fail
      rw [← HU.out]
      obtain ⟨⟨f0, f1, f2, f3⟩, i0, i1, i2, i3⟩ := FU.out U (Low.refl U)
      go_wp2_with fail
      refine HN.out.mono ?_
      rintro e w1 ⟨rfl, l1⟩
      have L1 := Lib.hid l1
      clear l1 HN HU
      cases q with
      | false =>
        have HQ := Lib.hid (C1.out (by first | rfl | trivial))
        clear C1 C2 C3 CM C4
        go_wp2_with fail
        go_ret
        exact ⟨retB HQ.out, LU.out.trans L1.out⟩
      | true =>
        have HLEN := Lib.hid (C4.out (by first | rfl | trivial))
        clear C1 C4 f0 f1 f2 f3 i0 i1 i2 i3
        obtain ⟨⟨f0, f1, f2, f3⟩, i0, i1, i2, i3⟩ := FU.out w1 L1.out
        go_wp2_with fail
        go_loopg [6, 7] a.ats.length (fun gk vi vx wr => ∃ i : Nat, vi = .int .i64 (i : Int) ∧ i ≤ a.ats.length ∧ a.ats.length - i ≤ gk ∧ Hid (Low U wr) ∧ Hid (∀ j (h1 : j < a.ats.length) (h2 : j < b.ats.length), j < i → belB n (aty a.ats[j]) (aty b.ats[j]) = true ∧ (ao a.ats[j] = false ∨ ao b.ats[j] = true)))
        case atStart => exact ⟨0, rfl, Nat.zero_le _, Nat.le_refl _, L1, Lib.hid fun j h1 h2 h => absurd h (Nat.not_lt_zero _)⟩
        case round =>
          clear f0 f1 f2 f3 i0 i1 i2 i3
          obtain ⟨i, rfl, hi, hg, G, K⟩ := hrel
          obtain ⟨⟨f0, f1, f2, f3⟩, i0, i1, i2, i3⟩ := FU.out wr G.out
          have G0 := Lib.hid (LU.out.trans G.out)
          by_cases hlt : i < a.ats.length
          · have zl : (i : Int) < (a.ats.length : Int) := by omega
            have hlt' : i < b.ats.length := by have := HLEN.out; omega
            have zl' : (i : Int) < (b.ats.length : Int) := by omega
            obtain ⟨p, o, qe, de, qv, dv, rfl, -, e0, e1, e2, e3, e4, e5, -, hx⟩ := RAs.at (RAs.low HAA.out G0.out) hlt
            obtain ⟨p', o', qe', de', qv', dv', rfl, -, g0, g1, g2, g3, g4, g5, -, hy⟩ := RAs.at (RAs.low HAB.out G0.out) hlt'
            obtain ⟨c, hc⟩ : ∃ c, c = belB n (aty a.ats[i]) (aty b.ats[i]) := ⟨_, rfl⟩
            obtain ⟨m1, m2⟩ := CM.out i hlt hlt'
            have HC := Lib.hid fun q : InL wr => Calls.low q (show Calls Tryz.prog 14 #[.agg #[.int .i64 (aty a.ats[i]).k, .string (aty a.ats[i]).n, .slice qe (aty a.ats[i]).l.length de, .slice qv (aty a.ats[i]).ats.length dv], .agg #[.int .i64 (aty b.ats[i]).k, .string (aty b.ats[i]).n, .slice qe' (aty b.ats[i]).l.length de', .slice qv' (aty b.ats[i]).ats.length dv']] q.w _ from IH.out A A' _ _ q.w _ _ _ _ (hx.low q.ok) (hy.low q.ok) m1 m2)
            rw [← hc] at HC
            have HCC := Lib.hid hc
            clear hx hy hc m1 m2
            go_wp2_with fail
            have f3p := fun q : InL wr => q.cell f3
            have i3p := fun q : InL wr => q.cell i3
            have e1p := fun q : InL wr => q.cell e1
            have e2p := fun q : InL wr => q.cell e2
            have e3p := fun q : InL wr => q.cell e3
            have e4p := fun q : InL wr => q.cell e4
            have g1p := fun q : InL wr => q.cell g1
            have g2p := fun q : InL wr => q.cell g2
            have g3p := fun q : InL wr => q.cell g3
            have g4p := fun q : InL wr => q.cell g4
            haveI := InL.some wr
            refine wp_region_low mixedT (by kernel_rfl) ?_
            repeat (go_big_quiet_step (with_reducible exact HC.out _))
            refine wpQuiet_nil ?_
            rintro W8 ⟨p8, hW8⟩
            have l8 : Low wr W8 := by rw [hW8]; exact p8.ok
            have L8 := Lib.hid (G.out.trans l8)
            have f3 := l8.keep f3
            have i3 := l8.keep i3
            have e5 := l8.keep e5
            have g5 := l8.keep g5
            clear hW8 p8 HC f3p i3p e1p e2p e3p e4p g1p g2p g3p g4p e0 e1 e2 e3 e4 g0 g1 g2 g3 g4 l8 f0 f1 f2 i0 i1 i2 this
            have hoo : (c = false ∨ (ao a.ats[i] = true ∧ ao b.ats[i] = false)) ∨ (c = true ∧ ao a.ats[i] = false) ∨ (c = true ∧ ao a.ats[i] = true ∧ ao b.ats[i] = true) := by
              cases c <;> cases ao a.ats[i] <;> cases ao b.ats[i] <;> simp
            rcases hoo with h | ⟨hc, h⟩ | ⟨hc, h, h'⟩
            · have HQ := Lib.hid (C2.out i hlt hlt' (by rw [← HCC.out]; exact h))
              rcases h with h | ⟨h, h'⟩
              · subst h
                go_wp2_with fail
                go_ret
                exact ⟨retB HQ.out, LU.out.trans L8.out⟩
              · rw [h] at e5
                rw [h'] at g5
                cases c with
                | false =>
                  go_wp2_with fail
                  go_ret
                  exact ⟨retB HQ.out, LU.out.trans L8.out⟩
                | true =>
                  go_wp2_with fail
                  go_ret
                  exact ⟨retB HQ.out, LU.out.trans L8.out⟩
            · have HK2 := Lib.hid (show ao a.ats[i] = false ∨ ao b.ats[i] = true from .inl h)
              subst hc
              rw [h] at e5
              clear h
              go_wp2_with fail
              go_roundg (a.ats.length - (i + 1))
              case measure => omega
              case rel =>
                refine ⟨i + 1, by go_num, by omega, by omega, L8, Lib.hid fun j h1 h2 hji => ?_⟩
                rcases Nat.lt_succ_iff_lt_or_eq.1 hji with h | rfl
                · exact K.out j h1 h2 h
                · exact ⟨HCC.out.symm, HK2.out⟩
            · have HK2 := Lib.hid (show ao a.ats[i] = false ∨ ao b.ats[i] = true from .inr h')
              subst hc
              rw [h] at e5
              rw [h'] at g5
              clear h h'
              go_wp2_with fail
              go_roundg (a.ats.length - (i + 1))
              case measure => omega
              case rel =>
                refine ⟨i + 1, by go_num, by omega, by omega, L8, Lib.hid fun j h1 h2 hji => ?_⟩
                rcases Nat.lt_succ_iff_lt_or_eq.1 hji with h | rfl
                · exact K.out j h1 h2 h
                · exact ⟨HCC.out.symm, HK2.out⟩
          · have zl : ¬ (i : Int) < (a.ats.length : Int) := by omega
            have HQ := Lib.hid (C3.out (by first | rfl | trivial) fun j h1 h2 => K.out j h1 h2 (by omega))
            go_wp2_with fail
            go_ret
            exact ⟨retB HQ.out, G0.out⟩
theorem rBelow_c (n : Nat) : BelC 14 n := rBelow_n n
end Go.Proofs.YtnenjgngahipdaaGreat
