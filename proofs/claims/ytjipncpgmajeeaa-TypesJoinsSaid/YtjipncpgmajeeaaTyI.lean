/- The program's below and same of two types. Condition: types that may be. -/
import Derived.Test.YtjipncpgmajeeaaTyE
namespace Go.Proofs.Ytjipncpgmajeeaa
open Go.RowKit
def BelPC (n : Nat) : Prop := ∀ (A A' : Nat → Prop) (a b : T) (w : World) (e v e' v' : Value), RT A w n a e v → RT A' w n b e' v' → mayB n a = true → mayB n b = true → Calls Try.prog 29 #[tv a e v, tv b e' v'] w (fun e w' => e = .returned (.bool (belB n a b)) ∧ Low w w')
def SmPC (n : Nat) : Prop := ∀ (A A' : Nat → Prop) (a b : T) (w : World) (e v e' v' : Value), RT A w n a e v → RT A' w n b e' v' → mayB n a = true → mayB n b = true → Calls Try.prog 31 #[tv a e v, tv b e' v'] w (fun e w' => e = .returned (.bool (smB n a b)) ∧ Low w w')
theorem low_abox {w wr : World} {c0 c1 c2 c3 c4 c5 : Value} {t : TypeId} (h : Low (w.alloc (.cells #[c0, c1, c2, c3, c4, c5] t)) wr) :
    wr.cell? ⟨w.heap.size, 0, none⟩ = some c0 ∧ wr.cell? ⟨w.heap.size, 1, none⟩ = some c1 ∧ wr.cell? ⟨w.heap.size, 2, none⟩ = some c2 ∧ wr.cell? ⟨w.heap.size, 3, none⟩ = some c3 ∧ wr.cell? ⟨w.heap.size, 4, none⟩ = some c4 ∧ wr.cell? ⟨w.heap.size, 5, none⟩ = some c5 :=
  ⟨h.keep (by rw [World.cell?_alloc_mark]; rfl), h.keep (by rw [World.cell?_alloc_mark]; rfl), h.keep (by rw [World.cell?_alloc_mark]; rfl), h.keep (by rw [World.cell?_alloc_mark]; rfl), h.keep (by rw [World.cell?_alloc_mark]; rfl), h.keep (by rw [World.cell?_alloc_mark]; rfl)⟩
theorem low_abox2 {w wr : World} {c0 c1 c2 c3 c4 c5 d0 d1 d2 d3 d4 d5 : Value} {t t' : TypeId} (h : Low ((w.alloc (.cells #[c0, c1, c2, c3, c4, c5] t)).alloc (.cells #[d0, d1, d2, d3, d4, d5] t')) wr) :
    (wr.cell? ⟨w.heap.size, 0, none⟩ = some c0 ∧ wr.cell? ⟨w.heap.size, 1, none⟩ = some c1 ∧ wr.cell? ⟨w.heap.size, 2, none⟩ = some c2 ∧ wr.cell? ⟨w.heap.size, 3, none⟩ = some c3 ∧ wr.cell? ⟨w.heap.size, 4, none⟩ = some c4 ∧ wr.cell? ⟨w.heap.size, 5, none⟩ = some c5) ∧
    (wr.cell? ⟨w.heap.size + 1, 0, none⟩ = some d0 ∧ wr.cell? ⟨w.heap.size + 1, 1, none⟩ = some d1 ∧ wr.cell? ⟨w.heap.size + 1, 2, none⟩ = some d2 ∧ wr.cell? ⟨w.heap.size + 1, 3, none⟩ = some d3 ∧ wr.cell? ⟨w.heap.size + 1, 4, none⟩ = some d4 ∧ wr.cell? ⟨w.heap.size + 1, 5, none⟩ = some d5) := by
  refine ⟨low_abox ((low_new (Low.refl _) _).trans h), ?_⟩
  have := low_abox h
  rwa [show (w.alloc (.cells #[c0, c1, c2, c3, c4, c5] t)).heap.size = w.heap.size + 1 by simp] at this
set_option maxHeartbeats 1600000 in
theorem belowf_c {n : Nat} (hd : BelPC n) {A A' : Nat → Prop} (x y : At) (w : World) (e u e' u' : Value) (h : RT A w n (aty x) e u) (h' : RT A' w n (aty y) e' u') (hm : mayB n (aty x) = true) (hm' : mayB n (aty y) = true) :
    Calls Try.prog 42 #[av x e u, av y e' u'] w fun r w' => r = .returned (.bool ((!ao x || ao y) && belB n (aty x) (aty y))) ∧ Low w w' := by
  obtain ⟨pe, ce, pv, cv, rfl, rfl, z1, z2, z3, z4⟩ := h.sl
  obtain ⟨pe', ce', pv', cv', rfl, rfl, z1', z2', z3', z4'⟩ := h'.sl
  obtain ⟨U, hU⟩ : ∃ U, U = (w.alloc (.cells #[.string (an x), .int .i64 (aty x).k, .string (aty x).n, .slice pe (aty x).l.length ce, .slice pv (aty x).ats.length cv, .bool (ao x)] 30)).alloc (.cells #[.string (an y), .int .i64 (aty y).k, .string (aty y).n, .slice pe' (aty y).l.length ce', .slice pv' (aty y).ats.length cv', .bool (ao y)] 30) := ⟨_, rfl⟩
  have LU := Lib.hid (show Low w U by rw [hU]; exact low_new (low_new (Low.refl w) _) _)
  have FU := Lib.hid (fun W (h : Low U W) => low_abox2 (w := w) (wr := W) (hU ▸ h))
  have HC := Lib.hid fun W (l : Low U W) => hd A A' (aty x) (aty y) W _ _ _ _ (h.low (LU.out.trans l)) (h'.low (LU.out.trans l)) hm hm'
  have HU := Lib.hid hU
  obtain ⟨q, hq⟩ : ∃ q, q = belB n (aty x) (aty y) := ⟨_, rfl⟩
  rw [← hq] at HC ⊢
  obtain ⟨ox, hox⟩ : ∃ q, q = ao x := ⟨_, rfl⟩
  obtain ⟨oy, hoy⟩ : ∃ q, q = ao y := ⟨_, rfl⟩
  rw [← hox, ← hoy] at FU HU ⊢
  unfold av
  rw [← hox, ← hoy]
  unfold tv at HC
  clear h h' hd hU hq hox hoy hm hm'
  cases ox <;> cases oy
  all_goals
    go_enter Try.func42, Try.ntmps42
    go_upto_region 1 with fail
    rw [← HU.out]
    obtain ⟨⟨f0, f1, f2, f3, f4, f5⟩, i0, i1, i2, i3, i4, i5⟩ := FU.out U (Low.refl U)
    have HC1 := Lib.hid (HC.out U (Low.refl U))
    clear FU HC HU
    go_wp2_with fail
    first
    | (go_ret
       exact ⟨rfl, LU.out⟩)
    | (refine HC1.out.mono ?_
       rintro e w1 ⟨rfl, l1⟩
       have L1 := Lib.hid (LU.out.trans l1)
       clear l1 HC1 f0 f1 f2 f3 f4 f5 i0 i1 i2 i3 i4 i5
       go_wp2_with fail
       go_ret
       exact ⟨rfl, L1.out⟩)
set_option maxHeartbeats 1600000 in
theorem samef_c {n : Nat} (hd : SmPC n) {A A' : Nat → Prop} (x y : At) (w : World) (e u e' u' : Value) (h : RT A w n (aty x) e u) (h' : RT A' w n (aty y) e' u') (hm : mayB n (aty x) = true) (hm' : mayB n (aty y) = true) :
    Calls Try.prog 43 #[av x e u, av y e' u'] w fun r w' => r = .returned (.bool ((ao x == ao y) && smB n (aty x) (aty y))) ∧ Low w w' := by
  obtain ⟨pe, ce, pv, cv, rfl, rfl, z1, z2, z3, z4⟩ := h.sl
  obtain ⟨pe', ce', pv', cv', rfl, rfl, z1', z2', z3', z4'⟩ := h'.sl
  obtain ⟨U, hU⟩ : ∃ U, U = (w.alloc (.cells #[.string (an x), .int .i64 (aty x).k, .string (aty x).n, .slice pe (aty x).l.length ce, .slice pv (aty x).ats.length cv, .bool (ao x)] 30)).alloc (.cells #[.string (an y), .int .i64 (aty y).k, .string (aty y).n, .slice pe' (aty y).l.length ce', .slice pv' (aty y).ats.length cv', .bool (ao y)] 30) := ⟨_, rfl⟩
  have LU := Lib.hid (show Low w U by rw [hU]; exact low_new (low_new (Low.refl w) _) _)
  have FU := Lib.hid (fun W (h : Low U W) => low_abox2 (w := w) (wr := W) (hU ▸ h))
  have HC := Lib.hid fun W (l : Low U W) => hd A A' (aty x) (aty y) W _ _ _ _ (h.low (LU.out.trans l)) (h'.low (LU.out.trans l)) hm hm'
  have HU := Lib.hid hU
  obtain ⟨q, hq⟩ : ∃ q, q = smB n (aty x) (aty y) := ⟨_, rfl⟩
  rw [← hq] at HC ⊢
  obtain ⟨ox, hox⟩ : ∃ q, q = ao x := ⟨_, rfl⟩
  obtain ⟨oy, hoy⟩ : ∃ q, q = ao y := ⟨_, rfl⟩
  rw [← hox, ← hoy] at FU HU ⊢
  unfold av
  rw [← hox, ← hoy]
  unfold tv at HC
  clear h h' hd hU hq hox hoy hm hm'
  cases ox <;> cases oy
  all_goals
    go_enter Try.func43, Try.ntmps43
    go_upto_region 1 with fail
    rw [← HU.out]
    obtain ⟨⟨f0, f1, f2, f3, f4, f5⟩, i0, i1, i2, i3, i4, i5⟩ := FU.out U (Low.refl U)
    have HC1 := Lib.hid (HC.out U (Low.refl U))
    clear FU HC HU
    go_wp2_with fail
    first
    | (go_ret
       exact ⟨rfl, LU.out⟩)
    | (refine HC1.out.mono ?_
       rintro e w1 ⟨rfl, l1⟩
       have L1 := Lib.hid (LU.out.trans l1)
       clear l1 HC1 f0 f1 f2 f3 f4 f5 i0 i1 i2 i3 i4 i5
       go_wp2_with fail
       go_ret
       exact ⟨rfl, L1.out⟩)
set_option maxHeartbeats 3200000 in
set_option maxRecDepth 100000 in
theorem same_n (n : Nat) : SmPC n := by
  induction n with
  | zero => intro A A' a b w e v e' v' h; exact h.elim
  | succ n ih =>
    intro A A' a b w e v e' v' ha hb ma mb
    obtain ⟨pe, ce, pv, cv, rfl, rfl, z1, z2, z3, z4⟩ := ha.sl
    obtain ⟨pe', ce', pv', cv', rfl, rfl, z1', z2', z3', z4'⟩ := hb.sl
    obtain ⟨-, hla, haa⟩ := rt_succ.1 ha
    obtain ⟨-, hlb, hab⟩ := rt_succ.1 hb
    have HLA := Lib.hid hla
    have HAA := Lib.hid haa
    have HLB := Lib.hid hlb
    have HAB := Lib.hid hab
    have IH := Lib.hid ih
    have MA := Lib.hid ma
    have MB := Lib.hid mb
    obtain ⟨r, hr⟩ : ∃ r, r = smB (n + 1) a b := ⟨_, rfl⟩
    have HR := Lib.hid hr
    rw [← hr]
    clear ha hb hla haa hlb hab ih ma mb hr
    unfold tv
    by_cases hk : a.k = b.k
    case neg =>
      have HQ := Lib.hid (show false = r by rw [HR.out, smB, if_pos hk])
      have bk := beq_f hk
      have bk2 : (!a.k == b.k) = true := by rw [bk]; rfl
      clear hk
      go_enter Try.func31, Try.ntmps31
      go_wp2_with fail
      go_ret
      exact ⟨retB HQ.out, low_new (low_new (Low.refl w) _) _⟩
    have HR2 := Lib.hid (show r = if a.k = 6 then decide (a.n = b.n) else if a.k = 7 then smB n a.hd b.hd else if a.k = 8 then pairB (fun x y => (ao x == ao y) && smB n (aty x) (aty y)) a.ats b.ats else true by rw [HR.out, smB, if_neg (by simpa using hk)])
    have HK := Lib.hid hk
    rw [← hk]
    clear hk HR
    obtain ⟨U, hU⟩ : ∃ U, U = (w.alloc (.cells #[.int .i64 a.k, .string a.n, .slice pe a.l.length ce, .slice pv a.ats.length cv] 25)).alloc (.cells #[.int .i64 a.k, .string b.n, .slice pe' b.l.length ce', .slice pv' b.ats.length cv'] 25) := ⟨_, rfl⟩
    have LU := Lib.hid (show Low w U by rw [hU]; exact low_new (low_new (Low.refl w) _) _)
    have FU := Lib.hid (fun W (h : Low U W) => low_box2 (w := w) (wr := W) (hU ▸ h))
    have HU := Lib.hid hU
    clear hU
    have hk : ((a.k == 6) = false ∧ (a.k == 7) = false ∧ (a.k == 8) = false) ∨ (a.k = 6 ∨ a.k = 7 ∨ a.k = 8) := by
      by_cases g : a.k = 6 ∨ a.k = 7 ∨ a.k = 8
      · exact .inr g
      · exact .inl ⟨beq_f (by omega), beq_f (by omega), beq_f (by omega)⟩
    rcases hk with ⟨b6, b7, b8⟩ | hk
    · have HQ := Lib.hid (show true = r by
        have g6 : ¬ a.k = 6 := by simpa using b6
        have g7 : ¬ a.k = 7 := by simpa using b7
        have g8 : ¬ a.k = 8 := by simpa using b8
        rw [HR2.out, if_neg g6, if_neg g7, if_neg g8])
      go_enter Try.func31, Try.ntmps31
      go_upto_region 1 with fail
      rw [← HU.out]
      have L1 := Lib.hid (Low.refl U)
      obtain ⟨⟨f0, f1, f2, f3⟩, i0, i1, i2, i3⟩ := FU.out U (Low.refl U)
      go_wp2_with fail
      go_ret
      exact ⟨retB HQ.out, LU.out.trans L1.out⟩
    rcases hk with hk | hk | hk
    · have b6 := beq_t hk
      by_cases hn : a.n = b.n
      · have HQ := Lib.hid (show true = r by rw [HR2.out, if_pos hk]; simp [hn])
        rw [← hn]
        rw [← hn] at HU FU
        clear hk hn
        go_enter Try.func31, Try.ntmps31
        go_upto_region 1 with fail
        rw [← HU.out]
        have L1 := Lib.hid (Low.refl U)
        obtain ⟨⟨f0, f1, f2, f3⟩, i0, i1, i2, i3⟩ := FU.out U (Low.refl U)
        go_wp2_with fail
        go_ret
        exact ⟨retB HQ.out, LU.out.trans L1.out⟩
      · have HQ := Lib.hid (show false = r by rw [HR2.out, if_pos hk]; simp [hn])
        have bn2 : ¬ a.n.toList = b.n.toList := fun h => hn (tl_inj.1 h)
        have bn : (a.n.toList == b.n.toList) = false := by simpa using bn2
        clear hk hn
        go_enter Try.func31, Try.ntmps31
        go_upto_region 1 with fail
        rw [← HU.out]
        have L1 := Lib.hid (Low.refl U)
        obtain ⟨⟨f0, f1, f2, f3⟩, i0, i1, i2, i3⟩ := FU.out U (Low.refl U)
        go_wp2_with fail
        go_ret
        exact ⟨retB HQ.out, LU.out.trans L1.out⟩
    · have b6 : (a.k == 6) = false := beq_f (by omega)
      have b7 := beq_t hk
      obtain ⟨x, hx, hhx, mx⟩ := may_set MA.out hk
      obtain ⟨y, hy, hhy, my⟩ := may_set MB.out (HK.out ▸ hk)
      have HQ := Lib.hid (show smB n x y = r by rw [HR2.out, if_neg (by omega), if_pos hk, hhx, hhy])
      clear hk hhx hhy
      have hxl : a.l.length = 1 := by rw [hx]; rfl
      have hyl : b.l.length = 1 := by rw [hy]; rfl
      rw [hxl, hyl]
      rw [hxl, hyl] at HU FU
      rw [hxl] at HLA z1
      rw [hyl] at HLB z1'
      rw [hx] at HLA
      rw [hy] at HLB
      skip
      clear hx hy hxl hyl
      obtain ⟨p, o, qe, de, qv, dv, rfl, -, e0, e1, e2, e3, hx⟩ := RL.at (RL.low HLA.out LU.out) (j := 0) (by simp)
      obtain ⟨p', o', qe', de', qv', dv', rfl, -, g0, g1, g2, g3, hy⟩ := RL.at (RL.low HLB.out LU.out) (j := 0) (by simp)
      simp only [List.getElem_cons_zero, Nat.zero_mul, Nat.add_zero] at e0 e1 e2 e3 g0 g1 g2 g3 hx hy
      have HC := Lib.hid fun W (l : Low U W) => (show Calls Try.prog 31 #[.agg #[.int .i64 x.k, .string x.n, .slice qe x.l.length de, .slice qv x.ats.length dv], .agg #[.int .i64 y.k, .string y.n, .slice qe' y.l.length de', .slice qv' y.ats.length dv']] W _ from IH.out A A' x y W _ _ _ _ (hx.low l) (hy.low l) mx my)
      rw [HQ.out] at HC
      have HE1 := Lib.hid fun W (l : Low U W) => elem_c a.k a.n x p o ce (.slice pv a.ats.length cv) qe qv de dv W (l.keep e0) (l.keep e1) (l.keep e2) (l.keep e3)
      have HE2 := Lib.hid fun W (l : Low U W) => elem_c a.k b.n y p' o' ce' (.slice pv' b.ats.length cv') qe' qv' de' dv' W (l.keep g0) (l.keep g1) (l.keep g2) (l.keep g3)
      clear hx hy mx my HQ HLA HLB e0 e1 e2 e3 g0 g1 g2 g3
      go_enter Try.func31, Try.ntmps31
      go_upto_region 1 with fail
      rw [← HU.out]
      have L1 := Lib.hid (Low.refl U)
      obtain ⟨⟨f0, f1, f2, f3⟩, i0, i1, i2, i3⟩ := FU.out U (Low.refl U)
      go_upto_region 7 with fail
      obtain ⟨V, hV⟩ : ∃ V, V = U := ⟨_, rfl⟩
      have L1 := Lib.hid (show Low U V by rw [hV]; exact L1.out)
      rw [← hV] at f0 f1 f2 f3 i0 i1 i2 i3 ⊢
      clear hV
      have HCp := Lib.hid fun q : InL V => Calls.low q (HC.out q.w (L1.out.trans q.ok))
      have HEp1 := Lib.hid fun q : InL V => Calls.low q (HE1.out q.w (L1.out.trans q.ok))
      have HEp2 := Lib.hid fun q : InL V => Calls.low q (HE2.out q.w (L1.out.trans q.ok))
      have f0 := fun q : InL V => q.cell f0
      have f1 := fun q : InL V => q.cell f1
      have f2 := fun q : InL V => q.cell f2
      have f3 := fun q : InL V => q.cell f3
      have i0 := fun q : InL V => q.cell i0
      have i1 := fun q : InL V => q.cell i1
      have i2 := fun q : InL V => q.cell i2
      have i3 := fun q : InL V => q.cell i3
      haveI := InL.some V
      clear HC HE1 HE2
      go_wp2_with fail
      refine wp_region_low mixedT (by kernel_rfl) ?_
      repeat (go_big_quiet_step (first | (with_reducible exact HEp1.out _) | (with_reducible exact HEp2.out _) | (with_reducible exact HCp.out _)))
      refine wpQuiet_nil ?_
      rintro W8 ⟨p8, hW8⟩
      have L8 := Lib.hid (show Low w W8 by rw [hW8]; exact (LU.out.trans L1.out).trans p8.ok)
      clear hW8 p8 HCp HEp1 HEp2 f0 f1 f2 f3 i0 i1 i2 i3 this
      go_wp2_with fail
      go_ret
      exact ⟨rfl, L8.out⟩
    · have b6 : (a.k == 6) = false := beq_f (by omega)
      have b7 : (a.k == 7) = false := beq_f (by omega)
      have b8 := beq_t hk
      have HQ := Lib.hid (show r = pairB (fun x y => (ao x == ao y) && smB n (aty x) (aty y)) a.ats b.ats by rw [HR2.out, if_neg (by omega), if_neg (by omega), if_pos hk])
      have HP := Lib.hid fun W (l : Low U W) => pairsS_c a.ats b.ats (fun x y => (ao x == ao y) && smB n (aty x) (aty y)) W _ _ (RAs.low HAA.out (LU.out.trans l)) (RAs.low HAB.out (LU.out.trans l)) fun i h1 h2 W' e u e' u' hx hy => samef_c IH.out _ _ W' e u e' u' hx hy (may_as MA.out (List.getElem_mem h1)) (may_as MB.out (List.getElem_mem h2))
      rw [← HQ.out] at HP
      clear hk HQ HLA HLB HAA HAB
      go_enter Try.func31, Try.ntmps31
      go_upto_region 1 with fail
      rw [← HU.out]
      have L1 := Lib.hid (Low.refl U)
      obtain ⟨⟨f0, f1, f2, f3⟩, i0, i1, i2, i3⟩ := FU.out U (Low.refl U)
      have HP1 := Lib.hid (HP.out U (Low.refl U))
      clear HP
      go_wp2_with fail
      refine HP1.out.mono ?_
      rintro e w2 ⟨rfl, l2⟩
      have L2 := Lib.hid ((LU.out.trans L1.out).trans l2)
      clear l2 HP1 f0 f1 f2 f3 i0 i1 i2 i3
      go_wp2_with fail
      go_ret
      exact ⟨rfl, L2.out⟩
set_option maxHeartbeats 6400000 in
set_option maxRecDepth 100000 in
theorem below_n (n : Nat) : BelPC n := by
  induction n with
  | zero => intro A A' a b w e v e' v' h; exact h.elim
  | succ n ih =>
    intro A A' a b w e v e' v' ha hb ma mb
    obtain ⟨pe, ce, pv, cv, rfl, rfl, z1, z2, z3, z4⟩ := ha.sl
    obtain ⟨pe', ce', pv', cv', rfl, rfl, z1', z2', z3', z4'⟩ := hb.sl
    obtain ⟨-, hla, haa⟩ := rt_succ.1 ha
    obtain ⟨-, hlb, hab⟩ := rt_succ.1 hb
    have HLA := Lib.hid hla
    have HAA := Lib.hid haa
    have HLB := Lib.hid hlb
    have HAB := Lib.hid hab
    have IH := Lib.hid ih
    have MA := Lib.hid ma
    have MB := Lib.hid mb
    obtain ⟨r, hr⟩ : ∃ r, r = belB (n + 1) a b := ⟨_, rfl⟩
    have HR := Lib.hid hr
    rw [← hr]
    clear ha hb hla haa hlb hab ih ma mb hr
    unfold tv
    by_cases h0 : a.k = 0
    · have HQ := Lib.hid (show true = r by rw [HR.out, belB]; simp [h0])
      have b0 := beq_t h0
      clear h0
      go_enter Try.func29, Try.ntmps29
      go_wp2_with fail
      go_ret
      exact ⟨retB HQ.out, low_new (low_new (Low.refl w) _) _⟩
    have b0 := beq_f h0
    obtain ⟨c, hc⟩ : ∃ c, c = trB a := ⟨_, rfl⟩
    have hT := fun W => truth_c a W pe pv ce cv
    rw [← hc] at hT
    have htr : c = true ↔ (a.k = 1 ∨ a.k = 2 ∨ a.k = 3) := by rw [hc]; unfold trB; exact decide_eq_true_iff
    by_cases hk : a.k = b.k
    case neg =>
      obtain ⟨U, hU⟩ : ∃ U, U = (w.alloc (.cells #[.int .i64 a.k, .string a.n, .slice pe a.l.length ce, .slice pv a.ats.length cv] 25)).alloc (.cells #[.int .i64 b.k, .string b.n, .slice pe' b.l.length ce', .slice pv' b.ats.length cv'] 25) := ⟨_, rfl⟩
      have LU := Lib.hid (show Low w U by rw [hU]; exact low_new (low_new (Low.refl w) _) _)
      have FU := Lib.hid (fun W (h : Low U W) => low_box2 (w := w) (wr := W) (hU ▸ h))
      have HT := Lib.hid (hT U)
      have HU := Lib.hid hU
      have bk := beq_f hk
      have bk2 : (!a.k == b.k) = true := by rw [bk]; rfl
      clear hU hT hc
      cases c with
      | false =>
        have HQ := Lib.hid (show false = r by
          have : ¬ (a.k = 1 ∨ a.k = 2 ∨ a.k = 3) := fun h => by have := htr.2 h; simp at this
          rw [HR.out, belB, if_neg (by omega), if_pos hk])
        clear hk h0 htr
        go_enter Try.func29, Try.ntmps29
        go_upto_region 1 with fail
        rw [← HU.out]
        obtain ⟨⟨f0, f1, f2, f3⟩, i0, i1, i2, i3⟩ := FU.out U (Low.refl U)
        go_wp2_with fail
        refine HT.out.mono ?_
        rintro e w1 ⟨rfl, l1⟩
        have L1 := Lib.hid l1
        clear f0 f1 f2 f3 i0 i1 i2 i3
        obtain ⟨⟨f0, f1, f2, f3⟩, i0, i1, i2, i3⟩ := FU.out w1 l1
        clear l1
        go_wp2_with fail
        go_ret
        exact ⟨retB HQ.out, LU.out.trans L1.out⟩
      | true =>
        have ht := htr.1 rfl
        by_cases h3 : b.k = 3
        · have HQ := Lib.hid (show true = r by rw [HR.out, belB, if_pos (by omega)])
          have b3 := beq_t h3
          clear hk h0 htr ht h3
          go_enter Try.func29, Try.ntmps29
          go_upto_region 1 with fail
          rw [← HU.out]
          obtain ⟨⟨f0, f1, f2, f3⟩, i0, i1, i2, i3⟩ := FU.out U (Low.refl U)
          go_wp2_with fail
          refine HT.out.mono ?_
          rintro e w1 ⟨rfl, l1⟩
          have L1 := Lib.hid l1
          clear f0 f1 f2 f3 i0 i1 i2 i3
          obtain ⟨⟨f0, f1, f2, f3⟩, i0, i1, i2, i3⟩ := FU.out w1 l1
          clear l1
          go_wp2_with fail
          go_ret
          exact ⟨retB HQ.out, LU.out.trans L1.out⟩
        · have HQ := Lib.hid (show false = r by rw [HR.out, belB, if_neg (by omega), if_pos hk])
          have b3 := beq_f h3
          clear hk h0 htr ht h3
          go_enter Try.func29, Try.ntmps29
          go_upto_region 1 with fail
          rw [← HU.out]
          obtain ⟨⟨f0, f1, f2, f3⟩, i0, i1, i2, i3⟩ := FU.out U (Low.refl U)
          go_wp2_with fail
          refine HT.out.mono ?_
          rintro e w1 ⟨rfl, l1⟩
          have L1 := Lib.hid l1
          clear f0 f1 f2 f3 i0 i1 i2 i3
          obtain ⟨⟨f0, f1, f2, f3⟩, i0, i1, i2, i3⟩ := FU.out w1 l1
          clear l1
          go_wp2_with fail
          go_ret
          exact ⟨retB HQ.out, LU.out.trans L1.out⟩
    have HK := Lib.hid hk
    by_cases h33 : a.k = 3
    · have HQ := Lib.hid (show true = r by
        rw [HR.out, belB]; simp [h33, ← hk])
      rw [← hk]
      have b3 := beq_t h33
      have ct : c = true := htr.2 (.inr (.inr h33))
      subst ct
      clear hk h0 htr h33 hc
      obtain ⟨U, hU⟩ : ∃ U, U = (w.alloc (.cells #[.int .i64 a.k, .string a.n, .slice pe a.l.length ce, .slice pv a.ats.length cv] 25)).alloc (.cells #[.int .i64 a.k, .string b.n, .slice pe' b.l.length ce', .slice pv' b.ats.length cv'] 25) := ⟨_, rfl⟩
      have LU := Lib.hid (show Low w U by rw [hU]; exact low_new (low_new (Low.refl w) _) _)
      have FU := Lib.hid (fun W (h : Low U W) => low_box2 (w := w) (wr := W) (hU ▸ h))
      have HU := Lib.hid hU
      clear hU
      have HT := Lib.hid (hT U)
      clear hT
      go_enter Try.func29, Try.ntmps29
      go_upto_region 1 with fail
      rw [← HU.out]
      obtain ⟨⟨f0, f1, f2, f3⟩, i0, i1, i2, i3⟩ := FU.out U (Low.refl U)
      go_wp2_with fail
      refine HT.out.mono ?_
      rintro e w1 ⟨rfl, l1⟩
      have L1 := Lib.hid l1
      clear f0 f1 f2 f3 i0 i1 i2 i3
      obtain ⟨⟨f0, f1, f2, f3⟩, i0, i1, i2, i3⟩ := FU.out w1 l1
      clear l1
      go_wp2_with fail
      go_ret
      exact ⟨retB HQ.out, LU.out.trans L1.out⟩
    have b3 := beq_f h33
    have HR2 := Lib.hid (show r = if a.k = 6 then decide (a.n = b.n) else if a.k = 7 then belB n a.hd b.hd else if a.k = 8 then pairB (fun x y => (!ao x || ao y) && belB n (aty x) (aty y)) a.ats b.ats else true by rw [HR.out, belB, if_neg (by omega), if_neg (by simpa using hk)])
    rw [← hk]
    clear hk HR
    obtain ⟨U, hU⟩ : ∃ U, U = (w.alloc (.cells #[.int .i64 a.k, .string a.n, .slice pe a.l.length ce, .slice pv a.ats.length cv] 25)).alloc (.cells #[.int .i64 a.k, .string b.n, .slice pe' b.l.length ce', .slice pv' b.ats.length cv'] 25) := ⟨_, rfl⟩
    have LU := Lib.hid (show Low w U by rw [hU]; exact low_new (low_new (Low.refl w) _) _)
    have FU := Lib.hid (fun W (h : Low U W) => low_box2 (w := w) (wr := W) (hU ▸ h))
    have HU := Lib.hid hU
    clear hU
    have HT := Lib.hid (hT U)
    have hk : ((a.k == 6) = false ∧ (a.k == 7) = false ∧ (a.k == 8) = false) ∨ (a.k = 6 ∨ a.k = 7 ∨ a.k = 8) := by
      by_cases g : a.k = 6 ∨ a.k = 7 ∨ a.k = 8
      · exact .inr g
      · exact .inl ⟨beq_f (by omega), beq_f (by omega), beq_f (by omega)⟩
    clear hT hc htr h0 h33
    cases c
    all_goals
      rcases hk with ⟨b6, b7, b8⟩ | hk
      · have HQ := Lib.hid (show true = r by
          have g6 : ¬ a.k = 6 := by simpa using b6
          have g7 : ¬ a.k = 7 := by simpa using b7
          have g8 : ¬ a.k = 8 := by simpa using b8
          rw [HR2.out, if_neg g6, if_neg g7, if_neg g8])
        go_enter Try.func29, Try.ntmps29
        go_upto_region 1 with fail
        rw [← HU.out]
        obtain ⟨⟨f0, f1, f2, f3⟩, i0, i1, i2, i3⟩ := FU.out U (Low.refl U)
        go_wp2_with fail
        refine HT.out.mono ?_
        rintro e w1 ⟨rfl, l1⟩
        have L1 := Lib.hid l1
        clear f0 f1 f2 f3 i0 i1 i2 i3
        obtain ⟨⟨f0, f1, f2, f3⟩, i0, i1, i2, i3⟩ := FU.out w1 l1
        clear l1
        go_wp2_with fail
        go_ret
        exact ⟨retB HQ.out, LU.out.trans L1.out⟩
      rcases hk with hk | hk | hk
      · have b6 := beq_t hk
        by_cases hn : a.n = b.n
        · have HQ := Lib.hid (show true = r by rw [HR2.out, if_pos hk]; simp [hn])
          rw [← hn]
          rw [← hn] at HU FU
          clear hk hn
          go_enter Try.func29, Try.ntmps29
          go_upto_region 1 with fail
          rw [← HU.out]
          obtain ⟨⟨f0, f1, f2, f3⟩, i0, i1, i2, i3⟩ := FU.out U (Low.refl U)
          go_wp2_with fail
          refine HT.out.mono ?_
          rintro e w1 ⟨rfl, l1⟩
          have L1 := Lib.hid l1
          clear f0 f1 f2 f3 i0 i1 i2 i3
          obtain ⟨⟨f0, f1, f2, f3⟩, i0, i1, i2, i3⟩ := FU.out w1 l1
          clear l1
          go_wp2_with fail
          go_ret
          exact ⟨retB HQ.out, LU.out.trans L1.out⟩
        · have HQ := Lib.hid (show false = r by rw [HR2.out, if_pos hk]; simp [hn])
          have bn2 : ¬ a.n.toList = b.n.toList := fun h => hn (tl_inj.1 h)
          have bn : (a.n.toList == b.n.toList) = false := by simpa using bn2
          clear hk hn
          go_enter Try.func29, Try.ntmps29
          go_upto_region 1 with fail
          rw [← HU.out]
          obtain ⟨⟨f0, f1, f2, f3⟩, i0, i1, i2, i3⟩ := FU.out U (Low.refl U)
          go_wp2_with fail
          refine HT.out.mono ?_
          rintro e w1 ⟨rfl, l1⟩
          have L1 := Lib.hid l1
          clear f0 f1 f2 f3 i0 i1 i2 i3
          obtain ⟨⟨f0, f1, f2, f3⟩, i0, i1, i2, i3⟩ := FU.out w1 l1
          clear l1
          go_wp2_with fail
          go_ret
          exact ⟨retB HQ.out, LU.out.trans L1.out⟩
      · have b6 : (a.k == 6) = false := beq_f (by omega)
        have b7 := beq_t hk
        obtain ⟨x, hx, hhx, mx⟩ := may_set MA.out hk
        obtain ⟨y, hy, hhy, my⟩ := may_set MB.out (HK.out ▸ hk)
        have HQ := Lib.hid (show belB n x y = r by rw [HR2.out, if_neg (by omega), if_pos hk, hhx, hhy])
        clear hk hhx hhy
        have hxl : a.l.length = 1 := by rw [hx]; rfl
        have hyl : b.l.length = 1 := by rw [hy]; rfl
        rw [hxl, hyl]
        rw [hxl, hyl] at HU FU
        rw [hxl] at HLA z1
        rw [hyl] at HLB z1'
        rw [hx] at HLA
        rw [hy] at HLB
        rw [hxl] at HT
        clear hx hy hxl hyl
        obtain ⟨p, o, qe, de, qv, dv, rfl, -, e0, e1, e2, e3, hx⟩ := RL.at (RL.low HLA.out LU.out) (j := 0) (by simp)
        obtain ⟨p', o', qe', de', qv', dv', rfl, -, g0, g1, g2, g3, hy⟩ := RL.at (RL.low HLB.out LU.out) (j := 0) (by simp)
        simp only [List.getElem_cons_zero, Nat.zero_mul, Nat.add_zero] at e0 e1 e2 e3 g0 g1 g2 g3 hx hy
        have HC := Lib.hid fun W (l : Low U W) => (show Calls Try.prog 29 #[.agg #[.int .i64 x.k, .string x.n, .slice qe x.l.length de, .slice qv x.ats.length dv], .agg #[.int .i64 y.k, .string y.n, .slice qe' y.l.length de', .slice qv' y.ats.length dv']] W _ from IH.out A A' x y W _ _ _ _ (hx.low l) (hy.low l) mx my)
        rw [HQ.out] at HC
        have HE1 := Lib.hid fun W (l : Low U W) => elem_c a.k a.n x p o ce (.slice pv a.ats.length cv) qe qv de dv W (l.keep e0) (l.keep e1) (l.keep e2) (l.keep e3)
        have HE2 := Lib.hid fun W (l : Low U W) => elem_c a.k b.n y p' o' ce' (.slice pv' b.ats.length cv') qe' qv' de' dv' W (l.keep g0) (l.keep g1) (l.keep g2) (l.keep g3)
        clear hx hy mx my HQ HLA HLB e0 e1 e2 e3 g0 g1 g2 g3
        go_enter Try.func29, Try.ntmps29
        go_upto_region 1 with fail
        rw [← HU.out]
        obtain ⟨⟨f0, f1, f2, f3⟩, i0, i1, i2, i3⟩ := FU.out U (Low.refl U)
        go_wp2_with fail
        refine HT.out.mono ?_
        rintro e w1 ⟨rfl, l1⟩
        have L1 := Lib.hid l1
        clear f0 f1 f2 f3 i0 i1 i2 i3
        obtain ⟨⟨f0, f1, f2, f3⟩, i0, i1, i2, i3⟩ := FU.out w1 l1
        clear l1
        go_upto_region 9 with fail
        obtain ⟨V, hV⟩ : ∃ V, V = w1 := ⟨_, rfl⟩
        have L1 := Lib.hid (show Low U V by rw [hV]; exact L1.out)
        rw [← hV] at f0 f1 f2 f3 i0 i1 i2 i3 ⊢
        clear hV
        have HCp := Lib.hid fun q : InL V => Calls.low q (HC.out q.w (L1.out.trans q.ok))
        have HEp1 := Lib.hid fun q : InL V => Calls.low q (HE1.out q.w (L1.out.trans q.ok))
        have HEp2 := Lib.hid fun q : InL V => Calls.low q (HE2.out q.w (L1.out.trans q.ok))
        have f0 := fun q : InL V => q.cell f0
        have f1 := fun q : InL V => q.cell f1
        have f2 := fun q : InL V => q.cell f2
        have f3 := fun q : InL V => q.cell f3
        have i0 := fun q : InL V => q.cell i0
        have i1 := fun q : InL V => q.cell i1
        have i2 := fun q : InL V => q.cell i2
        have i3 := fun q : InL V => q.cell i3
        haveI := InL.some V
        clear HC HE1 HE2
        go_wp2_with fail
        refine wp_region_low mixedT (by kernel_rfl) ?_
        repeat (go_big_quiet_step (first | (with_reducible exact HEp1.out _) | (with_reducible exact HEp2.out _) | (with_reducible exact HCp.out _)))
        refine wpQuiet_nil ?_
        rintro W8 ⟨p8, hW8⟩
        have L8 := Lib.hid (show Low w W8 by rw [hW8]; exact (LU.out.trans L1.out).trans p8.ok)
        clear hW8 p8 HCp HEp1 HEp2 f0 f1 f2 f3 i0 i1 i2 i3 this
        go_wp2_with fail
        go_ret
        exact ⟨rfl, L8.out⟩
      · have b6 : (a.k == 6) = false := beq_f (by omega)
        have b7 : (a.k == 7) = false := beq_f (by omega)
        have b8 := beq_t hk
        have HQ := Lib.hid (show r = pairB (fun x y => (!ao x || ao y) && belB n (aty x) (aty y)) a.ats b.ats by rw [HR2.out, if_neg (by omega), if_neg (by omega), if_pos hk])
        have HP := Lib.hid fun W (l : Low U W) => pairsB_c a.ats b.ats (fun x y => (!ao x || ao y) && belB n (aty x) (aty y)) W _ _ (RAs.low HAA.out (LU.out.trans l)) (RAs.low HAB.out (LU.out.trans l)) fun i h1 h2 W' e u e' u' hx hy => belowf_c IH.out _ _ W' e u e' u' hx hy (may_as MA.out (List.getElem_mem h1)) (may_as MB.out (List.getElem_mem h2))
        rw [← HQ.out] at HP
        clear hk HQ HLA HLB HAA HAB
        go_enter Try.func29, Try.ntmps29
        go_upto_region 1 with fail
        rw [← HU.out]
        obtain ⟨⟨f0, f1, f2, f3⟩, i0, i1, i2, i3⟩ := FU.out U (Low.refl U)
        go_wp2_with fail
        refine HT.out.mono ?_
        rintro e w1 ⟨rfl, l1⟩
        have L1 := Lib.hid l1
        clear f0 f1 f2 f3 i0 i1 i2 i3
        obtain ⟨⟨f0, f1, f2, f3⟩, i0, i1, i2, i3⟩ := FU.out w1 l1
        clear l1
        have HP1 := Lib.hid (HP.out w1 L1.out)
        clear HP
        go_wp2_with fail
        refine HP1.out.mono ?_
        rintro e w2 ⟨rfl, l2⟩
        have L2 := Lib.hid ((LU.out.trans L1.out).trans l2)
        clear l2 HP1 f0 f1 f2 f3 i0 i1 i2 i3
        go_wp2_with fail
        go_ret
        exact ⟨rfl, L2.out⟩
end Go.Proofs.Ytjipncpgmajeeaa
