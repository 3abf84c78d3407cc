/- The program's joinRecords, over its join. Condition: types that may be, small. -/
import Derived.Test.YtjipncpgmajeeaaTyRp
namespace Go.Proofs.Ytjipncpgmajeeaa
open Go.RowKit
set_option maxHeartbeats 6400000 in
set_option maxRecDepth 100000 in
theorem joinRecords_c {n : Nat} (hj : JnPC n) {A A' : Nat → Prop} (a b : T) (w : World) (e v e' v' : Value) (ha : RT A w (n + 1) a e v) (hb : RT A' w (n + 1) b e' v')
    (hx : ∀ j (h1 : j < a.ats.length), Sm n (aty a.ats[j]) ∧ mayB n (aty a.ats[j]) = true) (hy : ∀ j (h1 : j < b.ats.length), Sm n (aty b.ats[j]) ∧ mayB n (aty b.ats[j]) = true) (hl : a.ats.length ≤ 1000) :
    Calls Try.prog 46 #[tv a e v, tv b e' v'] w (JoinP (fun _ => False) (n + 1) ((pairJ (jn n) a.ats b.ats).map fun r => .mk 8 ⟨#[]⟩ [] r) w) := by
  obtain ⟨pe, ce, pv, cv, rfl, rfl, z1, z2, z3, z4⟩ := ha.sl
  obtain ⟨pe', ce', pv', cv', rfl, rfl, z1', z2', z3', z4'⟩ := hb.sl
  obtain ⟨-, -, hla⟩ := rt_succ.1 ha
  obtain ⟨-, -, hlb⟩ := rt_succ.1 hb
  obtain ⟨U, hU⟩ : ∃ U, U = ((w.alloc (.cells #[.int .i64 a.k, .string a.n, .slice pe a.l.length ce, .slice pv a.ats.length cv] 25)).alloc (.cells #[.int .i64 b.k, .string b.n, .slice pe' b.l.length ce', .slice pv' b.ats.length cv'] 25)).alloc (.cells #[.int .i64 0, .string ⟨#[]⟩, .slice none 0 0, .slice none 0 0] 25) := ⟨_, rfl⟩
  have LU := Lib.hid (show Low w U by rw [hU]; exact low_new (low_new (low_new (Low.refl w) _) _) _)
  have FU := Lib.hid (fun W (h : Low U W) => low_box2 (w := w) (wr := W) ((show Low ((w.alloc (.cells #[.int .i64 a.k, .string a.n, .slice pe a.l.length ce, .slice pv a.ats.length cv] 25)).alloc (.cells #[.int .i64 b.k, .string b.n, .slice pe' b.l.length ce', .slice pv' b.ats.length cv'] 25)) U by rw [hU]; exact low_new (Low.refl _) _).trans h))
  have ZU := Lib.hid (show BoxAt U (w.heap.size + 2) [.int .i64 0, .string ⟨#[]⟩, .slice none 0 0, .slice none 0 0] from BoxAt.made hU (by simp) rfl)
  have HZS := Lib.hid (show U.heap.size = w.heap.size + 3 by rw [hU]; simp)
  have HU := Lib.hid hU
  have HP := Lib.hid fun (B rb : Nat) (W : World) (vr : Value) (hst : RecSt U B rb n W vr []) => pairsJ_c hj a.ats b.ats U B rb W _ _ vr (hla.low LU.out) (hlb.low LU.out) hx hy hst hl
  obtain ⟨R, hR⟩ : ∃ R, R = pairJ (jn n) a.ats b.ats := ⟨_, rfl⟩
  rw [← hR] at HP ⊢
  unfold tv
  clear ha hb hla hlb hx hy hl hU hj hR
  go_enter Try.func46, Try.ntmps46
  go_upto_region 1 with fail
  rw [← HU.out]
  go_upto_region 2 with fail
  obtain ⟨V, hV⟩ : ∃ V, V = U.alloc (.cells #[.int .i64 8, .string ⟨#[]⟩, .slice none 0 0, .slice none 0 0] 25) := ⟨_, rfl⟩
  rw [← hV]
  have LV := Lib.hid (show Low U V by rw [hV]; exact low_new (Low.refl _) _)
  have HS := Lib.hid (show RecSt U (U.heap.size + 1) U.heap.size n V (.slice none 0 0) [] from ⟨BoxAt.made hV rfl rfl, OwnR.nil _ _ _ _ _, fun p hp => (by simp at hp), LV.out, Nat.lt_succ_self _, Nat.le_refl _, by rw [hV]; simp⟩)
  obtain ⟨⟨f0, f1, f2, f3⟩, i0, i1, i2, i3⟩ := FU.out V LV.out
  clear hV
  go_wp2_with fail
  refine (HP.out _ _ _ _ HS.out).mono ?_
  rintro e w2 ⟨bb, vr, ps, rfl, hbb, hst, hps⟩
  have HST := Lib.hid hst
  have HPS := Lib.hid hps
  have L2 := Lib.hid hst.low
  have HBB := Lib.hid hbb
  obtain ⟨g0, g1, g2, g3⟩ := (ZU.out.low L2.out).at4
  obtain ⟨o0, o1, o2, o3⟩ := (ZU.out.low L2.out).op4
  clear hst hps hbb HS HP f0 f1 f2 f3 i0 i1 i2 i3
  cases bb with
  | false =>
    have HN := Lib.hid (show R = none by
      have h := HBB.out
      cases R with
      | none => rfl
      | some r => simp at h)
    go_wp2_with fail
    refine bodyPost_ret (v := .tuple #[.agg #[.int .i64 0, .string ⟨#[]⟩, .slice none 0 0, .slice none 0 0], .int .i64 30]) (by simp [results, Try.results46, go_sem, World.cell?_setCell_same', g0, g1, g2, g3]; try rfl) rfl ?_
    have K8 := kept4 w2 (w.heap.size + 2) 0 1 2 3 (.int .i64 0) (.string ⟨#[]⟩) (.slice none 0 0) (.slice none 0 0)
    refine ⟨noT, none, 0, none, 0, 30, rfl, ?_, rt_kind _ _ _ _, low_all (LU.out.trans L2.out) (by omega) K8⟩
    rw [HN.out]; exact ⟨rfl, rfl⟩
  | true =>
    have HN := Lib.hid (show R = some (ps.map Ae.x) by
      have h := HBB.out
      cases R with
      | none => simp at h
      | some r => rw [HPS.out r rfl])
    obtain ⟨r0, r1, r2, r3⟩ := HST.out.box.at4
    obtain ⟨aov, cav, hvr, -, -, -⟩ := OwnR.shape HST.out.row
    subst hvr
    have HR := Lib.hid (show RAs (fun x => U.heap.size ≤ x) w2 n (ps.map (·.x)) (.slice aov ps.length cav) from ownA_row HST.out.row HST.out.els (fun b hb => by have := hb.1; omega) (fun g hg => by have := (World.ownsRow.lt HST.out.row g hg).1; omega))
    go_wp2_with fail
    refine bodyPost_ret (v := .tuple #[.agg #[.int .i64 8, .string ⟨#[]⟩, .slice none 0 0, .slice aov ps.length cav], .int .i64 0]) (by simp [results, Try.results46, go_sem, World.cell?_setCell_same', g0, g1, g2, g3]; try rfl) rfl ?_
    have K8 := kept4 w2 (w.heap.size + 2) 0 1 2 3 (.int .i64 8) (.string ⟨#[]⟩) (.slice none 0 0) (.slice aov ps.length cav)
    have hln : (ps.map Ae.x).length = ps.length := List.length_map ..
    refine ⟨.mk 8 ⟨#[]⟩ [] (ps.map Ae.x), none, 0, aov, cav, 0, by rw [show (T.mk 8 ⟨#[]⟩ [] (ps.map Ae.x)).ats.length = ps.length from hln]; rfl, by rw [HN.out]; exact ⟨rfl, rfl⟩, ⟨(by decide : (⟨#[]⟩ : ByteArray).size ≤ 9223372036854775807), RL.nil _ _ _, ?_⟩, low_all (LU.out.trans L2.out) (by omega) K8⟩
    rw [show (T.mk 8 ⟨#[]⟩ [] (ps.map Ae.x)).ats.length = ps.length from hln]
    refine RAs.to (fun x hx hlt => ?_) HR.out
    have := HZS.out
    exact ⟨.inr (by omega), K8.2.2.2 x hlt (by simp; omega)⟩
end Go.Proofs.Ytjipncpgmajeeaa
