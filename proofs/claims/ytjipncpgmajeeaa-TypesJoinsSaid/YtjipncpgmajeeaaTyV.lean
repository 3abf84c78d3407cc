/- The program's joinSets, over its join. Condition: types that may be, small. -/
import Derived.Test.YtjipncpgmajeeaaTyL
import Derived.Test.YtjipncpgmajeeaaTyJw
import Derived.Deep.RegionWith
import Derived.Deep.CutRange
namespace Go.Proofs.Ytjipncpgmajeeaa
open Go.RowKit
def JnPC (n : Nat) : Prop := ∀ (A A' : Nat → Prop) (a b : T) (w : World) (e v e' v' : Value), RT A w n a e v → RT A' w n b e' v' → Sm n a → Sm n b → mayB n a = true → mayB n b = true → Calls Try.prog 32 #[tv a e v, tv b e' v'] w (JoinP (fun _ => False) n (jn n a b) w)
set_option maxHeartbeats 6400000 in
set_option maxRecDepth 100000 in
theorem joinSets_c {n : Nat} (hj : JnPC n) {A A' : Nat → Prop} (a b x y : T) (w : World) (e v e' v' : Value) (ha : RT A w (n + 1) a e v) (hb : RT A' w (n + 1) b e' v') (hx : a.l = [x]) (hy : b.l = [y]) (sx : Sm n x) (sy : Sm n y) (mx : mayB n x = true) (my : mayB n y = true) :
    Calls Try.prog 45 #[tv a e v, tv b e' v'] w (JoinP (fun _ => False) (n + 1) ((jn n x y).map fun t => .mk 7 ⟨#[]⟩ [t] []) w) := by
  obtain ⟨pe, ce, pv, cv, rfl, rfl, z1, z2, z3, z4⟩ := ha.sl
  obtain ⟨pe', ce', pv', cv', rfl, rfl, z1', z2', z3', z4'⟩ := hb.sl
  obtain ⟨-, hla, -⟩ := rt_succ.1 ha
  obtain ⟨-, hlb, -⟩ := rt_succ.1 hb
  have hxl : a.l.length = 1 := by rw [hx]; rfl
  have hyl : b.l.length = 1 := by rw [hy]; rfl
  rw [hxl] at hla z1 ⊢
  rw [hyl] at hlb z1' ⊢
  rw [hx] at hla
  rw [hy] at hlb
  obtain ⟨U, hU⟩ : ∃ U, U = ((w.alloc (.cells #[.int .i64 a.k, .string a.n, .slice pe 1 ce, .slice pv a.ats.length cv] 25)).alloc (.cells #[.int .i64 b.k, .string b.n, .slice pe' 1 ce', .slice pv' b.ats.length cv'] 25)).alloc (.cells #[.int .i64 0, .string ⟨#[]⟩, .slice none 0 0, .slice none 0 0] 25) := ⟨_, rfl⟩
  have LU := Lib.hid (show Low w U by rw [hU]; exact low_new (low_new (low_new (Low.refl w) _) _) _)
  have FU := Lib.hid (fun W (h : Low U W) => low_box2 (w := w) (wr := W) ((show Low ((w.alloc (.cells #[.int .i64 a.k, .string a.n, .slice pe 1 ce, .slice pv a.ats.length cv] 25)).alloc (.cells #[.int .i64 b.k, .string b.n, .slice pe' 1 ce', .slice pv' b.ats.length cv'] 25)) U by rw [hU]; exact low_new (Low.refl _) _).trans h))
  have ZU := Lib.hid (show BoxAt U (w.heap.size + 2) [.int .i64 0, .string ⟨#[]⟩, .slice none 0 0, .slice none 0 0] from BoxAt.made hU (by simp) rfl)
  have HZS := Lib.hid (show U.heap.size = w.heap.size + 3 by rw [hU]; simp)
  have HU := Lib.hid hU
  obtain ⟨p, o, qe, de, qv, dv, rfl, -, e0, e1, e2, e3, hx2⟩ := RL.at (RL.low hla LU.out) (j := 0) (by simp)
  obtain ⟨p', o', qe', de', qv', dv', rfl, -, g0, g1, g2, g3, hy2⟩ := RL.at (RL.low hlb LU.out) (j := 0) (by simp)
  simp only [List.getElem_cons_zero, Nat.zero_mul, Nat.add_zero] at e0 e1 e2 e3 g0 g1 g2 g3 hx2 hy2
  have HJ := Lib.hid fun W (l : Low U W) => (show Calls Try.prog 32 #[.agg #[.int .i64 x.k, .string x.n, .slice qe x.l.length de, .slice qv x.ats.length dv], .agg #[.int .i64 y.k, .string y.n, .slice qe' y.l.length de', .slice qv' y.ats.length dv']] W _ from hj _ _ x y W _ _ _ _ (hx2.low l) (hy2.low l) sx sy mx my)
  have HE1 := Lib.hid fun W (l : Low U W) => elem_c a.k a.n x p o ce (.slice pv a.ats.length cv) qe qv de dv W (l.keep e0) (l.keep e1) (l.keep e2) (l.keep e3)
  have HE2 := Lib.hid fun W (l : Low U W) => elem_c b.k b.n y p' o' ce' (.slice pv' b.ats.length cv') qe' qv' de' dv' W (l.keep g0) (l.keep g1) (l.keep g2) (l.keep g3)
  obtain ⟨R, hR⟩ : ∃ R, R = jn n x y := ⟨_, rfl⟩
  rw [← hR] at HJ ⊢
  unfold tv
  clear hx2 hy2 mx my sx sy hla hlb e0 e1 e2 e3 g0 g1 g2 g3 ha hb hx hy hxl hyl hU hj hR
  go_enter Try.func45, Try.ntmps45
  go_upto_region 1 with fail
  rw [← HU.out]
  obtain ⟨⟨f0, f1, f2, f3⟩, i0, i1, i2, i3⟩ := FU.out U (Low.refl U)
  have p0 := fun X => (low_new (Low.refl U) X).keep f0
  have p1 := fun X => (low_new (Low.refl U) X).keep f1
  have p2 := fun X => (low_new (Low.refl U) X).keep f2
  have p3 := fun X => (low_new (Low.refl U) X).keep f3
  have q0 := fun X => (low_new (Low.refl U) X).keep i0
  have q1 := fun X => (low_new (Low.refl U) X).keep i1
  have q2 := fun X => (low_new (Low.refl U) X).keep i2
  have q3 := fun X => (low_new (Low.refl U) X).keep i3
  have HUS := Lib.hid (show U.drew.heap.size = U.heap.size from rfl)
  go_cut [6, 7] from 8 to 15 (fun s6 s7 wx => ∃ (t : T) (re : Option Addr) (me : Nat) (rv : Option Addr) (mv : Nat) (er : Int) (bt : Nat), s6 = .pointer (some ⟨bt, 0, none⟩) ∧ s7 = .int .i64 er ∧ Hid (JR R t er) ∧ Hid (RT (fun x => U.heap.size ≤ x) wx n t (.slice re t.l.length me) (.slice rv t.ats.length mv)) ∧ Hid (Low U wx) ∧ Hid (BoxAt wx bt [.int .i64 t.k, .string t.n, .slice re t.l.length me, .slice rv t.ats.length mv]) ∧ Hid (BoxAt wx (w.heap.size + 2) [.int .i64 0, .string ⟨#[]⟩, .slice none 0 0, .slice none 0 0]))
  case first =>
    go_wp2_with fail
    go_region_with (first
      | ((fail_if_success (have := E1d)); go_at_call 40; refine (HE1.out _ ?hL).mono ?_; (case hL => first | exact low_drew (Low.refl U) | exact low_drew (low_new (Low.refl U) _) | exact low_new (low_drew (Low.refl U)) _); rintro e wA ⟨rfl, lA⟩; have E1d := Lib.hid True.intro; have LA := Lib.hid (show Low U wA by first | exact (low_drew (Low.refl U)).trans lA | exact (low_drew (low_new (Low.refl U) _)).trans lA | exact (low_new (low_drew (Low.refl U)) _).trans lA); (try have BZ := Lib.hid (BoxAt.low (BoxAt.made (w := U) (n := U.heap.size) (cs := [.int .i64 0, .string ⟨#[]⟩, .slice none 0 0, .slice none 0 0]) rfl rfl rfl) ((low_drew (Low.refl _)).trans lA))); clear lA; clear f0 f1 f2 f3 i0 i1 i2 i3 p0 p1 p2 p3 q0 q1 q2 q3; obtain ⟨⟨f0, f1, f2, f3⟩, i0, i1, i2, i3⟩ := FU.out wA LA.out; have p0 := fun X => (low_new (Low.refl wA) X).keep f0; have p1 := fun X => (low_new (Low.refl wA) X).keep f1; have p2 := fun X => (low_new (Low.refl wA) X).keep f2; have p3 := fun X => (low_new (Low.refl wA) X).keep f3; have q0 := fun X => (low_new (Low.refl wA) X).keep i0; have q1 := fun X => (low_new (Low.refl wA) X).keep i1; have q2 := fun X => (low_new (Low.refl wA) X).keep i2; have q3 := fun X => (low_new (Low.refl wA) X).keep i3)
      | ((have := E1d); (fail_if_success (have := E2d)); go_at_call 40; refine (HE2.out _ ?hL).mono ?_; (case hL => first | exact LA.out | exact low_new LA.out _); rintro e wB ⟨rfl, lB⟩; have E2d := Lib.hid True.intro; have LB := Lib.hid (show Low U wB by first | exact LA.out.trans lB | exact (low_new LA.out _).trans lB); (first | (have BZ := Lib.hid (BZ.out.low lB)) | (have BZ := Lib.hid (BoxAt.low (BoxAt.made (w := wA) (n := wA.heap.size) (cs := [.int .i64 0, .string ⟨#[]⟩, .slice none 0 0, .slice none 0 0]) rfl rfl rfl) lB)) | skip); clear lB; clear f0 f1 f2 f3 i0 i1 i2 i3 p0 p1 p2 p3 q0 q1 q2 q3; obtain ⟨⟨f0, f1, f2, f3⟩, i0, i1, i2, i3⟩ := FU.out wB LB.out; have p0 := fun X => (low_new (Low.refl wB) X).keep f0; have p1 := fun X => (low_new (Low.refl wB) X).keep f1; have p2 := fun X => (low_new (Low.refl wB) X).keep f2; have p3 := fun X => (low_new (Low.refl wB) X).keep f3; have q0 := fun X => (low_new (Low.refl wB) X).keep i0; have q1 := fun X => (low_new (Low.refl wB) X).keep i1; have q2 := fun X => (low_new (Low.refl wB) X).keep i2; have q3 := fun X => (low_new (Low.refl wB) X).keep i3)
      | (go_at_call 32; refine (HJ.out _ ?hL).mono ?_; (case hL => first | exact LB.out | exact low_new LB.out _); rintro e wC ⟨t, re, me, rv, mv, er, rfl, hjr, hrt, lC⟩; have HJR := Lib.hid hjr; have HRT := Lib.hid hrt; (try have BZL := Lib.hid BZ.out.lt); have LC := Lib.hid (show Low U wC by first | exact LB.out.trans lC | exact (low_new LB.out _).trans lC); (first | (have BZ := Lib.hid (BZ.out.low lC)) | (have BZ := Lib.hid (BoxAt.low (BoxAt.made (w := wB) (n := wB.heap.size) (cs := [.int .i64 0, .string ⟨#[]⟩, .slice none 0 0, .slice none 0 0]) rfl rfl rfl) lC)) | skip); (try obtain ⟨g0, g1, g2, g3⟩ := BZ.out.at4); (try obtain ⟨o0, o1, o2, o3⟩ := BZ.out.op4); clear lC hjr hrt; clear f0 f1 f2 f3 i0 i1 i2 i3 p0 p1 p2 p3 q0 q1 q2 q3))
    all_goals
      first
        | (obtain ⟨W, hW⟩ : ∃ W, W = wC.alloc (.cells #[.int .i64 t.k, .string t.n, .slice re t.l.length me, .slice rv t.ats.length mv] 25) := ⟨_, rfl⟩; rw [← hW]; have WL := Lib.hid (show Low wC W by rw [hW]; exact low_new (Low.refl _) _); have BW := Lib.hid (show BoxAt W wC.heap.size [.int .i64 t.k, .string t.n, .slice re t.l.length me, .slice rv t.ats.length mv] from BoxAt.made hW rfl rfl); have RW := Lib.hid (show RT (fun x => U.heap.size ≤ x) W n t (.slice re t.l.length me) (.slice rv t.ats.length mv) from (RT.to (fun x hx _ => by have hs := LB.out.size; refine ⟨?_, rfl⟩; rcases hx with hx | hx; exact hx.elim; first | omega | (simp at hx; omega)) HRT.out : RT (fun x => U.heap.size ≤ x) wC n t (.slice re t.l.length me) (.slice rv t.ats.length mv)).low WL.out); have ZW := Lib.hid ((ZU.out.low LC.out).low WL.out); have LW := Lib.hid (LC.out.trans WL.out); clear hW WL)
        | ((obtain ⟨W, hW⟩ : ∃ W, W = (((wC.setCell ⟨wB.heap.size, 0, none⟩ (.int .i64 t.k)).setCell ⟨wB.heap.size, 1, none⟩ (.string t.n)).setCell ⟨wB.heap.size, 2, none⟩ (.slice re t.l.length me)).setCell ⟨wB.heap.size, 3, none⟩ (.slice rv t.ats.length mv) := ⟨_, rfl⟩; rw [← hW]; have KW := Lib.hid (show KeptBut wC W (some wB.heap.size) from hW ▸ kept4 _ _ _ _ _ _ _ _ _ _); have BW := Lib.hid (show BoxAt W wB.heap.size [.int .i64 t.k, .string t.n, .slice re t.l.length me, .slice rv t.ats.length mv] from hW ▸ ((((BZ.out.set 0 (.int .i64 t.k)).set 1 (.string t.n)).set 2 (.slice re t.l.length me)).set 3 (.slice rv t.ats.length mv))); have HBT := Lib.hid (show ∃ b, b = wB.heap.size from ⟨_, rfl⟩)); have RW := Lib.hid (show RT (fun x => U.heap.size ≤ x) W n t (.slice re t.l.length me) (.slice rv t.ats.length mv) from RT.to (fun x hx hlt => by have hs := LB.out.size; have hz := HZS.out; have hx2 : wB.heap.size < x := (by rcases hx with hx | hx; exact hx.elim; simp at hx; omega); exact ⟨by omega, KW.out.2.2.2 x hlt (by simp; omega)⟩) HRT.out); have ZW := Lib.hid ((ZU.out.low LC.out).kept KW.out (by have hs := LB.out.size; have hz := HZS.out; simp; omega)); have LW := Lib.hid (LC.out.kept KW.out fun g hg => by have hs := LB.out.size; simp at hg; omega); clear hW KW)
        | ((obtain ⟨W, hW⟩ : ∃ W, W = (((wC.setCell ⟨wA.heap.size, 0, none⟩ (.int .i64 t.k)).setCell ⟨wA.heap.size, 1, none⟩ (.string t.n)).setCell ⟨wA.heap.size, 2, none⟩ (.slice re t.l.length me)).setCell ⟨wA.heap.size, 3, none⟩ (.slice rv t.ats.length mv) := ⟨_, rfl⟩; rw [← hW]; have KW := Lib.hid (show KeptBut wC W (some wA.heap.size) from hW ▸ kept4 _ _ _ _ _ _ _ _ _ _); have BW := Lib.hid (show BoxAt W wA.heap.size [.int .i64 t.k, .string t.n, .slice re t.l.length me, .slice rv t.ats.length mv] from hW ▸ ((((BZ.out.set 0 (.int .i64 t.k)).set 1 (.string t.n)).set 2 (.slice re t.l.length me)).set 3 (.slice rv t.ats.length mv))); have HBT := Lib.hid (show ∃ b, b = wA.heap.size from ⟨_, rfl⟩)); have RW := Lib.hid (show RT (fun x => U.heap.size ≤ x) W n t (.slice re t.l.length me) (.slice rv t.ats.length mv) from RT.to (fun x hx hlt => by have hs := LB.out.size; have ha := LA.out.size; have hz := BZL.out; have hx2 : wB.heap.size ≤ x := (by rcases hx with hx | hx; exact hx.elim; first | exact hx | (simp at hx; omega)); exact ⟨by omega, KW.out.2.2.2 x hlt (by simp; omega)⟩) HRT.out); have ZW := Lib.hid ((ZU.out.low LC.out).kept KW.out (by have hs := LA.out.size; have hz := HZS.out; simp; omega)); have LW := Lib.hid (LC.out.kept KW.out fun g hg => by have hs := LA.out.size; simp at hg; omega); clear hW KW)
        | ((obtain ⟨W, hW⟩ : ∃ W, W = (((wC.setCell ⟨U.heap.size, 0, none⟩ (.int .i64 t.k)).setCell ⟨U.heap.size, 1, none⟩ (.string t.n)).setCell ⟨U.heap.size, 2, none⟩ (.slice re t.l.length me)).setCell ⟨U.heap.size, 3, none⟩ (.slice rv t.ats.length mv) := ⟨_, rfl⟩; rw [← hW]; have KW := Lib.hid (show KeptBut wC W (some U.heap.size) from hW ▸ kept4 _ _ _ _ _ _ _ _ _ _); have BW := Lib.hid (show BoxAt W U.heap.size [.int .i64 t.k, .string t.n, .slice re t.l.length me, .slice rv t.ats.length mv] from hW ▸ ((((BZ.out.set 0 (.int .i64 t.k)).set 1 (.string t.n)).set 2 (.slice re t.l.length me)).set 3 (.slice rv t.ats.length mv))); have HBT := Lib.hid (show ∃ b, b = U.heap.size from ⟨_, rfl⟩)); have RW := Lib.hid (show RT (fun x => U.heap.size ≤ x) W n t (.slice re t.l.length me) (.slice rv t.ats.length mv) from RT.to (fun x hx hlt => by have hs := LB.out.size; have hz := BZL.out; have hx2 : wB.heap.size ≤ x := (by rcases hx with hx | hx; exact hx.elim; first | exact hx | (simp at hx; omega)); exact ⟨by omega, KW.out.2.2.2 x hlt (by simp; omega)⟩) HRT.out); have ZW := Lib.hid ((ZU.out.low LC.out).kept KW.out (by have hz := HZS.out; simp; omega)); have LW := Lib.hid (LC.out.kept KW.out fun g hg => by simp at hg; omega); clear hW KW)
      go_wp2_with fail
      go_meet
      exact ⟨t, re, me, rv, mv, er, _, rfl, rfl, HJR, RW, LW, BW, ZW⟩
  case rest =>
    obtain ⟨t, re, me, rv, mv, er, bt, rfl, rfl, HJR, HRT, LC, BT, ZT⟩ := hcut
    clear HJ HE1 HE2 FU
    obtain ⟨k0, k1, k2, k3⟩ := BT.out.at4
    obtain ⟨g0, g1, g2, g3⟩ := ZT.out.at4
    obtain ⟨o0, o1, o2, o3⟩ := ZT.out.op4
    by_cases her : er = 0
    case neg =>
      have bk := beq_f her
      have bk2 : (er != 0) = true := by unfold bne; rw [bk]; rfl
      have HNR := Lib.hid (show R = none ∧ er = 30 by
        have h := HJR.out
        unfold JR at h
        cases R with
        | none => exact ⟨rfl, h.2⟩
        | some r => exact absurd h.2 her)
      clear her
      go_wp2_with fail
      refine bodyPost_ret (v := .tuple #[.agg #[.int .i64 0, .string ⟨#[]⟩, .slice none 0 0, .slice none 0 0], .int .i64 er]) (by simp [results, Try.results45, go_sem, World.cell?_setCell_same', g0, g1, g2, g3]; try rfl) rfl ?_
      have K8 := kept4 wc (w.heap.size + 2) 0 1 2 3 (.int .i64 0) (.string ⟨#[]⟩) (.slice none 0 0) (.slice none 0 0)
      refine ⟨noT, none, 0, none, 0, er, rfl, ?_, rt_kind _ _ _ _, low_all (LU.out.trans LC.out) (by omega) K8⟩
      rw [HNR.out.1, HNR.out.2]; exact ⟨rfl, rfl⟩
    case pos =>
      subst her
      have HNR := Lib.hid (show R = some t by
        have h := HJR.out
        unfold JR at h
        cases R with
        | none => exact absurd h.2 (by decide)
        | some r => rw [h.1])
      have HWS := Lib.hid (show U.heap.size ≤ wc.heap.size from LC.out.size)
      have hlt1 : w.heap.size + 1 + 1 < wc.heap.size := by have := ZT.out.lt; omega
      go_wp2_with fail
      have LT1 := Lib.hid (kept4 wc (w.heap.size + 1 + 1) 0 1 2 3 (.int .i64 7) (.string ⟨#[]⟩) (.slice (some ⟨wc.heap.size, 0, none⟩) 1 1) (.slice none 0 0))
      have hz4 : ((((wc.setCell ⟨w.heap.size + 1 + 1, 0, none⟩ (.int .i64 7)).setCell ⟨w.heap.size + 1 + 1, 1, none⟩ (.string ⟨#[]⟩)).setCell ⟨w.heap.size + 1 + 1, 2, none⟩ (.slice (some ⟨wc.heap.size, 0, none⟩) 1 1)).setCell ⟨w.heap.size + 1 + 1, 3, none⟩ (.slice none 0 0)).heap.size = wc.heap.size := by simp
      obtain ⟨W1, hW1⟩ : ∃ W, W = (((wc.setCell ⟨w.heap.size + 1 + 1, 0, none⟩ (.int .i64 7)).setCell ⟨w.heap.size + 1 + 1, 1, none⟩ (.string ⟨#[]⟩)).setCell ⟨w.heap.size + 1 + 1, 2, none⟩ (.slice (some ⟨wc.heap.size, 0, none⟩) 1 1)).setCell ⟨w.heap.size + 1 + 1, 3, none⟩ (.slice none 0 0) := ⟨_, rfl⟩
      have ZW1 := Lib.hid (show BoxAt W1 (w.heap.size + 1 + 1) [.int .i64 7, .string ⟨#[]⟩, .slice (some ⟨wc.heap.size, 0, none⟩) 1 1, .slice none 0 0] from hW1 ▸ ((((ZT.out.set 0 (.int .i64 7)).set 1 (.string ⟨#[]⟩)).set 2 (.slice (some ⟨wc.heap.size, 0, none⟩) 1 1)).set 3 (.slice none 0 0)))
      rw [← hW1] at LT1 hz4 ⊢
      obtain ⟨h0, h1, h2, h3⟩ := (ZW1.out.low (low_new (Low.refl W1) (.cells #[.int .i64 t.k, .string t.n, .slice re t.l.length me, .slice rv t.ats.length mv] 25))).at4
      clear g0 g1 g2 g3 o0 o1 o2 o3 hW1
      refine bodyPost_ret (v := .tuple #[.agg #[.int .i64 7, .string ⟨#[]⟩, .slice (some ⟨wc.heap.size, 0, none⟩) 1 1, .slice none 0 0], .int .i64 0]) (by simp [results, Try.results45, go_sem, h0, h1, h2, h3]; try rfl) rfl ?_
      have LW1 : Low W1 (W1.alloc (.cells #[.int .i64 t.k, .string t.n, .slice re t.l.length me, .slice rv t.ats.length mv] 25)) := low_new (Low.refl _) _
      have BR : BoxAt (W1.alloc (.cells #[.int .i64 t.k, .string t.n, .slice re t.l.length me, .slice rv t.ats.length mv] 25)) wc.heap.size [.int .i64 t.k, .string t.n, .slice re t.l.length me, .slice rv t.ats.length mv] := BoxAt.made rfl hz4 rfl
      refine ⟨.mk 7 ⟨#[]⟩ [t] [], some ⟨wc.heap.size, 0, none⟩, 1, none, 0, 0, rfl, by rw [HNR.out]; exact ⟨rfl, rfl⟩, ⟨(by decide : (⟨#[]⟩ : ByteArray).size ≤ 9223372036854775807), ⟨_, _, rfl, ⟨Nat.le_refl _, by decide⟩, .inr ⟨wc.heap.size, 0, rfl, .inr (by have := HWS.out; have := HZS.out; omega), fun j hj => ?_⟩⟩, RAs.nil _ _ _⟩, (low_all (LU.out.trans LC.out) (by omega) LT1.out).trans LW1⟩
      obtain rfl : j = 0 := by simpa [T.l] using hj
      refine ⟨.slice re t.l.length me, .slice rv t.ats.length mv, by rw [Nat.zero_mul]; exact BR.cells, ?_⟩
      refine RT.low (RT.to (fun x hx hlt => ?_) HRT.out) LW1
      have := HZS.out
      exact ⟨.inr (by omega), LT1.out.2.2.2 x hlt (by simp; omega)⟩
end Go.Proofs.Ytjipncpgmajeeaa
