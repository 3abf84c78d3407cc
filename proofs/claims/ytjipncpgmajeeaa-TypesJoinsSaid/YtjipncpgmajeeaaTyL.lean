/- The program's clone: the same type in new memory. Condition: short rows. -/
import Derived.Test.YtjipncpgmajeeaaTyN
import Derived.Deep.RegionWith
import Derived.Deep.CutRange
namespace Go.Proofs.Ytjipncpgmajeeaa
open Go.RowKit
/-- What clone tells. -/
def CloneP (n : Nat) (t : T) (w : World) (e : Ending) (w' : World) : Prop := ∃ pe ce pv cv, e = .returned (.agg #[.int .i64 t.k, .string t.n, .slice pe t.l.length ce, .slice pv t.ats.length cv]) ∧ RT (fun b => w.heap.size ≤ b) w' n t (.slice pe t.l.length ce) (.slice pv t.ats.length cv) ∧ Low w w'
/-- Blocks that neither box nor row lies in. -/
def Fr (s : Nat) (vE vA : Value) (b : Nat) : Prop := s + 2 ≤ b ∧ some b ≠ vE.ownBlock ∧ some b ≠ vA.ownBlock
theorem te_old {w W : World} {n : Nat} {ps : List Te} (h : ∀ p ∈ ps, TeOk (fun b => b < w.heap.size) W n p) (l : Low w W) : ∀ p ∈ ps, TeOk (fun b => b < w.heap.size) w n p := fun p hp => RT.to (fun b ha _ => ⟨ha, (l.2.2.2 b ha).symm⟩) (h p hp)
theorem ae_old {w W : World} {n : Nat} {ps : List Ae} (h : ∀ p ∈ ps, AeOk (fun b => b < w.heap.size) W n p) (l : Low w W) : ∀ p ∈ ps, AeOk (fun b => b < w.heap.size) w n p := fun p hp => ⟨(h p hp).1, RT.to (fun b ha _ => ⟨ha, (l.2.2.2 b ha).symm⟩) (h p hp).2⟩
set_option maxHeartbeats 6400000 in
set_option maxRecDepth 100000 in
theorem clone_n (n : Nat) : ∀ (A : Nat → Prop) (t : T) (w : World) (e v : Value), Sm n t → RT A w n t e v → Calls Try.prog 44 #[tv t e v] w (CloneP n t w) := by
  induction n with
  | zero => intro A t w e v _ h; exact h.elim
  | succ n ih =>
    intro A t w e v hs h
    obtain ⟨pe, ce, pv, cv, rfl, rfl, z1, z2, z3, z4⟩ := h.sl
    obtain ⟨hn9, hl, ha⟩ := rt_succ.1 h
    obtain ⟨s1, s2, s3⟩ := hs
    obtain ⟨sz, hsz⟩ : ∃ s, s = w.heap.size := ⟨_, rfl⟩
    obtain ⟨U, hU⟩ : ∃ W, W = (w.alloc (.cells #[.int .i64 t.k, .string t.n, .slice pe t.l.length ce, .slice pv t.ats.length cv] 25)).alloc (.cells #[.int .i64 0, .string ⟨#[]⟩, .slice none 0 0, .slice none 0 0] 25) := ⟨_, rfl⟩
    have HU := Lib.hid hU
    have LU := Lib.hid (show Low w U by rw [hU]; exact low_new (low_new (Low.refl w) _) _)
    have HZ := Lib.hid (show U.heap.size = w.heap.size + 2 by rw [hU]; simp)
    have B0 := Lib.hid (show BoxAt U w.heap.size [.int .i64 t.k, .string t.n, .slice pe t.l.length ce, .slice pv t.ats.length cv] from BoxAt.low (BoxAt.made (w := w) rfl rfl rfl) (show Low (w.alloc (.cells #[.int .i64 t.k, .string t.n, .slice pe t.l.length ce, .slice pv t.ats.length cv] 25)) U by rw [hU]; exact low_new (Low.refl _) _))
    have Z0 := Lib.hid (show BoxAt U (w.heap.size + 1) [.int .i64 0, .string ⟨#[]⟩, .slice none 0 0, .slice none 0 0] from BoxAt.made hU (by simp) rfl)
    have CT := Lib.hid fun W (l : Low U W) => cloneT_c (A := fun b => b < w.heap.size) t.l W (.slice pe t.l.length ce) (by omega) (RL.to (fun b hb hlt => ⟨hb.2, (LU.out.trans l).2.2.2 b hb.2⟩) hl.lt)
    have CA := Lib.hid fun W (l : Low U W) => cloneA_c (A := fun b => b < w.heap.size) t.ats W (.slice pv t.ats.length cv) (by omega) (RAs.to (fun b hb hlt => ⟨hb.2, (LU.out.trans l).2.2.2 b hb.2⟩) ha.lt)
    have HI := Lib.hid ih
    have HS := Lib.hid s3
    have HN := Lib.hid hn9
    clear hU h hl ha ih s3 hn9 hsz sz
    unfold tv
    go_enter Try.func44, Try.ntmps44
    go_upto_region 1 with fail
    rw [← HU.out]
    clear HU
    go_cut [] from 5 to 12 (fun wx => ∃ (qe : Option Addr) (de : Nat) (qv : Option Addr) (dv : Nat) (ps : List Te) (qs : List Ae), ps.length = t.l.length ∧ qs.length = t.ats.length ∧ t.l.length ≤ de ∧ de ≤ 9223372036854775807 ∧ t.ats.length ≤ dv ∧ dv ≤ 9223372036854775807 ∧ Hid (Low w wx) ∧ Hid (BoxAt wx w.heap.size [.int .i64 t.k, .string t.n, .slice qe t.l.length de, .slice qv t.ats.length dv]) ∧ Hid (BoxAt wx (w.heap.size + 1) [.int .i64 0, .string ⟨#[]⟩, .slice none 0 0, .slice none 0 0]) ∧
      Hid (OwnR 25 4 encT (w.heap.size + 2) wx (.slice qe t.l.length de) ps) ∧ Hid (OwnR 30 6 encA (w.heap.size + 2) wx (.slice qv t.ats.length dv) qs) ∧ Hid (∀ g, (Value.slice qe t.l.length de).ownBlock = some g → (Value.slice qv t.ats.length dv).ownBlock ≠ some g) ∧ Hid (ps.map (·.t) = t.l) ∧ Hid (qs.map (·.x) = t.ats) ∧ Hid (∀ p ∈ ps, TeOk (fun b => b < w.heap.size) w n p) ∧ Hid (∀ p ∈ qs, AeOk (fun b => b < w.heap.size) w n p))
    case first =>
      obtain ⟨b0, b1, b2, b3⟩ := (B0.out.low (low_drew (Low.refl U))).at4
      obtain ⟨o0, o1, o2, o3⟩ := (B0.out.low (low_drew (Low.refl U))).op4
      have Lcur := Lib.hid (low_drew (Low.refl U))
      go_wp2_with fail
      go_region_with (first
        | (go_at_call 48; refine (CT.out _ Lcur.out).mono ?_; rintro e wT ⟨vE, ps, rfl, hps, hokE, oE, lE⟩; have hpl : ps.length = t.l.length := (by rw [← hps, List.length_map]); obtain ⟨qe, de, rfl, hE1, hE2, -⟩ := OwnR.shape oE; rw [hpl] at oE hE1 ⊢; have OE0 := Lib.hid oE; have OE := Lib.hid oE; (try have OA := Lib.hid (OwnR.low OA.out lE)); have LT := Lib.hid (Lcur.out); have HPS := Lib.hid hps; have HKE := Lib.hid (te_old hokE (LU.out.trans Lcur.out)); have L2 := Lib.hid (Lcur.out.trans lE); clear Lcur; have Lcur := Lib.hid L2.out; clear L2 b0 b1 b2 b3 o0 o1 o2 o3 hps hokE oE lE; obtain ⟨b0, b1, b2, b3⟩ := (B0.out.low Lcur.out).at4; obtain ⟨o0, o1, o2, o3⟩ := (B0.out.low Lcur.out).op4)
        | (go_at_call 50; refine (CA.out _ Lcur.out).mono ?_; rintro e wA ⟨vA, qs, rfl, hqs, hokA, oA, lA⟩; have hql : qs.length = t.ats.length := (by rw [← hqs, List.length_map]); obtain ⟨qv, dv, rfl, hA1, hA2, -⟩ := OwnR.shape oA; rw [hql] at oA hA1 ⊢; have OA0 := Lib.hid oA; have OA := Lib.hid oA; (try have OE := Lib.hid (OwnR.low OE.out lA)); have LA := Lib.hid (Lcur.out); have HQS := Lib.hid hqs; have HKA := Lib.hid (ae_old hokA (LU.out.trans Lcur.out)); have L2 := Lib.hid (Lcur.out.trans lA); clear Lcur; have Lcur := Lib.hid L2.out; clear L2 b0 b1 b2 b3 o0 o1 o2 o3 hqs hokA oA lA; obtain ⟨b0, b1, b2, b3⟩ := (B0.out.low Lcur.out).at4; obtain ⟨o0, o1, o2, o3⟩ := (B0.out.low Lcur.out).op4))
      all_goals
        first
          | (obtain ⟨W, hW⟩ : ∃ W, W = (wA.setCell ⟨w.heap.size, 2, none⟩ (.slice qe t.l.length de)).setCell ⟨w.heap.size, 3, none⟩ (.slice qv t.ats.length dv) := ⟨_, rfl⟩; rw [← hW]; have KW := Lib.hid (show KeptBut wA W (some w.heap.size) from hW ▸ (kept_setCell _ _ _ _).trans (kept_setCell _ _ _ _)); have BW := Lib.hid (show BoxAt W w.heap.size [.int .i64 t.k, .string t.n, .slice qe t.l.length de, .slice qv t.ats.length dv] from hW ▸ ((B0.out.low Lcur.out).set 2 (.slice qe t.l.length de)).set 3 (.slice qv t.ats.length dv)); have ZW := Lib.hid ((Z0.out.low Lcur.out).kept KW.out (by simp)))
          | (obtain ⟨W, hW⟩ : ∃ W, W = (wT.setCell ⟨w.heap.size, 2, none⟩ (.slice qe t.l.length de)).setCell ⟨w.heap.size, 3, none⟩ (.slice qv t.ats.length dv) := ⟨_, rfl⟩; rw [← hW]; have KW := Lib.hid (show KeptBut wT W (some w.heap.size) from hW ▸ (kept_setCell _ _ _ _).trans (kept_setCell _ _ _ _)); have BW := Lib.hid (show BoxAt W w.heap.size [.int .i64 t.k, .string t.n, .slice qe t.l.length de, .slice qv t.ats.length dv] from hW ▸ ((B0.out.low Lcur.out).set 2 (.slice qe t.l.length de)).set 3 (.slice qv t.ats.length dv)); have ZW := Lib.hid ((Z0.out.low Lcur.out).kept KW.out (by simp)))
          | (obtain ⟨W, hW⟩ : ∃ W, W = (wA.setCell ⟨w.heap.size, 3, none⟩ (.slice qv t.ats.length dv)).setCell ⟨w.heap.size, 2, none⟩ (.slice qe t.l.length de) := ⟨_, rfl⟩; rw [← hW]; have KW := Lib.hid (show KeptBut wA W (some w.heap.size) from hW ▸ (kept_setCell _ _ _ _).trans (kept_setCell _ _ _ _)); have BW := Lib.hid (show BoxAt W w.heap.size [.int .i64 t.k, .string t.n, .slice qe t.l.length de, .slice qv t.ats.length dv] from hW ▸ ((B0.out.low Lcur.out).set 3 (.slice qv t.ats.length dv)).set 2 (.slice qe t.l.length de)); have ZW := Lib.hid ((Z0.out.low Lcur.out).kept KW.out (by simp)))
          | (obtain ⟨W, hW⟩ : ∃ W, W = (wT.setCell ⟨w.heap.size, 3, none⟩ (.slice qv t.ats.length dv)).setCell ⟨w.heap.size, 2, none⟩ (.slice qe t.l.length de) := ⟨_, rfl⟩; rw [← hW]; have KW := Lib.hid (show KeptBut wT W (some w.heap.size) from hW ▸ (kept_setCell _ _ _ _).trans (kept_setCell _ _ _ _)); have BW := Lib.hid (show BoxAt W w.heap.size [.int .i64 t.k, .string t.n, .slice qe t.l.length de, .slice qv t.ats.length dv] from hW ▸ ((B0.out.low Lcur.out).set 3 (.slice qv t.ats.length dv)).set 2 (.slice qe t.l.length de)); have ZW := Lib.hid ((Z0.out.low Lcur.out).kept KW.out (by simp)))
        have LW := Lib.hid ((LU.out.trans Lcur.out).kept KW.out fun g hg => by simp at hg; omega)
        have EW := Lib.hid (OwnR.base (OwnR.to OE.out fun g hg => KW.out.2.2.2 g (World.ownsRow.lt OE.out g hg).2 (by have h1 := (World.ownsRow.lt OE.out g hg).1; have h2 := HZ.out; have h3 := LT.out.size; simp; omega)) (by have h2 := HZ.out; have h3 := LT.out.size; omega : w.heap.size + 2 ≤ _))
        have AW := Lib.hid (OwnR.base (OwnR.to OA.out fun g hg => KW.out.2.2.2 g (World.ownsRow.lt OA.out g hg).2 (by have h1 := (World.ownsRow.lt OA.out g hg).1; have h2 := HZ.out; have h3 := LA.out.size; simp; omega)) (by have h2 := HZ.out; have h3 := LA.out.size; omega : w.heap.size + 2 ≤ _))
        have HG := Lib.hid (show ∀ g, (Value.slice qe t.l.length de).ownBlock = some g → (Value.slice qv t.ats.length dv).ownBlock ≠ some g from fun g h1 h2 => by
          have a1 := (World.ownsRow.lt OE0.out g h1)
          have a2 := (World.ownsRow.lt OA0.out g h2)
          omega)
        clear hW KW b0 b1 b2 b3 o0 o1 o2 o3 OE OA OE0 OA0 LT LA Lcur
        go_wp2_with fail
        go_meet
        exact ⟨qe, de, qv, dv, ps, qs, hpl, hql, hE1, hE2, hA1, hA2, LW, BW, ZW, EW, AW, HG, HPS, HQS, HKE, HKA⟩
    case rest =>
      obtain ⟨qe, de, qv, dv, ps, qs, hpl, hql, hE1, hE2, hA1, hA2, LW, BW, ZW, EW, AW, HG, HPS, HQS, HKE, HKA⟩ := hcut
      clear B0 Z0 CT CA LU HZ z1 z2 z3 z4
      obtain ⟨f0, f1, f2, f3⟩ := BW.out.at4
      go_wp2_with fail
      clear f0 f1 f2 f3
      go_loopg [3, 16] t.l.length (fun gk vx vi wr => ∃ (j : Nat) (cs : List Te), vi = .int .i64 (j : Int) ∧ j ≤ t.l.length ∧ t.l.length - j ≤ gk ∧ cs.length = t.l.length ∧ Hid (Low w wr) ∧ Hid (BoxAt wr w.heap.size [.int .i64 t.k, .string t.n, .slice qe t.l.length de, .slice qv t.ats.length dv]) ∧ Hid (BoxAt wr (w.heap.size + 1) [.int .i64 0, .string ⟨#[]⟩, .slice none 0 0, .slice none 0 0]) ∧ Hid (OwnR 25 4 encT (w.heap.size + 2) wr (.slice qe t.l.length de) cs) ∧ Hid (OwnR 30 6 encA (w.heap.size + 2) wr (.slice qv t.ats.length dv) qs) ∧ Hid (∀ k (hk : k < cs.length), k < j → TeOk (Fr w.heap.size (.slice qe t.l.length de) (.slice qv t.ats.length dv)) wr n cs[k]) ∧ Hid (∀ k (hk : k < cs.length) (hk2 : k < ps.length), j ≤ k → cs[k] = ps[k]) ∧ Hid (cs.map (·.t) = t.l))
      case atStart => exact ⟨0, ps, rfl, Nat.zero_le _, Nat.le_refl _, hpl, LW, BW, ZW, EW, AW, Lib.hid fun k hk h => absurd h (Nat.not_lt_zero _), Lib.hid fun k hk hk2 _ => rfl, HPS⟩
      case round =>
        clear LW BW ZW EW AW
        obtain ⟨j, cs, rfl, hj, hg, hcl, G, GB, GZ, OE, OA, D, Q, M⟩ := hrel
        by_cases hlt : j < t.l.length
        case pos =>
          obtain ⟨aox, cpx, hvx, -, -, hox⟩ := OwnR.shape OE.out
          simp only [Value.slice.injEq] at hvx
          obtain ⟨rfl, -, rfl⟩ := hvx
          rcases hox with h0 | ⟨g, rfl, hgB, hgs⟩
          · rw [h0] at hcl; simp at hcl; omega
          have hjc : j < cs.length := by omega
          have hjp : j < ps.length := by omega
          have hjt : j < t.l.length := by omega
          have hqe : cs[j] = ps[j] := Q.out j hjc hjp (Nat.le_refl _)
          obtain ⟨q, hq⟩ : ∃ q, q = cs[j] := ⟨_, rfl⟩
          have hqm : q.t = t.l[j] := by
            have h1 : (cs.map (·.t))[j]? = t.l[j]? := by rw [M.out]
            simp [hjc, hjt] at h1
            rw [hq]; exact h1
          have hmem : q.t ∈ t.ins := by rw [hqm]; exact ins_l (List.getElem_mem _)
          have hok0 : TeOk (fun b => b < w.heap.size) w n q := by rw [hq, hqe]; exact HKE.out _ (List.getElem_mem hjp)
          have OEd := Lib.hid (OwnR.low OE.out (low_drew (Low.refl wr)))
          have GBd := Lib.hid (GB.out.low (low_drew (Low.refl wr)))
          have hcs : CellsAt wr.drew g (j * 4) (encT cs[j]) := show CellsAt wr.drew g (j * 4) (encT cs[j]) from fun c u hu => (OwnR.cell encT_len OEd.out j c hjc (by have := (List.getElem?_eq_some_iff.1 hu).1; rwa [encT_len] at this)).trans hu
          rw [← hq] at hcs
          obtain ⟨d0, d1, d2, d3⟩ := cells4 hcs
          obtain ⟨f0, f1, f2, f3⟩ := GBd.out.at4
          have HC := Lib.hid (HI.out (fun b => b < w.heap.size) q.t wr.drew _ _ (HS.out _ hmem) (RT.low hok0 (G.out.trans (low_drew (Low.refl wr)))))
          have HSZ := Lib.hid (True.intro)
          have HQM := Lib.hid hqm
          have HQ := Lib.hid hq
          have zl : (j : Int) < (t.l.length : Int) := by omega
          unfold tv at HC
          clear hcs hqm hq hqe hmem hok0
          unfold Te.e Te.v at *
          go_wp2_with fail
          go_region_with (go_at_call 44; refine HC.out.mono ?_; rintro e w6 ⟨pe3, ce3, pv3, cv3, rfl, hrt, l6⟩; have L6 := Lib.hid ((low_drew (Low.refl wr)).trans l6); have HRT := Lib.hid (show RT (fun b => wr.heap.size ≤ b) w6 n q.t (.slice pe3 q.t.l.length ce3) (.slice pv3 q.t.ats.length cv3) from hrt); have GB6 := Lib.hid (GB.out.low L6.out); have OE6 := Lib.hid (OwnR.low OE.out L6.out); clear f0 f1 f2 f3 d0 d1 d2 d3 hrt l6; obtain ⟨f0, f1, f2, f3⟩ := GB6.out.at4; have hcs : CellsAt w6 g (j * 4) (encT cs[j]) := (show CellsAt w6 g (j * 4) (encT cs[j]) from fun c u hu => (OwnR.cell encT_len OE6.out j c hjc (by have := (List.getElem?_eq_some_iff.1 hu).1; rwa [encT_len] at this)).trans hu); rw [← HQ.out] at hcs; obtain ⟨d0, d1, d2, d3⟩ := cells4 hcs; clear hcs; have z0 := OwnR.frozen OE6.out (j * 4); have z1 := OwnR.frozen OE6.out (j * 4 + 1); have z2 := OwnR.frozen OE6.out (j * 4 + 2); have z3 := OwnR.frozen OE6.out (j * 4 + 3))
          all_goals
            have HO7 := Lib.hid (storedT (B := w.heap.size + 2) (w := w6) (g := g) (⟨q.t, pe3, ce3, pv3, cv3⟩ : Te) (show OwnR 25 4 encT (w.heap.size + 2) w6 (.slice (some ⟨g, 0, none⟩) t.l.length de) cs from OE6.out) hjc hcl.symm)
            have HK7 := Lib.hid (show KeptBut w6 ((((w6.setCell ⟨g, j * 4, none⟩ (.int .i64 q.t.k)).setCell ⟨g, j * 4 + 1, none⟩ (.string q.t.n)).setCell ⟨g, j * 4 + 2, none⟩ (.slice pe3 q.t.l.length ce3)).setCell ⟨g, j * 4 + 3, none⟩ (.slice pv3 q.t.ats.length cv3)) (some g) from kept4 _ _ _ _ _ _ _ _ _ _)
            clear z0 z1 z2 z3 f0 f1 f2 f3 d0 d1 d2 d3
            go_wp2_with fail
            go_roundg (t.l.length - (j + 1))
            case measure => omega
            case rel =>
              refine ⟨j + 1, cs.set j ⟨q.t, pe3, ce3, pv3, cv3⟩, by go_num, by omega, by omega, by rw [List.length_set]; exact hcl, Lib.hid ((G.out.trans L6.out).kept HK7.out fun g' hg' => by simp at hg'; omega), Lib.hid (GB6.out.kept HK7.out (by simp; omega)), Lib.hid ((GZ.out.low L6.out).kept HK7.out (by simp; omega)), HO7, Lib.hid (OwnR.to (OwnR.low OA.out L6.out) fun h hh => HK7.out.2.2.2 h (World.ownsRow.lt (OwnR.low OA.out L6.out) h hh).2 (by simp; rintro rfl; exact HG.out _ rfl hh)), Lib.hid fun k hk hkj => ?_, Lib.hid fun k hk hk2 hjk => ?_, Lib.hid ?_⟩
              · have hk' : k < cs.length := by rwa [List.length_set] at hk
                by_cases e : k = j
                · subst e
                  rw [List.getElem_set_self]
                  have hgz := GZ.out.lt
                  have hEl := fun g' (h : (Value.slice qv t.ats.length dv).ownBlock = some g') => (World.ownsRow.lt OA.out g' h).2
                
                  have hr3 : RT (Fr w.heap.size (.slice (some ⟨g, 0, none⟩) t.l.length de) (.slice qv t.ats.length dv)) _ n q.t _ _ := RT.to (fun b hb hlt => ⟨⟨by omega, by simp [Value.ownBlock]; omega, by intro e; have := hEl b e.symm; omega⟩, HK7.out.2.2.2 b hlt (by simp; omega)⟩) HRT.out
                  exact hr3
                · rw [List.getElem_set_ne (Ne.symm e)]
                  have ho := D.out k hk' (by omega)
                  exact RT.to (fun b hb hlt => ⟨hb, HK7.out.2.2.2 b hlt hb.2.1⟩) (RT.low ho L6.out)
              · rw [List.getElem_set_ne (by omega)]
                exact Q.out k (by rwa [List.length_set] at hk) hk2 (by omega)
              · rw [List.map_set, M.out, HQM.out, List.set_getElem_self]

        case neg =>
          have zl : ¬ (j : Int) < (t.l.length : Int) := by omega
          have ED := Lib.hid (show ∀ p ∈ cs, TeOk (Fr w.heap.size (.slice qe t.l.length de) (.slice qv t.ats.length dv)) wr n p from fun p hp => by
            obtain ⟨k, hk, rfl⟩ := List.getElem_of_mem hp
            exact D.out k hk (by omega))
          have M1 := Lib.hid M.out
          obtain ⟨f0, f1, f2, f3⟩ := GB.out.at4
          clear D Q M
          go_wp2_with fail
          clear f0 f1 f2 f3
          go_loopg [4, 33] t.ats.length (fun gk vx vi wr => ∃ (j : Nat) (ds : List Ae), vi = .int .i64 (j : Int) ∧ j ≤ t.ats.length ∧ t.ats.length - j ≤ gk ∧ ds.length = t.ats.length ∧ Hid (Low w wr) ∧ Hid (BoxAt wr w.heap.size [.int .i64 t.k, .string t.n, .slice qe t.l.length de, .slice qv t.ats.length dv]) ∧ Hid (BoxAt wr (w.heap.size + 1) [.int .i64 0, .string ⟨#[]⟩, .slice none 0 0, .slice none 0 0]) ∧ Hid (OwnR 25 4 encT (w.heap.size + 2) wr (.slice qe t.l.length de) cs) ∧ Hid (OwnR 30 6 encA (w.heap.size + 2) wr (.slice qv t.ats.length dv) ds) ∧ Hid (∀ p ∈ cs, TeOk (Fr w.heap.size (.slice qe t.l.length de) (.slice qv t.ats.length dv)) wr n p) ∧ Hid (∀ k (hk : k < ds.length), k < j → AeOk (Fr w.heap.size (.slice qe t.l.length de) (.slice qv t.ats.length dv)) wr n ds[k]) ∧ Hid (∀ k (hk : k < ds.length) (hk2 : k < qs.length), j ≤ k → ds[k] = qs[k]) ∧ Hid (ds.map (·.x) = t.ats))
          case atStart => exact ⟨0, qs, rfl, Nat.zero_le _, Nat.le_refl _, hql, G, GB, GZ, OE, OA, ED, Lib.hid fun k hk h => absurd h (Nat.not_lt_zero _), Lib.hid fun k hk hk2 _ => rfl, HQS⟩
          case round =>
            clear G GB GZ OE OA ED hcl
            obtain ⟨j, ds, rfl, hj, hg, hcl, G, GB, GZ, OE, OA, ED, D, Q, M⟩ := hrel
            by_cases hlt : j < t.ats.length
            case pos =>
              obtain ⟨aox, cpx, hvx, -, -, hox⟩ := OwnR.shape OA.out
              simp only [Value.slice.injEq] at hvx
              obtain ⟨rfl, -, rfl⟩ := hvx
              rcases hox with h0 | ⟨g, rfl, hgB, hgs⟩
              · rw [h0] at hcl; simp at hcl; omega
              have hjc : j < ds.length := by omega
              have hjp : j < qs.length := by omega
              have hjt : j < t.ats.length := by omega
              have hqe : ds[j] = qs[j] := Q.out j hjc hjp (Nat.le_refl _)
              obtain ⟨q, hq⟩ : ∃ q, q = ds[j] := ⟨_, rfl⟩
              have hqm : q.x = t.ats[j] := by
                have h1 : (ds.map (·.x))[j]? = t.ats[j]? := by rw [M.out]
                simp [hjc, hjt] at h1
                rw [hq]; exact h1
              have hmem : (aty q.x) ∈ t.ins := by rw [hqm]; exact ins_as (List.getElem_mem _)
              have hok0 : AeOk (fun b => b < w.heap.size) w n q := by rw [hq, hqe]; exact HKA.out _ (List.getElem_mem hjp)
              have OAd := Lib.hid (OwnR.low OA.out (low_drew (Low.refl wr)))
              have GBd := Lib.hid (GB.out.low (low_drew (Low.refl wr)))
              have hcs : CellsAt wr.drew g (j * 6) (encA ds[j]) := show CellsAt wr.drew g (j * 6) (encA ds[j]) from fun c u hu => (OwnR.cell encA_len OAd.out j c hjc (by have := (List.getElem?_eq_some_iff.1 hu).1; rwa [encA_len] at this)).trans hu
              rw [← hq] at hcs
              obtain ⟨d0, d1, d2, d3, d4, d5⟩ := cells6 hcs
              obtain ⟨f0, f1, f2, f3⟩ := GBd.out.at4
              have HC := Lib.hid (HI.out (fun b => b < w.heap.size) (aty q.x) wr.drew _ _ (HS.out _ hmem) (RT.low hok0.2 (G.out.trans (low_drew (Low.refl wr)))))
              have HSZ := Lib.hid (hok0.1)
              have HQM := Lib.hid hqm
              have HQ := Lib.hid hq
              have zl : (j : Int) < (t.ats.length : Int) := by omega
              unfold tv at HC
              clear hcs hqm hq hqe hmem hok0
              unfold Ae.e Ae.v at *
              go_wp2_with fail
              go_region_with (go_at_call 44; refine HC.out.mono ?_; rintro e w6 ⟨pe3, ce3, pv3, cv3, rfl, hrt, l6⟩; have L6 := Lib.hid ((low_drew (Low.refl wr)).trans l6); have HRT := Lib.hid (show RT (fun b => wr.heap.size ≤ b) w6 n (aty q.x) (.slice pe3 (aty q.x).l.length ce3) (.slice pv3 (aty q.x).ats.length cv3) from hrt); have GB6 := Lib.hid (GB.out.low L6.out); have OA6 := Lib.hid (OwnR.low OA.out L6.out); clear f0 f1 f2 f3 d0 d1 d2 d3 d4 d5 hrt l6; obtain ⟨f0, f1, f2, f3⟩ := GB6.out.at4; have hcs : CellsAt w6 g (j * 6) (encA ds[j]) := (show CellsAt w6 g (j * 6) (encA ds[j]) from fun c u hu => (OwnR.cell encA_len OA6.out j c hjc (by have := (List.getElem?_eq_some_iff.1 hu).1; rwa [encA_len] at this)).trans hu); rw [← HQ.out] at hcs; obtain ⟨d0, d1, d2, d3, d4, d5⟩ := cells6 hcs; clear hcs; have z0 := OwnR.frozen OA6.out (j * 6 + 1); have z1 := OwnR.frozen OA6.out (j * 6 + 2); have z2 := OwnR.frozen OA6.out (j * 6 + 3); have z3 := OwnR.frozen OA6.out (j * 6 + 4))
              all_goals
                have HO7 := Lib.hid (storedA (B := w.heap.size + 2) (w := w6) (g := g) (⟨(aty q.x), pe3, ce3, pv3, cv3⟩ : Te) (show OwnR 30 6 encA (w.heap.size + 2) w6 (.slice (some ⟨g, 0, none⟩) t.ats.length dv) ds from OA6.out) hjc hcl.symm)
                have HK7 := Lib.hid (show KeptBut w6 ((((w6.setCell ⟨g, j * 6 + 1, none⟩ (.int .i64 (aty q.x).k)).setCell ⟨g, j * 6 + 2, none⟩ (.string (aty q.x).n)).setCell ⟨g, j * 6 + 3, none⟩ (.slice pe3 (aty q.x).l.length ce3)).setCell ⟨g, j * 6 + 4, none⟩ (.slice pv3 (aty q.x).ats.length cv3)) (some g) from kept4 _ _ _ _ _ _ _ _ _ _)
                clear z0 z1 z2 z3 f0 f1 f2 f3 d0 d1 d2 d3 d4 d5
                go_wp2_with fail
                go_roundg (t.ats.length - (j + 1))
                case measure => omega
                case rel =>
                  refine ⟨j + 1, ds.set j (putA ds[j] ⟨aty q.x, pe3, ce3, pv3, cv3⟩), by go_num, by omega, by omega, by rw [List.length_set]; exact hcl, Lib.hid ((G.out.trans L6.out).kept HK7.out fun g' hg' => by simp at hg'; omega), Lib.hid (GB6.out.kept HK7.out (by simp; omega)), Lib.hid ((GZ.out.low L6.out).kept HK7.out (by simp; omega)), Lib.hid (OwnR.to (OwnR.low OE.out L6.out) fun h hh => HK7.out.2.2.2 h (World.ownsRow.lt (OwnR.low OE.out L6.out) h hh).2 (by simp; rintro rfl; exact HG.out _ hh rfl)), HO7, Lib.hid (fun p hp => RT.to (fun b hb hlt => ⟨hb, HK7.out.2.2.2 b hlt hb.2.2⟩) (RT.low (ED.out p hp) L6.out)), Lib.hid fun k hk hkj => ?_, Lib.hid fun k hk hk2 hjk => ?_, Lib.hid ?_⟩
                  · have hk' : k < ds.length := by rwa [List.length_set] at hk
                    by_cases e : k = j
                    · subst e
                      rw [List.getElem_set_self]
                      have hgz := GZ.out.lt
                      have hEl := fun g' (h : (Value.slice qe t.l.length de).ownBlock = some g') => (World.ownsRow.lt OE.out g' h).2
                      rw [← HQ.out]
                      have hr3 : RT (Fr w.heap.size (.slice qe t.l.length de) (.slice (some ⟨g, 0, none⟩) t.ats.length dv)) _ n (aty q.x) _ _ := RT.to (fun b hb hlt => ⟨⟨by omega, by intro e; have := hEl b e.symm; omega, by simp [Value.ownBlock]; omega⟩, HK7.out.2.2.2 b hlt (by simp; omega)⟩) HRT.out
                      exact ⟨HSZ.out, hr3⟩
                    · rw [List.getElem_set_ne (Ne.symm e)]
                      have ho := D.out k hk' (by omega)
                      exact ⟨ho.1, RT.to (fun b hb hlt => ⟨hb, HK7.out.2.2.2 b hlt hb.2.2⟩) (RT.low ho.2 L6.out)⟩
                  · rw [List.getElem_set_ne (by omega)]
                    exact Q.out k (by rwa [List.length_set] at hk) hk2 (by omega)
                  · rw [List.map_set, M.out]
                    rw [← HQ.out]; show t.ats.set j (an q.x, aty q.x, ao q.x) = t.ats
                    rw [show (an q.x, aty q.x, ao q.x) = q.x from rfl, HQM.out, List.set_getElem_self]

            case neg =>
              have zl : ¬ (j : Int) < (t.ats.length : Int) := by omega
              obtain ⟨f0, f1, f2, f3⟩ := GB.out.at4
              obtain ⟨g0, g1, g2, g3⟩ := GZ.out.at4
              obtain ⟨o0, o1, o2, o3⟩ := GZ.out.op4
              go_wp2_with fail
              refine bodyPost_ret (v := .agg #[.int .i64 t.k, .string t.n, .slice qe t.l.length de, .slice qv t.ats.length dv]) (by simp [results, Try.results44, go_sem, World.cell?_setCell_same', g0, g1, g2, g3]; try rfl) rfl ?_
              have K8 := kept4 wr (w.heap.size + 1) 0 1 2 3 (.int .i64 t.k) (.string t.n) (.slice qe t.l.length de) (.slice qv t.ats.length dv)
              refine ⟨qe, de, qv, dv, rfl, ⟨HN.out, ?_, ?_⟩, low_all G.out (Nat.le_succ _) K8⟩
              · have h1 := ownT_row (n := n) (A := Fr w.heap.size (.slice qe t.l.length de) (.slice qv t.ats.length dv)) (A' := fun b => w.heap.size ≤ b) (OwnR.to OE.out fun g hg => K8.2.2.2 g (World.ownsRow.lt OE.out g hg).2 (by have := (World.ownsRow.lt OE.out g hg).1; simp; omega)) (fun p hp => RT.to (fun b hb hlt => ⟨hb, K8.2.2.2 b hlt (by have := hb.1; simp; omega)⟩) (ED.out p hp)) (fun b hb => by have := hb.1; omega) (fun g hg => by have := (World.ownsRow.lt OE.out g hg).1; omega)
                rw [M1.out] at h1
                exact h1
              · have h1 := ownA_row (n := n) (A := Fr w.heap.size (.slice qe t.l.length de) (.slice qv t.ats.length dv)) (A' := fun b => w.heap.size ≤ b) (OwnR.to OA.out fun g hg => K8.2.2.2 g (World.ownsRow.lt OA.out g hg).2 (by have := (World.ownsRow.lt OA.out g hg).1; simp; omega)) (fun p hp => by
                  obtain ⟨k, hk, rfl⟩ := List.getElem_of_mem hp
                  have ho := D.out k hk (by omega)
                  exact ⟨ho.1, RT.to (fun b hb hlt => ⟨hb, K8.2.2.2 b hlt (by have := hb.1; simp; omega)⟩) ho.2⟩) (fun b hb => by have := hb.1; omega) (fun g hg => by have := (World.ownsRow.lt OA.out g hg).1; omega)
                rw [M.out] at h1
                exact h1
theorem clone_c {n : Nat} {A : Nat → Prop} (t : T) (w : World) (e v : Value) (hs : Sm n t) (h : RT A w n t e v) : Calls Try.prog 44 #[tv t e v] w (CloneP n t w) := clone_n n A t w e v hs h
end Go.Proofs.Ytjipncpgmajeeaa
