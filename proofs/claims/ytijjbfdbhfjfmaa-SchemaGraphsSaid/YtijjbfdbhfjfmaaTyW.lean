/- The program's within: all that is right inside a type, as a row. Condition: short rows. -/
import Derived.Test.YtijjbfdbhfjfmaaTyO
import Derived.Test.YtijjbfdbhfjfmaaTyF
import Derived.Deep.DeepCutAuto
namespace Go.Proofs.Ytijjbfdbhfjfmaa
open Go.RowKit
theorem low_below {w w1 w2 : World} (h : Low w w1) (b : Below w.heap.size w1 w2) : Low w w2 := ⟨b.os.trans h.1, b.output.trans h.2.1, Nat.le_trans h.2.2.1 b.size, fun k hk => (b.block k hk).trans (h.2.2.2 k hk)⟩
theorem te_out {A : Nat → Prop} {w w' : World} {n : Nat} {ps : List Te} (h : ∀ p ∈ ps, TeOk A w n p) (l : Low w w') : ∀ p ∈ ps, TeOk (fun _ => True) w' n p := fun p hp => RT.imp (RT.low (h p hp) l) fun _ _ => trivial
set_option maxHeartbeats 3200000 in
set_option maxRecDepth 100000 in
theorem within_c {A : Nat → Prop} {n : Nat} (t : T) (w : World) (e v : Value) (h : RT A w (n + 1) t e v) (hs : t.l.length ≤ 100 ∧ t.ats.length ≤ 100) : Calls Try.prog 73 #[tv t e v] w fun r w' => ∃ p c, r = .returned (.slice p t.ins.length c) ∧ RL (fun _ => True) w' n t.ins (.slice p t.ins.length c) ∧ Low w w' := by
  obtain ⟨pe, ce, pv, cv, rfl, rfl, z1, z2, z3, z4⟩ := h.sl
  obtain ⟨-, hl, ha⟩ := rt_succ.1 h
  obtain ⟨s1, s2⟩ := hs
  obtain ⟨U, hU⟩ : ∃ U, U = w.alloc (box4 t pe ce pv cv) := ⟨_, rfl⟩
  have LU := Lib.hid (show Low w U by rw [hU]; exact low_new (Low.refl w) _)
  have FU := Lib.hid (fun W (h : Low U W) => (show W.cell? ⟨w.heap.size, 0, none⟩ = some (.int .i64 t.k) ∧ W.cell? ⟨w.heap.size, 1, none⟩ = some (.string t.n) ∧ W.cell? ⟨w.heap.size, 2, none⟩ = some (.slice pe t.l.length ce) ∧ W.cell? ⟨w.heap.size, 3, none⟩ = some (.slice pv t.ats.length cv) from low_box (show Low (w.alloc (box4 t pe ce pv cv)) W by rw [← hU]; exact h)))
  have HC := Lib.hid (cloneT_c t.l U _ (by omega) (RL.low hl LU.out))
  have HA := Lib.hid (RAs.low ha LU.out)
  have HU := Lib.hid hU
  obtain ⟨k, hk⟩ : ∃ k, k = t.ats.length := ⟨_, rfl⟩
  have HK := Lib.hid hk
  have HS1 := Lib.hid s1
  have HI := Lib.hid (show t.ins.length = t.l.length + k by simp [T.ins, hk])
  have s3 : k ≤ 100 := by omega
  clear h hl ha hU hk
  unfold tv
  go_enter Try.func73, Try.ntmps73
  go_upto_region 1 with fail
  rw [show w.alloc (.cells #[.int .i64 t.k, .string t.n, .slice pe t.l.length ce, .slice pv t.ats.length cv] 55) = U from HU.out.symm]
  obtain ⟨f0, f1, f2, f3⟩ := FU.out U (Low.refl U)
  go_wp2_with fail
  refine HC.out.mono ?_
  rintro e w1 ⟨v1, ps, rfl, hps, hok, hO, l1⟩
  have L1 := Lib.hid l1
  have HPS := Lib.hid hps
  have HOK := Lib.hid hok
  have HO := Lib.hid hO
  clear f0 f1 f2 f3
  obtain ⟨f0, f1, f2, f3⟩ := FU.out w1 l1
  rw [← HK.out] at f3
  clear hps hok hO l1 HC HU s1 s2
  go_wp2_with fail
  go_loopg [3, 5, 12] k (fun gk vl va vi wr => ∃ (i : Nat) (qs : List Te), vi = .int .i64 (i : Int) ∧ i ≤ k ∧ k - i ≤ gk ∧ Hid (Low U wr) ∧ Hid (OwnR 55 4 encT U.heap.size wr vl qs) ∧ Hid (qs.map (·.t) = t.l ++ (t.ats.take i).map aty) ∧ Hid (∀ p ∈ qs, TeOk A U n p))
  case atStart => exact ⟨0, ps, rfl, Nat.zero_le _, Nat.le_refl _, L1, HO, Lib.hid (by rw [HPS.out]; simp), HOK⟩
  case round =>
    clear f0 f1 f2 f3 L1 HPS HOK HO
    obtain ⟨i, qs, rfl, hi, hg, G, O, M, K⟩ := hrel
    rename Value => vl0
    by_cases hlt : i < k
    · have zl : (i : Int) < (k : Int) := by omega
      have hlt2 : i < t.ats.length := by have := HK.out; omega
      obtain ⟨b, o, qe, de, qv, dv, rfl, -, e0, e1, e2, e3, e4, e5, -, hx⟩ := RAs.at HA.out hlt2
      have e0 := G.out.keep e0
      have e1 := G.out.keep e1
      have e2 := G.out.keep e2
      have e3 := G.out.keep e3
      have e4 := G.out.keep e4
      have e5 := G.out.keep e5
      have HX := Lib.hid hx
      have hql : qs.length ≤ 1000000 := by
        have := congrArg List.length M.out
        have h2 := HS1.out
        simp only [List.length_map, List.length_append] at this
        have h3 := List.length_take_le i t.ats
        omega
      clear hx
      go_wp2_with (at_builtin; refine appR rfl _ _ _ rfl Try.underlying53 t_info rfl (by decide) (by decide) encT_len encT_one U.heap.size _ qs rfl (OwnR.alloc (OwnR.alloc O.out _) _) ⟨aty t.ats[i], qe, de, qv, dv⟩ ⟨wr.heap.size + 1, 0, none⟩ 1 rfl (fun j u hj => newcell_at _ _ _ _ _ rfl hj) hql (by have := G.out.size; simp; omega) ?_; intro v2 w3 h2 b2 k2 n2)
      have G2 := Lib.hid (low_below (low_new (low_new G.out _) _) b2)
      have O2 := Lib.hid h2
      have M2 := Lib.hid (show (qs ++ [(⟨aty t.ats[i], qe, de, qv, dv⟩ : Te)]).map (·.t) = t.l ++ (t.ats.take (i + 1)).map aty by
        rw [List.map_append, M.out, List.take_succ_eq_append_getElem hlt2, List.map_append]; simp)
      have K2 := Lib.hid (show ∀ p ∈ qs ++ [(⟨aty t.ats[i], qe, de, qv, dv⟩ : Te)], TeOk A U n p from fun p hp => by
        rcases List.mem_append.1 hp with hp | hp
        · exact K.out p hp
        · simp at hp; subst hp; exact HX.out)
      clear e0 e1 e2 e3 e4 e5 h2 b2 k2 n2
      go_roundg (k - (i + 1))
      case measure => omega
      case rel => exact ⟨i + 1, _, by go_num, by omega, by omega, G2, O2, M2, K2⟩
    · have zl : ¬ (i : Int) < (k : Int) := by omega
      have hM := M.out
      rw [List.take_of_length_le (by have := HK.out; omega)] at hM
      have hro := ownT_row (A' := fun _ => True) O.out (te_out K.out G.out) (fun _ _ => trivial) (fun _ _ => trivial)
      rw [show qs.map (·.t) = t.ins from hM] at hro
      obtain ⟨p, c, hv, -⟩ := RowR.sl hro
      subst hv
      have HRO := Lib.hid hro
      have LW := Lib.hid (LU.out.trans G.out)
      clear hM hro
      go_wp2_with fail
      go_ret
      exact ⟨p, c, rfl, HRO.out, LW.out⟩
end Go.Proofs.Ytijjbfdbhfjfmaa
