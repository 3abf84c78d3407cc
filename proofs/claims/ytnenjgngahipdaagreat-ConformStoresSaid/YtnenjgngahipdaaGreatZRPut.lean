/- The reference's Put: a row of names with one more. Condition: not too long. -/
import Derived.Test.YtnenjgngahipdaaGreatZCpt
import Derived.Test.YtnenjgngahipdaaGreatZCanE
import Derived.Deep.DeepCutAuto
set_option linter.unusedVariables false
set_option linter.unusedSimpArgs false
set_option linter.unnecessarySimpa false
namespace Go.Proofs.YtnenjgngahipdaaGreat
open Go.RowKit Go.Sort
theorem putS_step {u x : Us} {r : List Us} {put : Bool} : putS u (x :: r) put = (if (!put && decide (0 ≤ cmpUs x u)) = true then [u] else []) ++ ((if x = u then [] else [x]) ++ putS u r (put || decide (0 ≤ cmpUs x u))) := rfl
set_option maxHeartbeats 8000000 in
set_option maxRecDepth 100000 in
theorem rput_c (l : List Us) (u : Us) (w : World) (r : Value) (hl : l.length ≤ 70000) (h : UsAt w r l) : Calls Tryz.prog 118 #[r, .agg #[.string u.t, .string u.i]] w (ClnP (putS u l false) w) := by
  obtain ⟨ao, c, rfl, ⟨hlc, hc9⟩, hx⟩ := h
  have mixed : Tryz.prog.follows .mixedOrders = true := by kernel_rfl
  have HX := Lib.hid hx
  obtain ⟨res, hres⟩ : ∃ res, putS u l false = res := ⟨_, rfl⟩
  have HRES := Lib.hid hres
  obtain ⟨U0, hU0⟩ : ∃ W, W = w.alloc (.cells #[.string u.t, .string u.i] 23) := ⟨_, rfl⟩
  have HU0E := Lib.hid hU0
  have HU0 := Lib.hid (show U0.heap.size ≤ w.heap.size + 1 by rw [hU0]; simp)
  have LU0 := Lib.hid (show Low w U0 by rw [hU0]; exact Low.alloc (Low.refl w) _)
  have BU := Lib.hid (show BoxAtv U0 w.heap.size [.string u.t, .string u.i] from BoxAtv.new (C := #[.string u.t, .string u.i]) (t := 23) _ (by rw [hU0]; exact Low.refl _) rfl rfl)
  clear hx hU0
  rw [hres]
  clear hres
  go_enter Tryz.func118, Tryz.ntmps118
  go_upto_region 4 with fail
  rw [← HU0E.out]
  go_loopg [5, 6, 7] l.length (fun gk vs vp vi wr => ∃ (vo : Value) (out : List Us) (put : Bool) (i : Nat), vo = vs ∧ vp = .bool put ∧ vi = .int .i64 (i : Int) ∧ i ≤ l.length ∧ l.length - i ≤ gk ∧ out.length ≤ 2 * i ∧ Hid (Low U0 wr) ∧ Hid (OwnU (w.heap.size + 1) wr vo out) ∧ Hid (res = out ++ putS u (l.drop i) put))
  case atStart => exact ⟨_, [], false, 0, rfl, rfl, rfl, Nat.zero_le _, Nat.le_refl _, Nat.zero_le _, Lib.hid (Low.refl _), Lib.hid (OwnR.nil _ _ _ _ _), Lib.hid (by rw [List.drop_zero, HRES.out]; rfl)⟩
  case round =>
    obtain ⟨vo, out, put, i, rfl, rfl, rfl, hi, hg, hol, G, O, K⟩ := hrel
    obtain ⟨d0, d1⟩ := (BU.out.low G.out).at2
    by_cases hlt : i < l.length
    · have zl : (i : Int) < (l.length : Int) := by omega
      obtain ⟨pb, po, rfl, hcs⟩ := HX.out i hlt
      obtain ⟨e0, e1⟩ := cells2 ((LU0.out.trans G.out).cells hcs)
      have hdr : l.drop i = l[i] :: l.drop (i + 1) := List.drop_eq_getElem_cons hlt
      obtain ⟨x, hxx⟩ : ∃ x, l[i] = x := ⟨_, rfl⟩
      rw [hxx] at e0 e1 hdr hcs
      have HK := Lib.hid (show res = out ++ putS u (x :: l.drop (i + 1)) put by rw [K.out, hdr])
      have HST := Lib.hid (putS_step (u := u) (x := x) (r := l.drop (i + 1)) (put := put))
      have HCS := Lib.hid hcs
      clear hcs hxx hdr
      cases put with
      | true =>
        have HCASE := Lib.hid (show (!true && decide (0 ≤ cmpUs x u)) = false from rfl)
        go_wp2_with fail
        go_quiet (fail)
        have LP := Lib.hid (Low.drewN wr nq)
        obtain ⟨W1, hW1⟩ : ∃ Y, Y = wr.drewN nq := ⟨_, rfl⟩
        rw [← hW1] at LP ⊢
        replace e0 := LP.out.keep e0
        replace e1 := LP.out.keep e1
        replace d0 := LP.out.keep d0
        replace d1 := LP.out.keep d1
        have L1 := Lib.hid (G.out.trans LP.out)
        have O1 := Lib.hid (OwnR.low O.out LP.out)
        clear hW1
        by_cases hxu : x = u
        · have HEQ := Lib.hid hxu
          have hxt : x.t = u.t := by rw [hxu]
          have hxi : x.i = u.i := by rw [hxu]
          rw [hxt] at e0
          rw [hxi] at e1
          clear hxu hxt hxi
          go_wp2_with fail
          go_quiet (fail)
          have LQ := Lib.hid (Low.drewN W1 nq)
          obtain ⟨WQ, hWQ⟩ : ∃ Y, Y = W1.drewN nq := ⟨_, rfl⟩
          rw [← hWQ] at LQ ⊢
          replace e0 := LQ.out.keep e0
          replace e1 := LQ.out.keep e1
          replace d0 := LQ.out.keep d0
          replace d1 := LQ.out.keep d1
          have LU := Lib.hid (L1.out.trans LQ.out)
          have OU := Lib.hid (OwnR.low O1.out LQ.out)
          clear hWQ
          clear e0 e1 d0 d1
          go_wp2_with fail
          go_roundg (l.length - (i + 1))
          case measure => omega
          case rel => exact ⟨vo, out, true, i + 1, rfl, rfl, by go_num, by omega, by omega, by first | omega | (rw [List.length_append, List.length_singleton]; omega), LU, OU, Lib.hid (by rw [HK.out, HST.out]; simp [HEQ.out])⟩
        · have HEQ := Lib.hid hxu
          have hN : ¬ (x.t = u.t ∧ x.i = u.i) := fun h => hxu (Us.ext' h.1 h.2)
          clear hxu
          by_cases htt : x.t = u.t
          · have hi2 : ¬ x.i.toList = u.i.toList := fun h => hN ⟨htt, tl_injE h⟩
            have HTT := Lib.hid htt
            rw [htt] at e0
            clear hN htt
            go_wp2_with fail
            go_quiet (fail)
            have LQ := Lib.hid (Low.drewN W1 nq)
            obtain ⟨WQ, hWQ⟩ : ∃ Y, Y = W1.drewN nq := ⟨_, rfl⟩
            rw [← hWQ] at LQ ⊢
            replace e0 := LQ.out.keep e0
            replace e1 := LQ.out.keep e1
            replace d0 := LQ.out.keep d0
            replace d1 := LQ.out.keep d1
            have LU := Lib.hid (L1.out.trans LQ.out)
            have OU := Lib.hid (OwnR.low O1.out LQ.out)
            clear hWQ
            rw [← HTT.out] at e0
            have HLN := Lib.hid (show (out).length ≤ 1000000 by first | omega | (simp; omega))
            have HSZ := Lib.hid (show w.heap.size + 1 ≤ (WQ.alloc (.cells #[.string x.t, .string x.i] 23)).heap.size from by have := LU.out.size; have h3 := BU.out.lt; simp; omega)
            have HOX := Lib.hid (OwnR.alloc OU.out (.cells #[.string x.t, .string x.i] 23))
            go_wp2_with (first | (at_builtin; refine appR rfl _ _ _ rfl Tryz.underlying69 u_info rfl (by decide) (by decide) encU_len encU_one (w.heap.size + 1) vo out rfl HOX.out x ⟨WQ.heap.size, 0, none⟩ 1 rfl (fun j u hj => newcell_at _ _ _ _ _ rfl hj) HLN.out HSZ.out ?_; intro v2 w4 h2 b2 k2 n2))
            have H2 := Lib.hid h2
            have L4 := Lib.hid ((Low.alloc LU.out _).trans_belowU b2 HU0.out)
            clear h2 b2 k2 n2 e0 e1 d0 d1
            go_wp2_with fail
            go_roundg (l.length - (i + 1))
            case measure => omega
            case rel => exact ⟨v2, out ++ [x], true, i + 1, rfl, rfl, by go_num, by omega, by omega, by simp only [List.length_append, List.length_singleton]; omega, L4, H2, Lib.hid (by rw [HK.out, HST.out]; simp [HEQ.out])⟩
          · have ht2 : ¬ x.t.toList = u.t.toList := fun h => htt (tl_injE h)
            clear hN htt
            go_wp2_with fail
            go_quiet (fail)
            have LQ := Lib.hid (Low.drewN W1 nq)
            obtain ⟨WQ, hWQ⟩ : ∃ Y, Y = W1.drewN nq := ⟨_, rfl⟩
            rw [← hWQ] at LQ ⊢
            replace e0 := LQ.out.keep e0
            replace e1 := LQ.out.keep e1
            replace d0 := LQ.out.keep d0
            replace d1 := LQ.out.keep d1
            have LU := Lib.hid (L1.out.trans LQ.out)
            have OU := Lib.hid (OwnR.low O1.out LQ.out)
            clear hWQ
            have HLN := Lib.hid (show (out).length ≤ 1000000 by first | omega | (simp; omega))
            have HSZ := Lib.hid (show w.heap.size + 1 ≤ (WQ.alloc (.cells #[.string x.t, .string x.i] 23)).heap.size from by have := LU.out.size; have h3 := BU.out.lt; simp; omega)
            have HOX := Lib.hid (OwnR.alloc OU.out (.cells #[.string x.t, .string x.i] 23))
            go_wp2_with (first | (at_builtin; refine appR rfl _ _ _ rfl Tryz.underlying69 u_info rfl (by decide) (by decide) encU_len encU_one (w.heap.size + 1) vo out rfl HOX.out x ⟨WQ.heap.size, 0, none⟩ 1 rfl (fun j u hj => newcell_at _ _ _ _ _ rfl hj) HLN.out HSZ.out ?_; intro v2 w4 h2 b2 k2 n2))
            have H2 := Lib.hid h2
            have L4 := Lib.hid ((Low.alloc LU.out _).trans_belowU b2 HU0.out)
            clear h2 b2 k2 n2 e0 e1 d0 d1
            go_wp2_with fail
            go_roundg (l.length - (i + 1))
            case measure => omega
            case rel => exact ⟨v2, out ++ [x], true, i + 1, rfl, rfl, by go_num, by omega, by omega, by simp only [List.length_append, List.length_singleton]; omega, L4, H2, Lib.hid (by rw [HK.out, HST.out]; simp [HEQ.out])⟩
      | false =>
        obtain ⟨cr, hcr⟩ : ∃ cr, cmpUs x u = cr := ⟨_, rfl⟩
        have HCR := Lib.hid hcr
        have g0 : ∀ n os, (grow (wr.drewN n) os).cell? ⟨pb, po + i * 2, none⟩ = some (.string x.t) := fun n os => (Gr.grow (Gr.refl wr) n os).cell e0
        have g1 : ∀ n os, (grow (wr.drewN n) os).cell? ⟨pb, po + i * 2 + 1, none⟩ = some (.string x.i) := fun n os => (Gr.grow (Gr.refl wr) n os).cell e1
        have g2 : ∀ n os, (grow (wr.drewN n) os).cell? ⟨w.heap.size, 0, none⟩ = some (.string u.t) := fun n os => (Gr.grow (Gr.refl wr) n os).cell d0
        have g3 : ∀ n os, (grow (wr.drewN n) os).cell? ⟨w.heap.size, 1, none⟩ = some (.string u.i) := fun n os => (Gr.grow (Gr.refl wr) n os).cell d1
        have c3 : ∀ X, Calls Tryz.prog 83 #[.agg #[.string x.t, .string x.i], .agg #[.string u.t, .string u.i]] X fun e w' => e = .returned (.int .i64 cr) ∧ Gr X w' := fun X => by rw [← hcr]; exact rOrdE_c x u X
        have C3 := Lib.hid fun n os => Calls.grown_of (c3 (grow (wr.drewN n) os))
        have HE := Lib.hid (And.intro e0 (And.intro e1 (And.intro d0 d1)))
        clear e0 e1 d0 d1 c3 hcr
        by_cases hge : 0 ≤ cr
        · have zg : decide (cr < 0) = false := by simp; omega
          have HD := Lib.hid (show decide (0 ≤ cmpUs x u) = true by rw [HCR.out]; simpa using hge)
          have HCASE := Lib.hid (show (!false && decide (0 ≤ cmpUs x u)) = true by rw [HCR.out]; simpa using hge)
          go_wp2_with fail
          go_quiet_grown (first | (with_reducible exact C3.out _ _))
          clear g0 g1 g2 g3 C3
          have LP := Lib.hid (Gr.grow (Gr.refl wr) nq osq).low
          obtain ⟨W1, hW1⟩ : ∃ Y, Y = grow (wr.drewN nq) osq := ⟨_, rfl⟩
          rw [← hW1] at LP ⊢
          obtain ⟨e0, e1, d0, d1⟩ := HE.out
          replace e0 := LP.out.keep e0
          replace e1 := LP.out.keep e1
          replace d0 := LP.out.keep d0
          replace d1 := LP.out.keep d1
          have L1 := Lib.hid (G.out.trans LP.out)
          have O1 := Lib.hid (OwnR.low O.out LP.out)
          have E1 := Lib.hid (And.intro e0 e1)
          have HLN := Lib.hid (show out.length ≤ 1000000 by omega)
          have HSZ := Lib.hid (show w.heap.size + 1 ≤ (W1.alloc (.cells #[.string u.t, .string u.i] 23)).heap.size from by have := L1.out.size; have h3 := BU.out.lt; simp; omega)
          have HOX := Lib.hid (OwnR.alloc O1.out (.cells #[.string u.t, .string u.i] 23))
          clear hW1 e0 e1
          go_upto_region 9 with (first | (at_builtin; refine appR rfl _ _ _ rfl Tryz.underlying69 u_info rfl (by decide) (by decide) encU_len encU_one (w.heap.size + 1) vo out rfl HOX.out u ⟨W1.heap.size, 0, none⟩ 1 rfl (fun j u hj => newcell_at _ _ _ _ _ rfl hj) HLN.out HSZ.out ?_; intro v2 w4 h2 b2 k2 n2))
          have O4 := Lib.hid h2
          have L4 := Lib.hid ((Low.alloc L1.out _).trans_belowU b2 HU0.out)
          clear h2 b2 k2 n2 d0 d1
          obtain ⟨e0, e1⟩ := cells2 ((LU0.out.trans L4.out).cells HCS.out)
          obtain ⟨d0, d1⟩ := (BU.out.low L4.out).at2
          by_cases hxu : x = u
          · have HEQ := Lib.hid hxu
            have hxt : x.t = u.t := by rw [hxu]
            have hxi : x.i = u.i := by rw [hxu]
            rw [hxt] at e0
            rw [hxi] at e1
            clear hxu hxt hxi
            go_wp2_with fail
            go_quiet (fail)
            have LQ := Lib.hid (Low.drewN w4 nq)
            obtain ⟨WQ, hWQ⟩ : ∃ Y, Y = w4.drewN nq := ⟨_, rfl⟩
            rw [← hWQ] at LQ ⊢
            replace e0 := LQ.out.keep e0
            replace e1 := LQ.out.keep e1
            replace d0 := LQ.out.keep d0
            replace d1 := LQ.out.keep d1
            have LU := Lib.hid (L4.out.trans LQ.out)
            have OU := Lib.hid (OwnR.low O4.out LQ.out)
            clear hWQ
            clear e0 e1 d0 d1
            go_wp2_with fail
            go_roundg (l.length - (i + 1))
            case measure => omega
            case rel => exact ⟨v2, (out ++ [u]), true, i + 1, rfl, rfl, by go_num, by omega, by omega, by first | omega | (rw [List.length_append, List.length_singleton]; omega), LU, OU, Lib.hid (by rw [HK.out, HST.out, HD.out]; simp [HEQ.out])⟩
          · have HEQ := Lib.hid hxu
            have hN : ¬ (x.t = u.t ∧ x.i = u.i) := fun h => hxu (Us.ext' h.1 h.2)
            clear hxu
            by_cases htt : x.t = u.t
            · have hi2 : ¬ x.i.toList = u.i.toList := fun h => hN ⟨htt, tl_injE h⟩
              have HTT := Lib.hid htt
              rw [htt] at e0
              clear hN htt
              go_wp2_with fail
              go_quiet (fail)
              have LQ := Lib.hid (Low.drewN w4 nq)
              obtain ⟨WQ, hWQ⟩ : ∃ Y, Y = w4.drewN nq := ⟨_, rfl⟩
              rw [← hWQ] at LQ ⊢
              replace e0 := LQ.out.keep e0
              replace e1 := LQ.out.keep e1
              replace d0 := LQ.out.keep d0
              replace d1 := LQ.out.keep d1
              have LU := Lib.hid (L4.out.trans LQ.out)
              have OU := Lib.hid (OwnR.low O4.out LQ.out)
              clear hWQ
              rw [← HTT.out] at e0
              have HLN := Lib.hid (show ((out ++ [u])).length ≤ 1000000 by first | omega | (simp; omega))
              have HSZ := Lib.hid (show w.heap.size + 1 ≤ (WQ.alloc (.cells #[.string x.t, .string x.i] 23)).heap.size from by have := LU.out.size; have h3 := BU.out.lt; simp; omega)
              have HOX := Lib.hid (OwnR.alloc OU.out (.cells #[.string x.t, .string x.i] 23))
              go_wp2_with (first | (at_builtin; refine appR rfl _ _ _ rfl Tryz.underlying69 u_info rfl (by decide) (by decide) encU_len encU_one (w.heap.size + 1) v2 (out ++ [u]) rfl HOX.out x ⟨WQ.heap.size, 0, none⟩ 1 rfl (fun j u hj => newcell_at _ _ _ _ _ rfl hj) HLN.out HSZ.out ?_; intro v2 w4 h2 b2 k2 n2))
              have H2 := Lib.hid h2
              have L4 := Lib.hid ((Low.alloc LU.out _).trans_belowU b2 HU0.out)
              clear h2 b2 k2 n2 e0 e1 d0 d1
              go_wp2_with fail
              go_roundg (l.length - (i + 1))
              case measure => omega
              case rel => exact ⟨v2, (out ++ [u]) ++ [x], true, i + 1, rfl, rfl, by go_num, by omega, by omega, by simp only [List.length_append, List.length_singleton]; omega, L4, H2, Lib.hid (by rw [HK.out, HST.out, HD.out]; simp [HEQ.out])⟩
            · have ht2 : ¬ x.t.toList = u.t.toList := fun h => htt (tl_injE h)
              clear hN htt
              go_wp2_with fail
              go_quiet (fail)
              have LQ := Lib.hid (Low.drewN w4 nq)
              obtain ⟨WQ, hWQ⟩ : ∃ Y, Y = w4.drewN nq := ⟨_, rfl⟩
              rw [← hWQ] at LQ ⊢
              replace e0 := LQ.out.keep e0
              replace e1 := LQ.out.keep e1
              replace d0 := LQ.out.keep d0
              replace d1 := LQ.out.keep d1
              have LU := Lib.hid (L4.out.trans LQ.out)
              have OU := Lib.hid (OwnR.low O4.out LQ.out)
              clear hWQ
              have HLN := Lib.hid (show ((out ++ [u])).length ≤ 1000000 by first | omega | (simp; omega))
              have HSZ := Lib.hid (show w.heap.size + 1 ≤ (WQ.alloc (.cells #[.string x.t, .string x.i] 23)).heap.size from by have := LU.out.size; have h3 := BU.out.lt; simp; omega)
              have HOX := Lib.hid (OwnR.alloc OU.out (.cells #[.string x.t, .string x.i] 23))
              go_wp2_with (first | (at_builtin; refine appR rfl _ _ _ rfl Tryz.underlying69 u_info rfl (by decide) (by decide) encU_len encU_one (w.heap.size + 1) v2 (out ++ [u]) rfl HOX.out x ⟨WQ.heap.size, 0, none⟩ 1 rfl (fun j u hj => newcell_at _ _ _ _ _ rfl hj) HLN.out HSZ.out ?_; intro v2 w4 h2 b2 k2 n2))
              have H2 := Lib.hid h2
              have L4 := Lib.hid ((Low.alloc LU.out _).trans_belowU b2 HU0.out)
              clear h2 b2 k2 n2 e0 e1 d0 d1
              go_wp2_with fail
              go_roundg (l.length - (i + 1))
              case measure => omega
              case rel => exact ⟨v2, (out ++ [u]) ++ [x], true, i + 1, rfl, rfl, by go_num, by omega, by omega, by simp only [List.length_append, List.length_singleton]; omega, L4, H2, Lib.hid (by rw [HK.out, HST.out, HD.out]; simp [HEQ.out])⟩
        · have zg : decide (cr < 0) = true := by simp; omega
          have HD := Lib.hid (show decide (0 ≤ cmpUs x u) = false by rw [HCR.out]; simpa using hge)
          have HCASE := Lib.hid (show (!false && decide (0 ≤ cmpUs x u)) = false by rw [HCR.out]; simpa using hge)
          go_wp2_with fail
          go_quiet_grown (first | (with_reducible exact C3.out _ _))
          clear g0 g1 g2 g3 C3
          have LP := Lib.hid (Gr.grow (Gr.refl wr) nq osq).low
          obtain ⟨W1, hW1⟩ : ∃ Y, Y = grow (wr.drewN nq) osq := ⟨_, rfl⟩
          rw [← hW1] at LP ⊢
          obtain ⟨e0, e1, d0, d1⟩ := HE.out
          replace e0 := LP.out.keep e0
          replace e1 := LP.out.keep e1
          replace d0 := LP.out.keep d0
          replace d1 := LP.out.keep d1
          have L1 := Lib.hid (G.out.trans LP.out)
          have O1 := Lib.hid (OwnR.low O.out LP.out)
          clear hW1
          by_cases hxu : x = u
          · have HEQ := Lib.hid hxu
            have hxt : x.t = u.t := by rw [hxu]
            have hxi : x.i = u.i := by rw [hxu]
            rw [hxt] at e0
            rw [hxi] at e1
            clear hxu hxt hxi
            go_wp2_with fail
            go_quiet (fail)
            have LQ := Lib.hid (Low.drewN W1 nq)
            obtain ⟨WQ, hWQ⟩ : ∃ Y, Y = W1.drewN nq := ⟨_, rfl⟩
            rw [← hWQ] at LQ ⊢
            replace e0 := LQ.out.keep e0
            replace e1 := LQ.out.keep e1
            replace d0 := LQ.out.keep d0
            replace d1 := LQ.out.keep d1
            have LU := Lib.hid (L1.out.trans LQ.out)
            have OU := Lib.hid (OwnR.low O1.out LQ.out)
            clear hWQ
            clear e0 e1 d0 d1
            go_wp2_with fail
            go_roundg (l.length - (i + 1))
            case measure => omega
            case rel => exact ⟨vo, out, false, i + 1, rfl, rfl, by go_num, by omega, by omega, by first | omega | (rw [List.length_append, List.length_singleton]; omega), LU, OU, Lib.hid (by rw [HK.out, HST.out, HD.out]; simp [HEQ.out])⟩
          · have HEQ := Lib.hid hxu
            have hN : ¬ (x.t = u.t ∧ x.i = u.i) := fun h => hxu (Us.ext' h.1 h.2)
            clear hxu
            by_cases htt : x.t = u.t
            · have hi2 : ¬ x.i.toList = u.i.toList := fun h => hN ⟨htt, tl_injE h⟩
              have HTT := Lib.hid htt
              rw [htt] at e0
              clear hN htt
              go_wp2_with fail
              go_quiet (fail)
              have LQ := Lib.hid (Low.drewN W1 nq)
              obtain ⟨WQ, hWQ⟩ : ∃ Y, Y = W1.drewN nq := ⟨_, rfl⟩
              rw [← hWQ] at LQ ⊢
              replace e0 := LQ.out.keep e0
              replace e1 := LQ.out.keep e1
              replace d0 := LQ.out.keep d0
              replace d1 := LQ.out.keep d1
              have LU := Lib.hid (L1.out.trans LQ.out)
              have OU := Lib.hid (OwnR.low O1.out LQ.out)
              clear hWQ
              rw [← HTT.out] at e0
              have HLN := Lib.hid (show (out).length ≤ 1000000 by first | omega | (simp; omega))
              have HSZ := Lib.hid (show w.heap.size + 1 ≤ (WQ.alloc (.cells #[.string x.t, .string x.i] 23)).heap.size from by have := LU.out.size; have h3 := BU.out.lt; simp; omega)
              have HOX := Lib.hid (OwnR.alloc OU.out (.cells #[.string x.t, .string x.i] 23))
              go_wp2_with (first | (at_builtin; refine appR rfl _ _ _ rfl Tryz.underlying69 u_info rfl (by decide) (by decide) encU_len encU_one (w.heap.size + 1) vo out rfl HOX.out x ⟨WQ.heap.size, 0, none⟩ 1 rfl (fun j u hj => newcell_at _ _ _ _ _ rfl hj) HLN.out HSZ.out ?_; intro v2 w4 h2 b2 k2 n2))
              have H2 := Lib.hid h2
              have L4 := Lib.hid ((Low.alloc LU.out _).trans_belowU b2 HU0.out)
              clear h2 b2 k2 n2 e0 e1 d0 d1
              go_wp2_with fail
              go_roundg (l.length - (i + 1))
              case measure => omega
              case rel => exact ⟨v2, out ++ [x], false, i + 1, rfl, rfl, by go_num, by omega, by omega, by simp only [List.length_append, List.length_singleton]; omega, L4, H2, Lib.hid (by rw [HK.out, HST.out, HD.out]; simp [HEQ.out])⟩
            · have ht2 : ¬ x.t.toList = u.t.toList := fun h => htt (tl_injE h)
              clear hN htt
              go_wp2_with fail
              go_quiet (fail)
              have LQ := Lib.hid (Low.drewN W1 nq)
              obtain ⟨WQ, hWQ⟩ : ∃ Y, Y = W1.drewN nq := ⟨_, rfl⟩
              rw [← hWQ] at LQ ⊢
              replace e0 := LQ.out.keep e0
              replace e1 := LQ.out.keep e1
              replace d0 := LQ.out.keep d0
              replace d1 := LQ.out.keep d1
              have LU := Lib.hid (L1.out.trans LQ.out)
              have OU := Lib.hid (OwnR.low O1.out LQ.out)
              clear hWQ
              have HLN := Lib.hid (show (out).length ≤ 1000000 by first | omega | (simp; omega))
              have HSZ := Lib.hid (show w.heap.size + 1 ≤ (WQ.alloc (.cells #[.string x.t, .string x.i] 23)).heap.size from by have := LU.out.size; have h3 := BU.out.lt; simp; omega)
              have HOX := Lib.hid (OwnR.alloc OU.out (.cells #[.string x.t, .string x.i] 23))
              go_wp2_with (first | (at_builtin; refine appR rfl _ _ _ rfl Tryz.underlying69 u_info rfl (by decide) (by decide) encU_len encU_one (w.heap.size + 1) vo out rfl HOX.out x ⟨WQ.heap.size, 0, none⟩ 1 rfl (fun j u hj => newcell_at _ _ _ _ _ rfl hj) HLN.out HSZ.out ?_; intro v2 w4 h2 b2 k2 n2))
              have H2 := Lib.hid h2
              have L4 := Lib.hid ((Low.alloc LU.out _).trans_belowU b2 HU0.out)
              clear h2 b2 k2 n2 e0 e1 d0 d1
              go_wp2_with fail
              go_roundg (l.length - (i + 1))
              case measure => omega
              case rel => exact ⟨v2, out ++ [x], false, i + 1, rfl, rfl, by go_num, by omega, by omega, by simp only [List.length_append, List.length_singleton]; omega, L4, H2, Lib.hid (by rw [HK.out, HST.out, HD.out]; simp [HEQ.out])⟩
    · have zl : ¬ (i : Int) < (l.length : Int) := by omega
      have hd : l.drop i = [] := List.drop_of_length_le (by omega)
      have HK := Lib.hid (show res = out ++ putS u [] put by rw [K.out, hd])
      clear hd
      cases put with
      | true =>
        go_wp2_with fail
        go_ret
        refine ⟨vo, rfl, ?_, LU0.out.trans G.out⟩
        have : res = out := by rw [HK.out]; simp [putS]
        rw [this]
        exact OwnR.base O.out (Nat.le_succ _)
      | false =>
        have HLN := Lib.hid (show out.length ≤ 1000000 by omega)
        have HSZ := Lib.hid (show w.heap.size + 1 ≤ (wr.alloc (.cells #[.string u.t, .string u.i] 23)).heap.size from by have := G.out.size; have h3 := BU.out.lt; simp; omega)
        have HOX := Lib.hid (OwnR.alloc O.out (.cells #[.string u.t, .string u.i] 23))
        go_wp2_with (first | (at_builtin; refine appR rfl _ _ _ rfl Tryz.underlying69 u_info rfl (by decide) (by decide) encU_len encU_one (w.heap.size + 1) vo out rfl HOX.out u ⟨wr.heap.size, 0, none⟩ 1 rfl (fun j u hj => newcell_at _ _ _ _ _ rfl hj) HLN.out HSZ.out ?_; intro v2 w4 h2 b2 k2 n2))
        have H2 := Lib.hid h2
        have L4 := Lib.hid ((Low.alloc G.out _).trans_belowU b2 HU0.out)
        clear h2 b2 k2 n2
        go_wp2_with fail
        go_ret
        refine ⟨v2, rfl, ?_, LU0.out.trans L4.out⟩
        have : res = out ++ [u] := by rw [HK.out]; simp [putS]
        rw [this]
        exact OwnR.base H2.out (Nat.le_succ _)
end Go.Proofs.YtnenjgngahipdaaGreat
