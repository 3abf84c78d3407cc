/- The reference's Put: a row of names with one more. Condition: not too long. The reference's entity as it must be. Condition: its rows are short. -/
import Derived.Test.YtmkillbanmbafaaGreatSrtX
import Derived.Test.YtmkillbanmbafaaGreatCanQ
import Derived.Deep.DeepCutAuto
import Derived.Test.YtmkillbanmbafaaGreatRCX
namespace Go.Proofs.YtmkillbanmbafaaGreat
open Go.RowKit Go.Sort
theorem putS_step {u x : Us} {r : List Us} {put : Bool} : putS u (x :: r) put = (if (!put && decide (0 ≤ cmpUs x u)) = true then [u] else []) ++ ((if x = u then [] else [x]) ++ putS u r (put || decide (0 ≤ cmpUs x u))) := rfl
set_option maxHeartbeats 8000000 in
set_option maxRecDepth 100000 in
theorem rput_c (l : List Us) (u : Us) (w : World) (r : Value) (hl : l.length ≤ 70000) (h : UsAt w r l) : Calls Tryz.prog 31 #[r, .agg #[.string u.t, .string u.i]] w (ClnP (putS u l false) w) := by
  obtain ⟨ao, c, rfl, ⟨hlc, hc9⟩, hx⟩ := h
  have mixed : Tryz.prog.follows .mixedOrders = true := by kernel_rfl
  have HX := Lib.hid hx
  obtain ⟨res, hres⟩ : ∃ res, putS u l false = res := ⟨_, rfl⟩
  have HRES := Lib.hid hres
  obtain ⟨U0, hU0⟩ : ∃ W, W = w.alloc (.cells #[.string u.t, .string u.i] 24) := ⟨_, rfl⟩
  have HU0E := Lib.hid hU0
  have HU0 := Lib.hid (show U0.heap.size ≤ w.heap.size + 1 by rw [hU0]; simp)
  have LU0 := Lib.hid (show Low w U0 by rw [hU0]; exact Low.alloc (Low.refl w) _)
  have BU := Lib.hid (show BoxAt U0 w.heap.size [.string u.t, .string u.i] from BoxAt.new (C := #[.string u.t, .string u.i]) (t := 24) _ (by rw [hU0]; exact Low.refl _) rfl rfl)
  clear hx hU0
  rw [hres]
  clear hres
  go_enter Tryz.func31, Tryz.ntmps31
  go_upto_region 4 with fail
  rw [← HU0E.out]
  go_loopg [5, 6, 7] l.length (fun gk vs vp vi wr => ∃ (vo : Value) (out : List Us) (put : Bool) (i : Nat), vo = vs ∧ vp = .bool put ∧ vi = .int .i64 (i : Int) ∧ i ≤ l.length ∧ l.length - i ≤ gk ∧ out.length ≤ 2 * i ∧ Hid (Low U0 wr) ∧ Hid (OwnU (w.heap.size + 1) wr vo out) ∧ Hid (res = out ++ putS u (l.drop i) put))
  case atStart => exact ⟨_, [], false, 0, rfl, rfl, rfl, Nat.zero_le _, Nat.le_refl _, Nat.zero_le _, Lib.hid (Low.refl _), Lib.hid (OwnR.nil _ _ _ _ _), Lib.hid (by rw [List.drop_zero, HRES.out]; rfl)⟩
  case round =>
    obtain ⟨vo, out, put, i, rfl, rfl, rfl, hi, hg, hol, G, O, K⟩ := hrel
    obtain ⟨d0, d1⟩ := (BU.out.low G.out).at2
    by_cases hlt : i < l.length
    · have zl : (i : Int) < (l.length : Int) := by omega
      obtain ⟨pb, po, rfl, hcs⟩ := HX.out i hlt
      obtain ⟨e0, e1⟩ := cells2 ((LU0.out.trans G.out).cells hcs)
      have hdr : l.drop i = l[i] :: l.drop (i + 1) := List.drop_eq_getElem_cons hlt
      obtain ⟨x, hxx⟩ : ∃ x, l[i] = x := ⟨_, rfl⟩
      rw [hxx] at e0 e1 hdr hcs
      have HK := Lib.hid (show res = out ++ putS u (x :: l.drop (i + 1)) put by rw [K.out, hdr])
      have HST := Lib.hid (putS_step (u := u) (x := x) (r := l.drop (i + 1)) (put := put))
      have HCS := Lib.hid hcs
      clear hcs hxx hdr
      cases put with
      | true =>
        have HCASE := Lib.hid (show (!true && decide (0 ≤ cmpUs x u)) = false from rfl)
        go_wp2_with fail
        go_quiet (fail)
        have LP := Lib.hid (Low.drewN wr nq)
        obtain ⟨W1, hW1⟩ : ∃ Y, Y = wr.drewN nq := ⟨_, rfl⟩
        rw [← hW1] at LP ⊢
        replace e0 := LP.out.keep e0
        replace e1 := LP.out.keep e1
        replace d0 := LP.out.keep d0
        replace d1 := LP.out.keep d1
        have L1 := Lib.hid (G.out.trans LP.out)
        have O1 := Lib.hid (OwnR.low O.out LP.out)
        clear hW1
        by_cases hxu : x = u
        · have HEQ := Lib.hid hxu
          have hxt : x.t = u.t := by rw [hxu]
          have hxi : x.i = u.i := by rw [hxu]
          rw [hxt] at e0
          rw [hxi] at e1
          clear hxu hxt hxi
          go_wp2_with fail
          go_quiet (fail)
          have LQ := Lib.hid (Low.drewN W1 nq)
          obtain ⟨WQ, hWQ⟩ : ∃ Y, Y = W1.drewN nq := ⟨_, rfl⟩
          rw [← hWQ] at LQ ⊢
          replace e0 := LQ.out.keep e0
          replace e1 := LQ.out.keep e1
          replace d0 := LQ.out.keep d0
          replace d1 := LQ.out.keep d1
          have LU := Lib.hid (L1.out.trans LQ.out)
          have OU := Lib.hid (OwnR.low O1.out LQ.out)
          clear hWQ
          clear e0 e1 d0 d1
          go_wp2_with fail
          go_roundg (l.length - (i + 1))
          case measure => omega
          case rel => exact ⟨vo, out, true, i + 1, rfl, rfl, by go_num, by omega, by omega, by first | omega | (rw [List.length_append, List.length_singleton]; omega), LU, OU, Lib.hid (by rw [HK.out, HST.out]; simp [HEQ.out])⟩
        · have HEQ := Lib.hid hxu
          have hN : ¬ (x.t = u.t ∧ x.i = u.i) := fun h => hxu (Us.ext' h.1 h.2)
          clear hxu
          by_cases htt : x.t = u.t
          · have hi2 : ¬ x.i.toList = u.i.toList := fun h => hN ⟨htt, tl_injE h⟩
            have HTT := Lib.hid htt
            rw [htt] at e0
            clear hN htt
            go_wp2_with fail
            go_quiet (fail)
            have LQ := Lib.hid (Low.drewN W1 nq)
            obtain ⟨WQ, hWQ⟩ : ∃ Y, Y = W1.drewN nq := ⟨_, rfl⟩
            rw [← hWQ] at LQ ⊢
            replace e0 := LQ.out.keep e0
            replace e1 := LQ.out.keep e1
            replace d0 := LQ.out.keep d0
            replace d1 := LQ.out.keep d1
            have LU := Lib.hid (L1.out.trans LQ.out)
            have OU := Lib.hid (OwnR.low O1.out LQ.out)
            clear hWQ
            rw [← HTT.out] at e0
            have HLN := Lib.hid (show (out).length ≤ 1000000 by first | omega | (simp; omega))
            have HSZ := Lib.hid (show w.heap.size + 1 ≤ (WQ.alloc (.cells #[.string x.t, .string x.i] 24)).heap.size from by have := LU.out.size; have h3 := BU.out.lt; simp; omega)
            have HOX := Lib.hid (OwnR.alloc OU.out (.cells #[.string x.t, .string x.i] 24))
            go_wp2_with (first | (at_builtin; refine appR rfl _ _ _ rfl Tryz.underlying33 u_info rfl (by decide) (by decide) encU_len encU_one (w.heap.size + 1) vo out rfl HOX.out x ⟨WQ.heap.size, 0, none⟩ 1 rfl (fun j u hj => newcell_at _ _ _ _ _ rfl hj) HLN.out HSZ.out ?_; intro v2 w4 h2 b2 k2 n2))
            have H2 := Lib.hid h2
            have L4 := Lib.hid ((Low.alloc LU.out _).trans_belowU b2 HU0.out)
            clear h2 b2 k2 n2 e0 e1 d0 d1
            go_wp2_with fail
            go_roundg (l.length - (i + 1))
            case measure => omega
            case rel => exact ⟨v2, out ++ [x], true, i + 1, rfl, rfl, by go_num, by omega, by omega, by simp only [List.length_append, List.length_singleton]; omega, L4, H2, Lib.hid (by rw [HK.out, HST.out]; simp [HEQ.out])⟩
          · have ht2 : ¬ x.t.toList = u.t.toList := fun h => htt (tl_injE h)
            clear hN htt
            go_wp2_with fail
            go_quiet (fail)
            have LQ := Lib.hid (Low.drewN W1 nq)
            obtain ⟨WQ, hWQ⟩ : ∃ Y, Y = W1.drewN nq := ⟨_, rfl⟩
            rw [← hWQ] at LQ ⊢
            replace e0 := LQ.out.keep e0
            replace e1 := LQ.out.keep e1
            replace d0 := LQ.out.keep d0
            replace d1 := LQ.out.keep d1
            have LU := Lib.hid (L1.out.trans LQ.out)
            have OU := Lib.hid (OwnR.low O1.out LQ.out)
            clear hWQ
            have HLN := Lib.hid (show (out).length ≤ 1000000 by first | omega | (simp; omega))
            have HSZ := Lib.hid (show w.heap.size + 1 ≤ (WQ.alloc (.cells #[.string x.t, .string x.i] 24)).heap.size from by have := LU.out.size; have h3 := BU.out.lt; simp; omega)
            have HOX := Lib.hid (OwnR.alloc OU.out (.cells #[.string x.t, .string x.i] 24))
            go_wp2_with (first | (at_builtin; refine appR rfl _ _ _ rfl Tryz.underlying33 u_info rfl (by decide) (by decide) encU_len encU_one (w.heap.size + 1) vo out rfl HOX.out x ⟨WQ.heap.size, 0, none⟩ 1 rfl (fun j u hj => newcell_at _ _ _ _ _ rfl hj) HLN.out HSZ.out ?_; intro v2 w4 h2 b2 k2 n2))
            have H2 := Lib.hid h2
            have L4 := Lib.hid ((Low.alloc LU.out _).trans_belowU b2 HU0.out)
            clear h2 b2 k2 n2 e0 e1 d0 d1
            go_wp2_with fail
            go_roundg (l.length - (i + 1))
            case measure => omega
            case rel => exact ⟨v2, out ++ [x], true, i + 1, rfl, rfl, by go_num, by omega, by omega, by simp only [List.length_append, List.length_singleton]; omega, L4, H2, Lib.hid (by rw [HK.out, HST.out]; simp [HEQ.out])⟩
      | false =>
        obtain ⟨cr, hcr⟩ : ∃ cr, cmpUs x u = cr := ⟨_, rfl⟩
        have HCR := Lib.hid hcr
        have g0 : ∀ n os, (grow (wr.drewN n) os).cell? ⟨pb, po + i * 2, none⟩ = some (.string x.t) := fun n os => (Gr.grow (Gr.refl wr) n os).cell e0
        have g1 : ∀ n os, (grow (wr.drewN n) os).cell? ⟨pb, po + i * 2 + 1, none⟩ = some (.string x.i) := fun n os => (Gr.grow (Gr.refl wr) n os).cell e1
        have g2 : ∀ n os, (grow (wr.drewN n) os).cell? ⟨w.heap.size, 0, none⟩ = some (.string u.t) := fun n os => (Gr.grow (Gr.refl wr) n os).cell d0
        have g3 : ∀ n os, (grow (wr.drewN n) os).cell? ⟨w.heap.size, 1, none⟩ = some (.string u.i) := fun n os => (Gr.grow (Gr.refl wr) n os).cell d1
        have c3 : ∀ X, Calls Tryz.prog 24 #[.agg #[.string x.t, .string x.i], .agg #[.string u.t, .string u.i]] X fun e w' => e = .returned (.int .i64 cr) ∧ Gr X w' := fun X => by rw [← hcr]; exact rOrdE_c x u X
        have C3 := Lib.hid fun n os => Calls.grown_of (c3 (grow (wr.drewN n) os))
        have HE := Lib.hid (And.intro e0 (And.intro e1 (And.intro d0 d1)))
        clear e0 e1 d0 d1 c3 hcr
        by_cases hge : 0 ≤ cr
        · have zg : decide (cr < 0) = false := by simp; omega
          have HD := Lib.hid (show decide (0 ≤ cmpUs x u) = true by rw [HCR.out]; simpa using hge)
          have HCASE := Lib.hid (show (!false && decide (0 ≤ cmpUs x u)) = true by rw [HCR.out]; simpa using hge)
          go_wp2_with fail
          go_quiet_grown (first | (with_reducible exact C3.out _ _))
          clear g0 g1 g2 g3 C3
          have LP := Lib.hid (Gr.grow (Gr.refl wr) nq osq).low
          obtain ⟨W1, hW1⟩ : ∃ Y, Y = grow (wr.drewN nq) osq := ⟨_, rfl⟩
          rw [← hW1] at LP ⊢
          obtain ⟨e0, e1, d0, d1⟩ := HE.out
          replace e0 := LP.out.keep e0
          replace e1 := LP.out.keep e1
          replace d0 := LP.out.keep d0
          replace d1 := LP.out.keep d1
          have L1 := Lib.hid (G.out.trans LP.out)
          have O1 := Lib.hid (OwnR.low O.out LP.out)
          have E1 := Lib.hid (And.intro e0 e1)
          have HLN := Lib.hid (show out.length ≤ 1000000 by omega)
          have HSZ := Lib.hid (show w.heap.size + 1 ≤ (W1.alloc (.cells #[.string u.t, .string u.i] 24)).heap.size from by have := L1.out.size; have h3 := BU.out.lt; simp; omega)
          have HOX := Lib.hid (OwnR.alloc O1.out (.cells #[.string u.t, .string u.i] 24))
          clear hW1 e0 e1
          go_upto_region 9 with (first | (at_builtin; refine appR rfl _ _ _ rfl Tryz.underlying33 u_info rfl (by decide) (by decide) encU_len encU_one (w.heap.size + 1) vo out rfl HOX.out u ⟨W1.heap.size, 0, none⟩ 1 rfl (fun j u hj => newcell_at _ _ _ _ _ rfl hj) HLN.out HSZ.out ?_; intro v2 w4 h2 b2 k2 n2))
          have O4 := Lib.hid h2
          have L4 := Lib.hid ((Low.alloc L1.out _).trans_belowU b2 HU0.out)
          clear h2 b2 k2 n2 d0 d1
          obtain ⟨e0, e1⟩ := cells2 ((LU0.out.trans L4.out).cells HCS.out)
          obtain ⟨d0, d1⟩ := (BU.out.low L4.out).at2
          by_cases hxu : x = u
          · have HEQ := Lib.hid hxu
            have hxt : x.t = u.t := by rw [hxu]
            have hxi : x.i = u.i := by rw [hxu]
            rw [hxt] at e0
            rw [hxi] at e1
            clear hxu hxt hxi
            go_wp2_with fail
            go_quiet (fail)
            have LQ := Lib.hid (Low.drewN w4 nq)
            obtain ⟨WQ, hWQ⟩ : ∃ Y, Y = w4.drewN nq := ⟨_, rfl⟩
            rw [← hWQ] at LQ ⊢
            replace e0 := LQ.out.keep e0
            replace e1 := LQ.out.keep e1
            replace d0 := LQ.out.keep d0
            replace d1 := LQ.out.keep d1
            have LU := Lib.hid (L4.out.trans LQ.out)
            have OU := Lib.hid (OwnR.low O4.out LQ.out)
            clear hWQ
            clear e0 e1 d0 d1
            go_wp2_with fail
            go_roundg (l.length - (i + 1))
            case measure => omega
            case rel => exact ⟨v2, (out ++ [u]), true, i + 1, rfl, rfl, by go_num, by omega, by omega, by first | omega | (rw [List.length_append, List.length_singleton]; omega), LU, OU, Lib.hid (by rw [HK.out, HST.out, HD.out]; simp [HEQ.out])⟩
          · have HEQ := Lib.hid hxu
            have hN : ¬ (x.t = u.t ∧ x.i = u.i) := fun h => hxu (Us.ext' h.1 h.2)
            clear hxu
            by_cases htt : x.t = u.t
            · have hi2 : ¬ x.i.toList = u.i.toList := fun h => hN ⟨htt, tl_injE h⟩
              have HTT := Lib.hid htt
              rw [htt] at e0
              clear hN htt
              go_wp2_with fail
              go_quiet (fail)
              have LQ := Lib.hid (Low.drewN w4 nq)
              obtain ⟨WQ, hWQ⟩ : ∃ Y, Y = w4.drewN nq := ⟨_, rfl⟩
              rw [← hWQ] at LQ ⊢
              replace e0 := LQ.out.keep e0
              replace e1 := LQ.out.keep e1
              replace d0 := LQ.out.keep d0
              replace d1 := LQ.out.keep d1
              have LU := Lib.hid (L4.out.trans LQ.out)
              have OU := Lib.hid (OwnR.low O4.out LQ.out)
              clear hWQ
              rw [← HTT.out] at e0
              have HLN := Lib.hid (show ((out ++ [u])).length ≤ 1000000 by first | omega | (simp; omega))
              have HSZ := Lib.hid (show w.heap.size + 1 ≤ (WQ.alloc (.cells #[.string x.t, .string x.i] 24)).heap.size from by have := LU.out.size; have h3 := BU.out.lt; simp; omega)
              have HOX := Lib.hid (OwnR.alloc OU.out (.cells #[.string x.t, .string x.i] 24))
              go_wp2_with (first | (at_builtin; refine appR rfl _ _ _ rfl Tryz.underlying33 u_info rfl (by decide) (by decide) encU_len encU_one (w.heap.size + 1) v2 (out ++ [u]) rfl HOX.out x ⟨WQ.heap.size, 0, none⟩ 1 rfl (fun j u hj => newcell_at _ _ _ _ _ rfl hj) HLN.out HSZ.out ?_; intro v2 w4 h2 b2 k2 n2))
              have H2 := Lib.hid h2
              have L4 := Lib.hid ((Low.alloc LU.out _).trans_belowU b2 HU0.out)
              clear h2 b2 k2 n2 e0 e1 d0 d1
              go_wp2_with fail
              go_roundg (l.length - (i + 1))
              case measure => omega
              case rel => exact ⟨v2, (out ++ [u]) ++ [x], true, i + 1, rfl, rfl, by go_num, by omega, by omega, by simp only [List.length_append, List.length_singleton]; omega, L4, H2, Lib.hid (by rw [HK.out, HST.out, HD.out]; simp [HEQ.out])⟩
            · have ht2 : ¬ x.t.toList = u.t.toList := fun h => htt (tl_injE h)
              clear hN htt
              go_wp2_with fail
              go_quiet (fail)
              have LQ := Lib.hid (Low.drewN w4 nq)
              obtain ⟨WQ, hWQ⟩ : ∃ Y, Y = w4.drewN nq := ⟨_, rfl⟩
              rw [← hWQ] at LQ ⊢
              replace e0 := LQ.out.keep e0
              replace e1 := LQ.out.keep e1
              replace d0 := LQ.out.keep d0
              replace d1 := LQ.out.keep d1
              have LU := Lib.hid (L4.out.trans LQ.out)
              have OU := Lib.hid (OwnR.low O4.out LQ.out)
              clear hWQ
              have HLN := Lib.hid (show ((out ++ [u])).length ≤ 1000000 by first | omega | (simp; omega))
              have HSZ := Lib.hid (show w.heap.size + 1 ≤ (WQ.alloc (.cells #[.string x.t, .string x.i] 24)).heap.size from by have := LU.out.size; have h3 := BU.out.lt; simp; omega)
              have HOX := Lib.hid (OwnR.alloc OU.out (.cells #[.string x.t, .string x.i] 24))
              go_wp2_with (first | (at_builtin; refine appR rfl _ _ _ rfl Tryz.underlying33 u_info rfl (by decide) (by decide) encU_len encU_one (w.heap.size + 1) v2 (out ++ [u]) rfl HOX.out x ⟨WQ.heap.size, 0, none⟩ 1 rfl (fun j u hj => newcell_at _ _ _ _ _ rfl hj) HLN.out HSZ.out ?_; intro v2 w4 h2 b2 k2 n2))
              have H2 := Lib.hid h2
              have L4 := Lib.hid ((Low.alloc LU.out _).trans_belowU b2 HU0.out)
              clear h2 b2 k2 n2 e0 e1 d0 d1
              go_wp2_with fail
              go_roundg (l.length - (i + 1))
              case measure => omega
              case rel => exact ⟨v2, (out ++ [u]) ++ [x], true, i + 1, rfl, rfl, by go_num, by omega, by omega, by simp only [List.length_append, List.length_singleton]; omega, L4, H2, Lib.hid (by rw [HK.out, HST.out, HD.out]; simp [HEQ.out])⟩
        · have zg : decide (cr < 0) = true := by simp; omega
          have HD := Lib.hid (show decide (0 ≤ cmpUs x u) = false by rw [HCR.out]; simpa using hge)
          have HCASE := Lib.hid (show (!false && decide (0 ≤ cmpUs x u)) = false by rw [HCR.out]; simpa using hge)
          go_wp2_with fail
          go_quiet_grown (first | (with_reducible exact C3.out _ _))
          clear g0 g1 g2 g3 C3
          have LP := Lib.hid (Gr.grow (Gr.refl wr) nq osq).low
          obtain ⟨W1, hW1⟩ : ∃ Y, Y = grow (wr.drewN nq) osq := ⟨_, rfl⟩
          rw [← hW1] at LP ⊢
          obtain ⟨e0, e1, d0, d1⟩ := HE.out
          replace e0 := LP.out.keep e0
          replace e1 := LP.out.keep e1
          replace d0 := LP.out.keep d0
          replace d1 := LP.out.keep d1
          have L1 := Lib.hid (G.out.trans LP.out)
          have O1 := Lib.hid (OwnR.low O.out LP.out)
          clear hW1
          by_cases hxu : x = u
          · have HEQ := Lib.hid hxu
            have hxt : x.t = u.t := by rw [hxu]
            have hxi : x.i = u.i := by rw [hxu]
            rw [hxt] at e0
            rw [hxi] at e1
            clear hxu hxt hxi
            go_wp2_with fail
            go_quiet (fail)
            have LQ := Lib.hid (Low.drewN W1 nq)
            obtain ⟨WQ, hWQ⟩ : ∃ Y, Y = W1.drewN nq := ⟨_, rfl⟩
            rw [← hWQ] at LQ ⊢
            replace e0 := LQ.out.keep e0
            replace e1 := LQ.out.keep e1
            replace d0 := LQ.out.keep d0
            replace d1 := LQ.out.keep d1
            have LU := Lib.hid (L1.out.trans LQ.out)
            have OU := Lib.hid (OwnR.low O1.out LQ.out)
            clear hWQ
            clear e0 e1 d0 d1
            go_wp2_with fail
            go_roundg (l.length - (i + 1))
            case measure => omega
            case rel => exact ⟨vo, out, false, i + 1, rfl, rfl, by go_num, by omega, by omega, by first | omega | (rw [List.length_append, List.length_singleton]; omega), LU, OU, Lib.hid (by rw [HK.out, HST.out, HD.out]; simp [HEQ.out])⟩
          · have HEQ := Lib.hid hxu
            have hN : ¬ (x.t = u.t ∧ x.i = u.i) := fun h => hxu (Us.ext' h.1 h.2)
            clear hxu
            by_cases htt : x.t = u.t
            · have hi2 : ¬ x.i.toList = u.i.toList := fun h => hN ⟨htt, tl_injE h⟩
              have HTT := Lib.hid htt
              rw [htt] at e0
              clear hN htt
              go_wp2_with fail
              go_quiet (fail)
              have LQ := Lib.hid (Low.drewN W1 nq)
              obtain ⟨WQ, hWQ⟩ : ∃ Y, Y = W1.drewN nq := ⟨_, rfl⟩
              rw [← hWQ] at LQ ⊢
              replace e0 := LQ.out.keep e0
              replace e1 := LQ.out.keep e1
              replace d0 := LQ.out.keep d0
              replace d1 := LQ.out.keep d1
              have LU := Lib.hid (L1.out.trans LQ.out)
              have OU := Lib.hid (OwnR.low O1.out LQ.out)
              clear hWQ
              rw [← HTT.out] at e0
              have HLN := Lib.hid (show (out).length ≤ 1000000 by first | omega | (simp; omega))
              have HSZ := Lib.hid (show w.heap.size + 1 ≤ (WQ.alloc (.cells #[.string x.t, .string x.i] 24)).heap.size from by have := LU.out.size; have h3 := BU.out.lt; simp; omega)
              have HOX := Lib.hid (OwnR.alloc OU.out (.cells #[.string x.t, .string x.i] 24))
              go_wp2_with (first | (at_builtin; refine appR rfl _ _ _ rfl Tryz.underlying33 u_info rfl (by decide) (by decide) encU_len encU_one (w.heap.size + 1) vo out rfl HOX.out x ⟨WQ.heap.size, 0, none⟩ 1 rfl (fun j u hj => newcell_at _ _ _ _ _ rfl hj) HLN.out HSZ.out ?_; intro v2 w4 h2 b2 k2 n2))
              have H2 := Lib.hid h2
              have L4 := Lib.hid ((Low.alloc LU.out _).trans_belowU b2 HU0.out)
              clear h2 b2 k2 n2 e0 e1 d0 d1
              go_wp2_with fail
              go_roundg (l.length - (i + 1))
              case measure => omega
              case rel => exact ⟨v2, out ++ [x], false, i + 1, rfl, rfl, by go_num, by omega, by omega, by simp only [List.length_append, List.length_singleton]; omega, L4, H2, Lib.hid (by rw [HK.out, HST.out, HD.out]; simp [HEQ.out])⟩
            · have ht2 : ¬ x.t.toList = u.t.toList := fun h => htt (tl_injE h)
              clear hN htt
              go_wp2_with fail
              go_quiet (fail)
              have LQ := Lib.hid (Low.drewN W1 nq)
              obtain ⟨WQ, hWQ⟩ : ∃ Y, Y = W1.drewN nq := ⟨_, rfl⟩
              rw [← hWQ] at LQ ⊢
              replace e0 := LQ.out.keep e0
              replace e1 := LQ.out.keep e1
              replace d0 := LQ.out.keep d0
              replace d1 := LQ.out.keep d1
              have LU := Lib.hid (L1.out.trans LQ.out)
              have OU := Lib.hid (OwnR.low O1.out LQ.out)
              clear hWQ
              have HLN := Lib.hid (show (out).length ≤ 1000000 by first | omega | (simp; omega))
              have HSZ := Lib.hid (show w.heap.size + 1 ≤ (WQ.alloc (.cells #[.string x.t, .string x.i] 24)).heap.size from by have := LU.out.size; have h3 := BU.out.lt; simp; omega)
              have HOX := Lib.hid (OwnR.alloc OU.out (.cells #[.string x.t, .string x.i] 24))
              go_wp2_with (first | (at_builtin; refine appR rfl _ _ _ rfl Tryz.underlying33 u_info rfl (by decide) (by decide) encU_len encU_one (w.heap.size + 1) vo out rfl HOX.out x ⟨WQ.heap.size, 0, none⟩ 1 rfl (fun j u hj => newcell_at _ _ _ _ _ rfl hj) HLN.out HSZ.out ?_; intro v2 w4 h2 b2 k2 n2))
              have H2 := Lib.hid h2
              have L4 := Lib.hid ((Low.alloc LU.out _).trans_belowU b2 HU0.out)
              clear h2 b2 k2 n2 e0 e1 d0 d1
              go_wp2_with fail
              go_roundg (l.length - (i + 1))
              case measure => omega
              case rel => exact ⟨v2, out ++ [x], false, i + 1, rfl, rfl, by go_num, by omega, by omega, by simp only [List.length_append, List.length_singleton]; omega, L4, H2, Lib.hid (by rw [HK.out, HST.out, HD.out]; simp [HEQ.out])⟩
    · have zl : ¬ (i : Int) < (l.length : Int) := by omega
      have hd : l.drop i = [] := List.drop_of_length_le (by omega)
      have HK := Lib.hid (show res = out ++ putS u [] put by rw [K.out, hd])
      clear hd
      cases put with
      | true =>
        go_wp2_with fail
        go_ret
        refine ⟨vo, rfl, ?_, LU0.out.trans G.out⟩
        have : res = out := by rw [HK.out]; simp [putS]
        rw [this]
        exact OwnR.base O.out (Nat.le_succ _)
      | false =>
        have HLN := Lib.hid (show out.length ≤ 1000000 by omega)
        have HSZ := Lib.hid (show w.heap.size + 1 ≤ (wr.alloc (.cells #[.string u.t, .string u.i] 24)).heap.size from by have := G.out.size; have h3 := BU.out.lt; simp; omega)
        have HOX := Lib.hid (OwnR.alloc O.out (.cells #[.string u.t, .string u.i] 24))
        go_wp2_with (first | (at_builtin; refine appR rfl _ _ _ rfl Tryz.underlying33 u_info rfl (by decide) (by decide) encU_len encU_one (w.heap.size + 1) vo out rfl HOX.out u ⟨wr.heap.size, 0, none⟩ 1 rfl (fun j u hj => newcell_at _ _ _ _ _ rfl hj) HLN.out HSZ.out ?_; intro v2 w4 h2 b2 k2 n2))
        have H2 := Lib.hid h2
        have L4 := Lib.hid ((Low.alloc G.out _).trans_belowU b2 HU0.out)
        clear h2 b2 k2 n2
        go_wp2_with fail
        go_ret
        refine ⟨v2, rfl, ?_, LU0.out.trans L4.out⟩
        have : res = out ++ [u] := by rw [HK.out]; simp [putS]
        rw [this]
        exact OwnR.base H2.out (Nat.le_succ _)
end Go.Proofs.YtmkillbanmbafaaGreat
namespace Go.Proofs.YtmkillbanmbafaaGreat
open Go.RowKit Go.Sort Go.Maps
theorem BoxAt.put {w : World} {n : Nat} {cs : List Value} (h : BoxAt w n cs) (j : Nat) (v : Value) : BoxAt (w.setCell ⟨n, j, none⟩ v) n (cs.set j v) where
  cells := fun k u hk => by
    rw [Nat.zero_add]
    have hlt : k < cs.length := by have := (List.getElem?_eq_some_iff.1 hk).1; rwa [List.length_set] at this
    by_cases e : k = j
    · subst e
      rw [List.getElem?_set_self hlt] at hk
      simp at hk
      subst hk
      have h0 := h.at k _ (List.getElem?_eq_getElem hlt)
      exact World.cell?_setCell_same' _ _ _ (by rw [h0]; rfl)
    · rw [List.getElem?_set_ne (Ne.symm e)] at hk
      rw [World.cell?_setCell_other _ _ _ _ (by intro h; injection h with _ h; exact e h.symm)]
      exact h.at k u hk
  open' := fun o => by
    rw [World.frozen?_setCell]
    exact h.open' o
  lt := by
    have := h.lt
    have hs : (w.setCell ⟨n, j, none⟩ v).heap.size = w.heap.size := by simp
    rw [hs]; exact this
theorem findI_none {l : List Sh} {x : Us} (h : (fS l x).isSome = false) : findI l x = -1 := by
  unfold findI
  rw [if_neg]
  intro hi
  have := idx_at hi
  have h2 : (fS l l[idxS l x].u).isSome = true := idx_some hi
  rw [this, h] at h2
  simp at h2
theorem canU_step {ps : List Us} {i : Nat} (hi : i < ps.length) : canU (ps.take (i + 1)) = putS ps[i] (canU (ps.take i)) false := by
  rw [putS_ins (canU_rises _), List.take_succ_eq_append_getElem hi]
  unfold canU uniq
  rw [List.foldl_append]
  rfl
theorem canU_len (ps : List Us) : (canU ps).length ≤ ps.length := uniq_len ps
set_option maxHeartbeats 16000000 in
set_option maxRecDepth 100000 in
theorem rone_c (ls : List Sh) (names : List Us) (hnm : ∀ x, x ∈ names ↔ (fS ls x).isSome = true) (rl : Value) (u : Us) (ps : List Us) (v : V) (ap : Option Addr) (cp : Nat) (ai : Option Addr) (ci : Nat) (an : Option Addr) (cn : Nat) (w : World)
    (hL : EsAt w rl ls) (hP : UsAt w (.slice ap ps.length cp) ps) (hR : R w v (.slice ai v.l.length ci) (.slice an v.ns.length cn)) (hsm : Sm v) (hdp : dep v ≤ 1000000) (hps : ps.length ≤ 70000) :
    Calls Tryz.prog 23 #[rl, .agg #[.string u.t, .string u.i, .slice ap ps.length cp, .int .i64 v.h.k, .bool v.h.b, .int .i64 v.h.n, .string v.h.s, .string v.h.t, .string v.h.i, .slice ai v.l.length ci, .slice an v.ns.length cn]] w (CanEP names ⟨u, ps, v⟩ w) := by
  have L0 := (Low.alloc (Low.alloc (Low.alloc (Low.refl w) _) _) _ : Low w (((w.alloc (.cells #[.string u.t, .string u.i, .slice ap ps.length cp, .int .i64 v.h.k, .bool v.h.b, .int .i64 v.h.n, .string v.h.s, .string v.h.t, .string v.h.i, .slice ai v.l.length ci, .slice an v.ns.length cn] 39)).alloc (.cells #[.string ⟨#[]⟩, .string ⟨#[]⟩, .slice none 0 0, .int .i64 0, .bool false, .int .i64 0, .string ⟨#[]⟩, .string ⟨#[]⟩, .string ⟨#[]⟩, .slice none 0 0, .slice none 0 0] 39)).alloc (.cells #[.string u.t, .string u.i, .slice none 0 0, .int .i64 0, .bool false, .int .i64 0, .string ⟨#[]⟩, .string ⟨#[]⟩, .string ⟨#[]⟩, .slice none 0 0, .slice none 0 0] 39)))
  by_cases k6 : v.h.k = 6
  case neg =>
    have he : errE canD names ⟨u, ps, v⟩ = 1 := by unfold errE; rw [if_pos k6]
    have z6 : (v.h.k != 6) = true := by simpa using k6
    have HL := Lib.hid L0
    unfold CanEP
    rw [he]
    clear hP hR hsm hL hnm he L0 k6 hdp
    go_enter Tryz.func23, Tryz.ntmps23
    go_wp2_with fail
    refine bodyPost_ret (v := .tuple #[.agg #[.string u.t, .string u.i, .slice none 0 0, .int .i64 0, .bool false, .int .i64 0, .string ⟨#[]⟩, .string ⟨#[]⟩, .string ⟨#[]⟩, .slice none 0 0, .slice none 0 0], .int .i64 1]) (by simp [results, Tryz.results23, go_sem]; try rfl) rfl ?_
    refine ⟨⟨⟨u, [], V0⟩, none, 0, none, 0, none, 0⟩, rfl, ?_, fun h => by simp at h⟩
    exact Low.alloc (Low.alloc (Low.alloc (Low.refl w) _) _) _
  case pos =>
    have z6 : (v.h.k != 6) = false := by simpa using k6
    obtain ⟨c, x, hq⟩ : ∃ c x, canD v = (c, x) := ⟨_, _, rfl⟩
    have CN := rCanon_c v _ _ _ (hR.low L0) hsm hdp
    rw [hq] at CN
    have HC := Lib.hid (show Calls Tryz.prog 38 #[.agg #[.int .i64 v.h.k, .bool v.h.b, .int .i64 v.h.n, .string v.h.s, .string v.h.t, .string v.h.i, .slice ai v.l.length ci, .slice an v.ns.length cn]] (((w.alloc (.cells #[.string u.t, .string u.i, .slice ap ps.length cp, .int .i64 v.h.k, .bool v.h.b, .int .i64 v.h.n, .string v.h.s, .string v.h.t, .string v.h.i, .slice ai v.l.length ci, .slice an v.ns.length cn] 39)).alloc (.cells #[.string ⟨#[]⟩, .string ⟨#[]⟩, .slice none 0 0, .int .i64 0, .bool false, .int .i64 0, .string ⟨#[]⟩, .string ⟨#[]⟩, .string ⟨#[]⟩, .slice none 0 0, .slice none 0 0] 39)).alloc (.cells #[.string u.t, .string u.i, .slice none 0 0, .int .i64 0, .bool false, .int .i64 0, .string ⟨#[]⟩, .string ⟨#[]⟩, .string ⟨#[]⟩, .slice none 0 0, .slice none 0 0] 39)) (CanPost x c (((w.alloc (.cells #[.string u.t, .string u.i, .slice ap ps.length cp, .int .i64 v.h.k, .bool v.h.b, .int .i64 v.h.n, .string v.h.s, .string v.h.t, .string v.h.i, .slice ai v.l.length ci, .slice an v.ns.length cn] 39)).alloc (.cells #[.string ⟨#[]⟩, .string ⟨#[]⟩, .slice none 0 0, .int .i64 0, .bool false, .int .i64 0, .string ⟨#[]⟩, .string ⟨#[]⟩, .string ⟨#[]⟩, .slice none 0 0, .slice none 0 0] 39)).alloc (.cells #[.string u.t, .string u.i, .slice none 0 0, .int .i64 0, .bool false, .int .i64 0, .string ⟨#[]⟩, .string ⟨#[]⟩, .string ⟨#[]⟩, .slice none 0 0, .slice none 0 0] 39))) from CN)
    have he : errE canD names ⟨u, ps, v⟩ = if c ≠ 0 then c else if ps.all (fun p => decide (p ∈ names)) = true then 0 else 20 := by
      unfold errE
      rw [if_neg (by simpa using k6)]
      show (if (canD v).1 ≠ 0 then (canD v).1 else _) = _
      rw [hq]
    have ho : oneE canD ⟨u, ps, v⟩ = ⟨u, canU ps, x⟩ := by unfold oneE; rw [hq]
    have HE := Lib.hid he
    have HO := Lib.hid ho
    have HP := Lib.hid hP
    have HLS := Lib.hid hL
    have HN := Lib.hid hnm
    have HL := Lib.hid L0
    have HPS := Lib.hid hps
    have HN1 := Lib.hid (show (w.alloc (.cells #[.string u.t, .string u.i, .slice ap ps.length cp, .int .i64 v.h.k, .bool v.h.b, .int .i64 v.h.n, .string v.h.s, .string v.h.t, .string v.h.i, .slice ai v.l.length ci, .slice an v.ns.length cn] 39)).heap.size = w.heap.size + 1 by simp)
    have HN2 := Lib.hid (show ((w.alloc (.cells #[.string u.t, .string u.i, .slice ap ps.length cp, .int .i64 v.h.k, .bool v.h.b, .int .i64 v.h.n, .string v.h.s, .string v.h.t, .string v.h.i, .slice ai v.l.length ci, .slice an v.ns.length cn] 39)).alloc (.cells #[.string ⟨#[]⟩, .string ⟨#[]⟩, .slice none 0 0, .int .i64 0, .bool false, .int .i64 0, .string ⟨#[]⟩, .string ⟨#[]⟩, .string ⟨#[]⟩, .slice none 0 0, .slice none 0 0] 39)).heap.size = w.heap.size + 1 + 1 by simp)
    have HK6 := Lib.hid k6
    clear hP hR hsm hL hnm he ho L0 CN hq hps hdp k6
    unfold CanEP
    go_enter Tryz.func23, Tryz.ntmps23
    go_wp2_with fail
    refine HC.out.mono ?_
    rintro e w1 ⟨bi, di, bn, dn, rfl, hrep, hlow⟩
    have HR := Lib.hid hrep
    have HL1 := Lib.hid hlow
    have BO := Lib.hid (BoxAt.new (w.heap.size + 1 + 1) hlow (cs := [.string u.t, .string u.i, .slice none 0 0, .int .i64 0, .bool false, .int .i64 0, .string ⟨#[]⟩, .string ⟨#[]⟩, .string ⟨#[]⟩, .slice none 0 0, .slice none 0 0]) rfl HN2.out)
    have BZ := Lib.hid (BoxAt.new (w.heap.size + 1) ((Low.alloc (Low.refl _) _).trans hlow) (cs := zE) rfl HN1.out)
    have BE := Lib.hid (BoxAt.new w.heap.size ((Low.alloc (Low.alloc (Low.refl _) _) _).trans hlow) (cs := [.string u.t, .string u.i, .slice ap ps.length cp, .int .i64 v.h.k, .bool v.h.b, .int .i64 v.h.n, .string v.h.s, .string v.h.t, .string v.h.i, .slice ai v.l.length ci, .slice an v.ns.length cn]) rfl rfl)
    clear hrep hlow HC
    obtain ⟨W1, hW1⟩ : ∃ W, W = w1.alloc (.cells #[.int .i64 x.h.k, .bool x.h.b, .int .i64 x.h.n, .string x.h.s, .string x.h.t, .string x.h.i, .slice bi x.l.length di, .slice bn x.ns.length dn] 37) := ⟨_, rfl⟩
    have HW1 := Lib.hid hW1
    have LW := Lib.hid (show Low w1 W1 from hW1 ▸ Low.alloc (Low.refl w1) _)
    have HX := Lib.hid (show BoxAt W1 w1.heap.size [.int .i64 x.h.k, .bool x.h.b, .int .i64 x.h.n, .string x.h.s, .string x.h.t, .string x.h.i, .slice bi x.l.length di, .slice bn x.ns.length dn] from hW1 ▸ BoxAt.new w1.heap.size (Low.refl (w1.alloc (.cells #[.int .i64 x.h.k, .bool x.h.b, .int .i64 x.h.n, .string x.h.s, .string x.h.t, .string x.h.i, .slice bi x.l.length di, .slice bn x.ns.length dn] 37))) rfl rfl)
    have BO1 := Lib.hid (BO.out.low LW.out)
    have BZ1 := Lib.hid (BZ.out.low LW.out)
    have BE1 := Lib.hid (BE.out.low LW.out)
    have HS1 := Lib.hid (show w.heap.size + 1 + 1 < w1.heap.size from BO.out.lt)
    have LB := Lib.hid ((HL.out.trans HL1.out).trans LW.out)
    clear hW1 BO BZ BE
    by_cases h0 : c = 0
    case neg =>
      have zc : (c != 0) = true := by simpa using h0
      obtain ⟨c0, c1, c2, c3, c4, c5, c6, c7, c8, c9, c10⟩ := BZ1.out.at11
      obtain ⟨f0, f1, f2, f3, f4, f5, f6, f7, f8, f9, f10⟩ := BZ1.out.op11
      obtain ⟨o0, o1, o2, o3, o4, o5, o6, o7, o8, o9, o10⟩ := BO1.out.at11
      have HH := Lib.hid h0
      clear h0
      go_upto_region 5 with fail
      rw [← HW1.out]
      clear HW1
      go_wp2_with fail
      refine bodyPost_ret (v := .tuple #[.agg #[.string u.t, .string u.i, .slice none 0 0, .int .i64 0, .bool false, .int .i64 0, .string ⟨#[]⟩, .string ⟨#[]⟩, .string ⟨#[]⟩, .slice none 0 0, .slice none 0 0], .int .i64 c]) (by simp [results, Tryz.results23, go_sem, World.cell?_setCell_same', c0, c1, c2, c3, c4, c5, c6, c7, c8, c9, c10]; try rfl) rfl ?_
      have hee : errE canD names ⟨u, ps, v⟩ = c := by rw [HE.out, if_pos HH.out]
      exact ⟨⟨⟨u, [], V0⟩, none, 0, none, 0, none, 0⟩, by rw [hee]; rfl, low_all LB.out (Nat.le_succ _) (kept11 _ _ _ _ _ _ _ _ _ _ _ _ _), fun h => absurd (hee ▸ h) HH.out⟩
    case pos =>
      subst h0
      have HE0 := Lib.hid (show ps.all (fun p => decide (p ∈ names)) = true → errE canD names ⟨u, ps, v⟩ = 0 from fun h => by rw [HE.out]; simp [h])
      have HE1 := Lib.hid (show ¬ ps.all (fun p => decide (p ∈ names)) = true → errE canD names ⟨u, ps, v⟩ = 20 from fun h => by rw [HE.out]; simp [h])
      obtain ⟨W2, hW2⟩ : ∃ W, W = ((((((((W1.setCell ⟨w.heap.size + 1 + 1, 3, none⟩ (.int .i64 x.h.k)).setCell ⟨w.heap.size + 1 + 1, 4, none⟩ (.bool x.h.b)).setCell ⟨w.heap.size + 1 + 1, 5, none⟩ (.int .i64 x.h.n)).setCell ⟨w.heap.size + 1 + 1, 6, none⟩ (.string x.h.s)).setCell ⟨w.heap.size + 1 + 1, 7, none⟩ (.string x.h.t)).setCell ⟨w.heap.size + 1 + 1, 8, none⟩ (.string x.h.i)).setCell ⟨w.heap.size + 1 + 1, 9, none⟩ (.slice bi x.l.length di)).setCell ⟨w.heap.size + 1 + 1, 10, none⟩ (.slice bn x.ns.length dn)) := ⟨_, rfl⟩
      have HW2 := Lib.hid hW2
      have K12 := Lib.hid (show KeptBut W1 W2 (some (w.heap.size + 1 + 1)) from hW2 ▸ (kept_setCell _ _ _ _).trans ((kept_setCell _ _ _ _).trans ((kept_setCell _ _ _ _).trans ((kept_setCell _ _ _ _).trans ((kept_setCell _ _ _ _).trans ((kept_setCell _ _ _ _).trans ((kept_setCell _ _ _ _).trans (kept_setCell _ _ _ _))))))))
      have BO2 := Lib.hid (show BoxAt W2 (w.heap.size + 1 + 1) [.string u.t, .string u.i, .slice none 0 0, .int .i64 x.h.k, .bool x.h.b, .int .i64 x.h.n, .string x.h.s, .string x.h.t, .string x.h.i, .slice bi x.l.length di, .slice bn x.ns.length dn] from hW2 ▸ (((((((BO1.out.put 3 _).put 4 _).put 5 _).put 6 _).put 7 _).put 8 _).put 9 _).put 10 _)
      have BZ2 := Lib.hid (BZ1.out.kept K12.out (by simp))
      have BE2 := Lib.hid (BE1.out.kept K12.out (by simp; omega))
      have L2 := Lib.hid (LB.out.kept K12.out fun g hg => by simp at hg; omega)
      obtain ⟨x0, x1, x2, x3, x4, x5, x6, x7⟩ := HX.out.at8
      obtain ⟨o0, o1, o2, o3, o4, o5, o6, o7, o8, o9, o10⟩ := BO1.out.at11
      obtain ⟨f0, f1, f2, f3, f4, f5, f6, f7, f8, f9, f10⟩ := BO1.out.op11
      have HRX := Lib.hid (show Rep (fun b => w.heap.size + 1 + 1 < b ∧ b < w1.heap.size) W2 x (.slice bi x.l.length di) (.slice bn x.ns.length dn) from Rep.to (fun b ha hb => by
        simp at ha
        have h1 := LW.out.size
        exact ⟨⟨by omega, hb⟩, (K12.out.2.2.2 b (by omega) (by simp; omega)).trans (LW.out.2.2.2 b hb)⟩) _ HR.out)
      have HSW := Lib.hid (show w1.heap.size ≤ W2.heap.size from Nat.le_trans LW.out.size K12.out.2.2.1)
      clear hW2 HE
      go_upto_region 7 with fail
      rw [← HW1.out]
      clear HW1
      go_upto_region 8 with fail
      rw [← HW2.out]
      clear HW2 x0 x1 x2 x3 x4 x5 x6 x7 o0 o1 o2 o3 o4 o5 o6 o7 o8 o9 o10 f0 f1 f2 f3 f4 f5 f6 f7 f8 f9 f10
      go_wp2_with fail
      obtain ⟨ap9, cp9, hv9, ⟨hl1, hl2⟩, hx9⟩ := HP.out
      simp only [Value.slice.injEq] at hv9
      obtain ⟨rfl, -, rfl⟩ := hv9
      have HX9 := Lib.hid hx9
      clear hx9
      go_loopg [9] ps.length (fun gk vi wr => ∃ (i : Nat) (ao : Option Addr) (ca : Nat) (rs : List Us), vi = .int .i64 (i : Int) ∧ i ≤ ps.length ∧ ps.length - i ≤ gk ∧ Hid (Low w wr) ∧ Hid (BoxAt wr w.heap.size [.string u.t, .string u.i, .slice ap ps.length cp, .int .i64 v.h.k, .bool v.h.b, .int .i64 v.h.n, .string v.h.s, .string v.h.t, .string v.h.i, .slice ai v.l.length ci, .slice an v.ns.length cn]) ∧ Hid (BoxAt wr (w.heap.size + 1) zE) ∧ Hid (BoxAt wr (w.heap.size + 1 + 1) [.string u.t, .string u.i, .slice ao rs.length ca, .int .i64 x.h.k, .bool x.h.b, .int .i64 x.h.n, .string x.h.s, .string x.h.t, .string x.h.i, .slice bi x.l.length di, .slice bn x.ns.length dn]) ∧ Hid (OwnU w1.heap.size wr (.slice ao rs.length ca) rs) ∧ Hid (rs = canU (ps.take i)) ∧ Hid (Rep (fun b => w.heap.size + 1 + 1 < b ∧ b < w1.heap.size) wr x (.slice bi x.l.length di) (.slice bn x.ns.length dn)) ∧ Hid (∀ p ∈ ps.take i, p ∈ names) ∧ w1.heap.size ≤ wr.heap.size)
      case atStart => exact ⟨0, none, 0, [], rfl, Nat.zero_le _, Nat.le_refl _, L2, BE2, BZ2, BO2, Lib.hid (OwnR.nil _ _ _ _ _), Lib.hid rfl, HRX, Lib.hid fun p hp => by simp at hp, HSW.out⟩
      case round =>
        clear L2 BE2 BZ2 BO2 HRX HSW K12
        obtain ⟨i, ao, ca, rs, rfl, hi, hg, G, GE, GZ, GO, O, KR, RX, KN, hsw⟩ := hrel
        have e2 : wr.cell? ⟨w.heap.size, 2, none⟩ = some (.slice ap ps.length cp) := GE.out.at 2 _ rfl
        by_cases hlt : i < ps.length
        · have zl : (i : Int) < (ps.length : Int) := by omega
          obtain ⟨pb, po, rfl, hcs⟩ := HX9.out i hlt
          obtain ⟨d0, d1⟩ := cells2 (G.out.cells hcs)
          have hcu := canU_step hlt
          obtain ⟨p, hp⟩ : ∃ p, ps[i] = p := ⟨_, rfl⟩
          rw [hp] at d0 d1 hcu hcs
          have HT := Lib.hid (show ps.take (i + 1) = ps.take i ++ [p] by rw [← hp, List.take_succ_eq_append_getElem hlt])
          have HPM := Lib.hid (show p ∈ ps from hp ▸ List.getElem_mem hlt)
          have HCU := Lib.hid hcu
          have HCS := Lib.hid hcs
          have hfi := find_c ls p wr rl (HLS.out.low G.out)
          unfold usV at hfi
          have HRL := Lib.hid (show rs.length ≤ 70000 by have h1 := canU_len (ps.take i); have h2 := HPS.out; rw [← KR.out, List.length_take] at h1; omega)
          cases hq : (fS ls p).isSome with
          | false =>
            rw [findI_none hq] at hfi
            have HF := Lib.hid hfi
            have HQ := Lib.hid hq
            clear hfi hq hcs hp hcu
            go_wp2_with fail
            refine HF.out.mono ?_
            rintro e w3 ⟨rfl, l3⟩
            have L3 := Lib.hid (G.out.trans l3)
            obtain ⟨c0, c1, c2, c3, c4, c5, c6, c7, c8, c9, c10⟩ := (GZ.out.low l3).at11
            obtain ⟨f0, f1, f2, f3, f4, f5, f6, f7, f8, f9, f10⟩ := (GZ.out.low l3).op11
            obtain ⟨o0, o1, o2, o3, o4, o5, o6, o7, o8, o9, o10⟩ := (GO.out.low l3).at11
            clear l3 d0 d1 e2
            go_wp2_with fail
            refine bodyPost_ret (v := .tuple #[.agg #[.string u.t, .string u.i, .slice ao rs.length ca, .int .i64 x.h.k, .bool x.h.b, .int .i64 x.h.n, .string x.h.s, .string x.h.t, .string x.h.i, .slice bi x.l.length di, .slice bn x.ns.length dn], .int .i64 20]) (by simp [results, Tryz.results23, go_sem, World.cell?_setCell_same', c0, c1, c2, c3, c4, c5, c6, c7, c8, c9, c10]; try rfl) rfl ?_
            have hee : errE canD names ⟨u, ps, v⟩ = 20 := HE1.out fun h => by
              have := List.all_eq_true.1 h p HPM.out
              simp at this
              have := (HN.out p).1 this
              rw [HQ.out] at this
              simp at this
            exact ⟨⟨⟨u, rs, x⟩, ao, ca, bi, di, bn, dn⟩, by rw [hee], low_all L3.out (Nat.le_succ _) (kept11 _ _ _ _ _ _ _ _ _ _ _ _ _), fun h => by rw [hee] at h; simp at h⟩
          | true =>
            have HQ := Lib.hid hq
            have hfz : ¬ findI ls p < 0 := by rw [findI_idx hq]; omega
            obtain ⟨fi, hfe⟩ : ∃ fi, findI ls p = fi := ⟨_, rfl⟩
            rw [hfe] at hfi hfz
            have zf : 0 ≤ fi := by omega
            have zfd : decide (fi < 0) = false := by simp; omega
            have HF := Lib.hid hfi
            clear hfi hq hcs hp hcu hfe hfz
            go_wp2_with fail
            refine HF.out.mono ?_
            rintro e w3 ⟨rfl, l3⟩
            have GE3 := Lib.hid (GE.out.low l3)
            have GZ3 := Lib.hid (GZ.out.low l3)
            have GO3 := Lib.hid (GO.out.low l3)
            have O3 := Lib.hid (OwnR.low O.out l3)
            have L3 := Lib.hid (G.out.trans l3)
            have RX3 := Lib.hid (Rep.low RX.out l3)
            have hsw3 : w1.heap.size ≤ w3.heap.size := Nat.le_trans hsw l3.size
            clear l3 d0 d1 e2
            have e2 : w3.cell? ⟨w.heap.size, 2, none⟩ = some (.slice (some ⟨pb, po, none⟩) ps.length cp) := GE3.out.at 2 _ rfl
            have o2 : w3.cell? ⟨w.heap.size + 1 + 1, 2, none⟩ = some (.slice ao rs.length ca) := GO3.out.at 2 _ rfl
            obtain ⟨d0, d1⟩ := cells2 (L3.out.cells HCS.out)
            have D3 := Lib.hid (show Low w3 w3.drew from Low.drewN w3 1)
            have hrs2 : putS p rs false = canU (ps.take (i + 1)) := by rw [KR.out, HCU.out]
            have HPC := Lib.hid (show Calls Tryz.prog 31 #[.slice ao rs.length ca, .agg #[.string p.t, .string p.i]] w3.drew (ClnP (canU (ps.take (i + 1))) w3.drew) by rw [← hrs2]; exact rput_c rs p w3.drew _ HRL.out (OwnR.usIn (A := fun _ => True) (OwnR.low O3.out D3.out) fun _ _ => trivial).any)
            clear hrs2
            go_wp2_with fail
            go_region_law (first
              | (go_simp; go_at_call 31; (refine HPC.out.mono ?_); rintro e w4 ⟨v4, rfl, O4, l4⟩; obtain ⟨ao4, cp4, rfl, -, -, -⟩ := OwnR.shape O4; have L34 := Lib.hid (D3.out.trans l4); have HO4 := Lib.hid (show OwnU _ _ _ _ from O4); obtain ⟨n4, hn4⟩ : ∃ m, m = (canU (ps.take (i + 1))).length := ⟨_, rfl⟩; rw [← hn4]; have HN4 := Lib.hid hn4; clear hn4; have o2 : w4.cell? ⟨w.heap.size + 1 + 1, 2, none⟩ = some (.slice ao rs.length ca) := (GO3.out.low L34.out).at 2 _ rfl; have q2 : w4.frozen? ⟨w.heap.size + 1 + 1, 2, none⟩ = false := (GO3.out.low L34.out).open' 2; clear O4 l4))
            all_goals
              obtain ⟨W5, hW5⟩ : ∃ W, W = w4.setCell ⟨w.heap.size + 1 + 1, 2, none⟩ (.slice ao4 n4 cp4) := ⟨_, rfl⟩
              have K45 := Lib.hid (show KeptBut w4 W5 (some (w.heap.size + 1 + 1)) from hW5 ▸ kept_setCell _ _ _ _)
              have GO5 := Lib.hid (show BoxAt W5 (w.heap.size + 1 + 1) [.string u.t, .string u.i, .slice ao4 (canU (ps.take (i + 1))).length cp4, .int .i64 x.h.k, .bool x.h.b, .int .i64 x.h.n, .string x.h.s, .string x.h.t, .string x.h.i, .slice bi x.l.length di, .slice bn x.ns.length dn] from by rw [← HN4.out]; exact hW5 ▸ (GO3.out.low L34.out).put 2 _)
              have GE5 := Lib.hid ((GE3.out.low L34.out).kept K45.out (by simp; omega))
              have GZ5 := Lib.hid ((GZ3.out.low L34.out).kept K45.out (by simp))
              have L5 := Lib.hid ((L3.out.trans L34.out).kept K45.out fun g hg => by simp at hg; omega)
              have hs3 := HS1.out
              have hs4 := L34.out.size
              have hs5 := K45.out.2.2.1
              have RX5 := Lib.hid (show Rep (fun b => w.heap.size + 1 + 1 < b ∧ b < w1.heap.size) W5 x (.slice bi x.l.length di) (.slice bn x.ns.length dn) from Rep.to (fun b ha hb => ⟨ha, (K45.out.2.2.2 b (by omega) (by simp; omega)).trans (L34.out.2.2.2 b hb)⟩) _ RX3.out)
              have O5 := Lib.hid (show OwnU w1.heap.size W5 (.slice ao4 (canU (ps.take (i + 1))).length cp4) (canU (ps.take (i + 1))) from OwnR.to (OwnR.base HO4.out (Nat.le_trans hsw3 D3.out.size)) fun g hg => K45.out.2.2.2 g (World.ownsRow.lt HO4.out g hg).2 (fun e => by simp at e; have h1 := (World.ownsRow.lt HO4.out g hg).1; have h2 := D3.out.size; omega))
              rw [← hW5]
              clear hW5 o2 q2 e2 d0 d1
              go_wp2_with fail
              go_roundg (ps.length - (i + 1))
              case measure => omega
              case rel =>
                refine ⟨i + 1, ao4, cp4, canU (ps.take (i + 1)), by go_num, by omega, by omega, L5, GE5, GZ5, GO5, O5, Lib.hid rfl, RX5, Lib.hid ?_, by omega⟩
                rw [HT.out]
                intro z hz
                rcases List.mem_append.1 hz with h | h
                · exact KN.out z h
                · simp at h; rw [h]; exact (HN.out p).2 HQ.out
        · have zl : ¬ (i : Int) < (ps.length : Int) := by omega
          have hil : i = ps.length := by omega
          have hall : ps.all (fun p => decide (p ∈ names)) = true := List.all_eq_true.2 fun p hp => by
            simp
            exact KN.out p (by rw [hil, List.take_length]; exact hp)
          have hee := Lib.hid (HE0.out hall)
          have hrs := Lib.hid (show rs = canU ps by rw [KR.out, hil, List.take_length])
          clear hall hil
          obtain ⟨c0, c1, c2, c3, c4, c5, c6, c7, c8, c9, c10⟩ := GZ.out.at11
          obtain ⟨f0, f1, f2, f3, f4, f5, f6, f7, f8, f9, f10⟩ := GZ.out.op11
          obtain ⟨o0, o1, o2, o3, o4, o5, o6, o7, o8, o9, o10⟩ := GO.out.at11
          go_wp2_with fail
          refine bodyPost_ret (v := .tuple #[.agg #[.string u.t, .string u.i, .slice ao rs.length ca, .int .i64 x.h.k, .bool x.h.b, .int .i64 x.h.n, .string x.h.s, .string x.h.t, .string x.h.i, .slice bi x.l.length di, .slice bn x.ns.length dn], .int .i64 0]) (by simp [results, Tryz.results23, go_sem, World.cell?_setCell_same', c0, c1, c2, c3, c4, c5, c6, c7, c8, c9, c10]; try rfl) rfl ?_
          have K11 : KeptBut wr _ (some (w.heap.size + 1)) := kept11 wr (w.heap.size + 1) (.string u.t) (.string u.i) (.slice ao rs.length ca) (.int .i64 x.h.k) (.bool x.h.b) (.int .i64 x.h.n) (.string x.h.s) (.string x.h.t) (.string x.h.i) (.slice bi x.l.length di) (.slice bn x.ns.length dn)
          have hs1 := HS1.out
          refine ⟨⟨⟨u, rs, x⟩, ao, ca, bi, di, bn, dn⟩, by rw [hee.out], low_all G.out (Nat.le_succ _) K11, fun _ => ⟨?_, ?_, ?_⟩⟩
          · rw [HO.out, hrs.out]
          · exact UsIn.to (fun b ha hb => ⟨by omega, K11.2.2.2 b hb (by simp; omega)⟩) (OwnR.usIn (A := fun b => w1.heap.size ≤ b) O.out fun g hg => (World.ownsRow.lt O.out g hg).1)
          · exact Rep.to (fun b ha hb => ⟨by omega, K11.2.2.2 b hb (by simp; omega)⟩) _ RX.out
end Go.Proofs.YtmkillbanmbafaaGreat
