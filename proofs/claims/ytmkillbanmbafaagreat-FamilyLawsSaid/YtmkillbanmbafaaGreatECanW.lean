/- entity.Canon: a list of entities as it must be, or refused. Condition: no more than 300 entities, of no more than 300 parents each. -/
import Derived.Test.YtmkillbanmbafaaGreatCanQ
import Derived.Test.YtmkillbanmbafaaGreatFews
namespace Go.Proofs.YtmkillbanmbafaaGreat
open Go.RowKit Go.Sort Go.Maps
/-- What Canon answers. -/
def CanLP (p : Int × List En) (w : World) (e : Ending) (w' : World) : Prop := ∃ v, e = .returned (.tuple #[v, .int .i64 p.1]) ∧ Low w w' ∧ ∃ rs : List Ee, ensOf rs = p.2 ∧ EtAt w' v rs
theorem et_nil (w : World) : EtAt w (.slice none 0 0) [] := ⟨⟨none, 0, rfl, ⟨by simp, by simp⟩, fun j hj => by simp at hj⟩, fun q hq => by simp at hq⟩
theorem canLP_bad {w w' : World} {c : Int} (h : Low w w') : CanLP (c, []) w (.returned (.tuple #[.slice none 0 0, .int .i64 c])) w' := ⟨_, rfl, h, [], rfl, et_nil _⟩
set_option maxHeartbeats 8000000 in
set_option maxRecDepth 100000 in
theorem eCanon_c (qs : List Ee) (w : World) (r : Value) (h : EtAt w r qs) (hf : FewE (ensOf qs)) (hs : ∀ q ∈ qs, Sm q.e.a) : Calls Tryz.prog 22 #[r] w (CanLP (canE canD (ensOf qs)) w) := by
  have hpar := par_c (qs.map Ee.sh) w r h.1
  obtain ⟨ao, c, rfl, ⟨hlc, hc9⟩, hx⟩ := h.at
  have hq3 : qs.length ≤ 300 := by have := hf.1; unfold ensOf at this; rwa [List.length_map] at this
  have z1 : (qs.length : Int) ≤ 4096 := by omega
  have zd : decide ((4096 : Int) < (qs.length : Int)) = false := by simp; omega
  have hel : (ensOf qs).length = qs.length := by simp [ensOf]
  have hdef : canE canD (ensOf qs) = if (namesE (ensOf qs)).Nodup then (if errL canD (namesE (ensOf qs)) (ensOf qs) = 0 then (open Classical in if RoundE (ensOf qs) then (21, []) else (0, uniq cmpE ((ensOf qs).map (oneE canD)))) else (errL canD (namesE (ensOf qs)) (ensOf qs), [])) else (13, []) := by
    unfold canE; rw [if_neg (by rw [hel]; omega)]
  obtain ⟨res, hres⟩ : ∃ res, res = canE canD (ensOf qs) := ⟨_, rfl⟩
  rw [← hres] at hdef ⊢
  have HD := Lib.hid hdef
  have HX := Lib.hid hx
  have HQ := Lib.hid h
  have HF := Lib.hid hf
  have HS := Lib.hid hs
  have HP := Lib.hid hpar
  clear hx h hf hs hpar hel hdef hres
  go_enter Tryz.func22, Tryz.ntmps22
  go_wp2_with fail
  refine HP.out.mono ?_
  rintro e w1 ⟨b1, rfl, hb1, M1, L1⟩
  have HM1 := Lib.hid M1
  have HL1 := Lib.hid L1
  clear M1 L1 HP
  have hkn : ∀ ks : List Us, ks.Nodup → (∀ x, x ∈ ks ↔ (fS (qs.map Ee.sh) x).isSome = true) → ((namesE (ensOf qs)).Nodup → ks.length = qs.length) ∧ (¬ (namesE (ensOf qs)).Nodup → ks.length < qs.length) := fun ks hk hm => by
    have h1 := keys_len (names := namesE (ensOf qs)) hk fun x => (hm x).trans fS_names
    rwa [show (namesE (ensOf qs)).length = qs.length by simp [namesE, ensOf]] at h1
  by_cases hnd : (namesE (ensOf qs)).Nodup
  case neg =>
    have HK := Lib.hid fun (ks : List Us) (hk : ks.Nodup) (hm : ∀ x, x ∈ ks ↔ (fS (qs.map Ee.sh) x).isSome = true) => (show (ks.length : Int) < (qs.length : Int) by have := (hkn ks hk hm).2 hnd; omega)
    have HR := Lib.hid (show res = (13, []) by rw [HD.out, if_neg hnd])
    clear hnd hkn
    go_wp2_with (at_len; refine at_size rfl _ _ rfl Tryz.underlying68 rfl HM1.out ?_; intro ks hk hm; have zk := HK.out ks hk hm; clear hk hm)
    go_ret2
    rw [HR.out]
    exact canLP_bad HL1.out
  case pos =>
    have HK := Lib.hid fun (ks : List Us) (hk : ks.Nodup) (hm : ∀ x, x ∈ ks ↔ (fS (qs.map Ee.sh) x).isSome = true) => (show ¬ (ks.length : Int) < (qs.length : Int) ∧ decide (ks.length < qs.length) = false by have := (hkn ks hk hm).1 hnd; exact ⟨by omega, by simp; omega⟩)
    have HN := Lib.hid hnd
    clear hnd hkn
    go_wp2_with (at_len; refine at_size rfl _ _ rfl Tryz.underlying68 rfl HM1.out ?_; intro ks hk hm; obtain ⟨zk, zn⟩ := HK.out ks hk hm; clear hk hm)
    clear zk zn HK
    obtain ⟨B, hB⟩ : ∃ B, B = w1.heap.size := ⟨_, rfl⟩
    have HB := Lib.hid hB
    have HNM := Lib.hid (show ∀ x, x ∈ namesE (ensOf qs) ↔ (fS (qs.map Ee.sh) x).isSome = true from fun x => fS_names.symm)
    clear hB
    go_loopg [5, 22] qs.length (fun gk vs vi wr => ∃ (vr : Value) (i : Nat) (rs : List Ee), vr = vs ∧ vi = .int .i64 (i : Int) ∧ i ≤ qs.length ∧ qs.length - i ≤ gk ∧ Hid (Low w1 wr) ∧ Hid (OwnE B wr vr rs) ∧ Hid (ensOf rs = ((ensOf qs).take i).map (oneE canD)) ∧ Hid (∀ p ∈ rs, EeOk (fun b => B ≤ b ∧ some b ≠ vr.ownBlock) wr p) ∧ Hid (∀ e ∈ (ensOf qs).take i, errE canD (namesE (ensOf qs)) e = 0))
    case atStart => exact ⟨_, 0, [], rfl, rfl, Nat.zero_le _, Nat.le_refl _, Lib.hid (Low.refl _), Lib.hid (OwnR.nil _ _ _ _ _), Lib.hid rfl, Lib.hid fun p hp => by simp at hp, Lib.hid fun e he => by simp at he⟩
    case round =>
      obtain ⟨vr, i, rs, rfl, rfl, hi, hg, G, O, K, E, Z⟩ := hrel
      have hrl : rs.length = i := by have := congrArg List.length K.out; simpa [ensOf, hi] using this
      by_cases hlt : i < qs.length
      · have zl : (i : Int) < (qs.length : Int) := by omega
        obtain ⟨b, o, rfl, hcs⟩ := HX.out i hlt
        have hq := HQ.out.2 qs[i] (List.getElem_mem hlt)
        have hsm := HS.out qs[i] (List.getElem_mem hlt)
        have hps : qs[i].e.ps.length ≤ 300 := HF.out.2 qs[i].e (by unfold ensOf; exact List.mem_map_of_mem (List.getElem_mem hlt))
        have hei : (ensOf qs)[i]? = some qs[i].e := by unfold ensOf; simp [hlt]
        obtain ⟨q, hqq⟩ : ∃ q, qs[i] = q := ⟨_, rfl⟩
        rw [hqq] at hcs hq hsm hps hei
        have LW := Lib.hid (HL1.out.trans G.out)
        obtain ⟨e0, e1, e2, e3, e4, e5, e6, e7, e8, e9, e10⟩ := ee11 ((HL1.out.trans G.out).cells hcs)
        have L3 : Low w (wr.alloc (.cells #[.string q.e.u.t, .string q.e.u.i, .slice q.ap q.e.ps.length q.cp, .int .i64 q.e.a.h.k, .bool q.e.a.h.b, .int .i64 q.e.a.h.n, .string q.e.a.h.s, .string q.e.a.h.t, .string q.e.a.h.i, .slice q.ai q.e.a.l.length q.ci, .slice q.an q.e.a.ns.length q.cn] 39)) := Low.alloc (HL1.out.trans G.out) _
        have hcon := canE_c (qs.map Ee.sh) _ HNM.out b1 qs.length q.e.u q.e.ps q.e.a q.ap q.cp q.ai q.ci q.an q.cn (wr.alloc (.cells #[.string q.e.u.t, .string q.e.u.i, .slice q.ap q.e.ps.length q.cp, .int .i64 q.e.a.h.k, .bool q.e.a.h.b, .int .i64 q.e.a.h.n, .string q.e.a.h.s, .string q.e.a.h.t, .string q.e.a.h.i, .slice q.ai q.e.a.l.length q.ci, .slice q.an q.e.a.ns.length q.cn] 39)) (hq.1.any.low L3) (hq.2.low L3) hsm (by omega) ((HM1.out.mono (by simp)).block (by rw [(Low.alloc G.out _).2.2.2 _ HM1.out.lt]))
        change Calls _ _ _ _ (CanEP _ q.e _) at hcon
        unfold CanEP at hcon
        have hrs := Lib.hid hrl
        clear hrl
        have HSZ := Lib.hid (show B ≤ wr.heap.size by rw [HB.out]; exact G.out.size)
        have HEI := Lib.hid hei
        obtain ⟨er, her⟩ : ∃ er, er = errE canD (namesE (ensOf qs)) q.e := ⟨_, rfl⟩
        rw [← her] at hcon
        have HC := Lib.hid hcon
        have HER := Lib.hid her
        have LA := Lib.hid (show Low wr (wr.alloc (.cells #[.string q.e.u.t, .string q.e.u.i, .slice q.ap q.e.ps.length q.cp, .int .i64 q.e.a.h.k, .bool q.e.a.h.b, .int .i64 q.e.a.h.n, .string q.e.a.h.s, .string q.e.a.h.t, .string q.e.a.h.i, .slice q.ai q.e.a.l.length q.ci, .slice q.an q.e.a.ns.length q.cn] 39)) from Low.alloc (Low.refl wr) _)
        have HS2 := Lib.hid (show wr.heap.size ≤ (wr.alloc (.cells #[.string q.e.u.t, .string q.e.u.i, .slice q.ap q.e.ps.length q.cp, .int .i64 q.e.a.h.k, .bool q.e.a.h.b, .int .i64 q.e.a.h.n, .string q.e.a.h.s, .string q.e.a.h.t, .string q.e.a.h.i, .slice q.ai q.e.a.l.length q.ci, .slice q.an q.e.a.ns.length q.cn] 39)).heap.size by simp)
        clear hcs hq hsm hps hqq her hei L3 hcon
        go_wp2_with fail
        refine HC.out.mono ?_
        rintro e w2 ⟨y, rfl, hlow, hok⟩
        have L1 := Lib.hid (LA.out.trans hlow)
        have hsz1 : wr.heap.size ≤ w2.heap.size := L1.out.size
        by_cases h0 : er = 0
        · subst h0
          obtain ⟨hy, hyok⟩ := hok rfl
          have HY := Lib.hid hy
          have HYO := Lib.hid hyok
          have HO := Lib.hid (O.out.low L1.out)
          clear hok hlow hy hyok HC
          go_wp2_with (first
            | (at_builtin; refine appR rfl _ _ _ rfl Tryz.underlying22 e_info rfl (by decide) (by decide) encE_len encE_one B vr rs rfl ((HO.out.alloc _).alloc _) y ⟨w2.heap.size + 1, 0, none⟩ 1 rfl (fun j u hj => newcell_at _ _ _ _ _ rfl hj) (by have := hrs.out; omega) (by have := HSZ.out; show B ≤ ((w2.alloc _).alloc _).heap.size; simp; omega) ?_; intro v2 w3 h2 b2 k2 n2))
          have W1 := Lib.hid (Low.alloc (Low.alloc (Low.refl w2) (.cells #[.string y.e.u.t, .string y.e.u.i, .slice y.ap y.e.ps.length y.cp, .int .i64 y.e.a.h.k, .bool y.e.a.h.b, .int .i64 y.e.a.h.n, .string y.e.a.h.s, .string y.e.a.h.t, .string y.e.a.h.i, .slice y.ai y.e.a.l.length y.ci, .slice y.an y.e.a.ns.length y.cn] 39)) (.cells #[.string y.e.u.t, .string y.e.u.i, .slice y.ap y.e.ps.length y.cp, .int .i64 y.e.a.h.k, .bool y.e.a.h.b, .int .i64 y.e.a.h.n, .string y.e.a.h.s, .string y.e.a.h.t, .string y.e.a.h.i, .slice y.ai y.e.a.l.length y.ci, .slice y.an y.e.a.ns.length y.cn] 39))
          have hE := ee_step HSZ.out E.out L1.out W1.out (q := y) (EeOk.to (fun b hb _ => ⟨Nat.le_trans HS2.out hb, rfl⟩) HYO.out) O.out k2 n2
          have hL : Low w1 w3 := ((G.out.trans L1.out).trans W1.out).trans_below b2 (by rw [HB.out]; exact Nat.le_refl _)
          have HE := Lib.hid hE
          have HL2 := Lib.hid hL
          have H2 := Lib.hid h2
          have htk : (ensOf qs).take (i + 1) = (ensOf qs).take i ++ [q.e] := by rw [List.take_add_one, HEI.out]; rfl
          have HTK := Lib.hid htk
          clear hE hL h2 b2 k2 n2 htk
          go_wp2_with fail
          go_roundg (qs.length - (i + 1))
          case measure => omega
          case rel =>
            refine ⟨v2, i + 1, rs ++ [y], rfl, by go_num, by omega, by omega, HL2, H2, Lib.hid ?_, HE, Lib.hid ?_⟩
            · rw [HTK.out, List.map_append, ← K.out]
              unfold ensOf
              rw [List.map_append]
              simp [HY.out]
            · rw [HTK.out]
              intro e he
              rcases List.mem_append.1 he with h | h
              · exact Z.out e h
              · simp at h; rw [h]; exact HER.out.symm
        · have HH := Lib.hid h0
          have hcz : (er != 0) = true := by simpa using h0
          have hres : res = (er, []) := by
            have hli : i < (ensOf qs).length := by simpa [ensOf] using hlt
            have hge : (ensOf qs)[i] = q.e := by have := HEI.out; rw [List.getElem?_eq_getElem hli] at this; simpa using this
            have hL := errL_at canD hli Z.out (by rw [hge, ← HER.out]; exact h0)
            rw [hge, ← HER.out] at hL
            rw [HD.out, if_pos HN.out, hL, if_neg h0]
          have HRES := Lib.hid hres
          have LL := Lib.hid (LW.out.trans L1.out)
          clear hok hlow h0 hres HC
          go_wp2_with fail
          go_ret2
          rw [HRES.out]
          exact canLP_bad (Low.alloc LL.out _)
      · have zl : ¬ (i : Int) < (qs.length : Int) := by omega
        have hrs := Lib.hid (show rs.length ≤ 70000 by omega)
        clear hrl
        have ht : (ensOf qs).take i = ensOf qs := List.take_of_length_le (by unfold ensOf; rw [List.length_map]; omega)
        have hz := Z.out
        have hk := K.out
        rw [ht] at hz hk
        have hL := (errL_zero canD (names := namesE (ensOf qs))).2 hz
        have hres : res = (open Classical in if RoundE (ensOf qs) then (21, []) else (0, uniq cmpE ((ensOf qs).map (oneE canD)))) := by rw [HD.out, if_pos HN.out, if_pos hL]
        have HRES := Lib.hid hres
        have HK2 := Lib.hid hk
        have LW := Lib.hid (HL1.out.trans G.out)
        obtain ⟨ao2, cap2, rfl, hc1, hc2, -⟩ := O.out.shape
        have RC := Lib.hid (round_c (qs.map Ee.sh) (PE (ensOf qs)) wr (.slice ao qs.length c) (by simp; omega) (HQ.out.1.low LW.out) ((rowsE HQ.out.2 HF.out).low LW.out))
        clear hz hk hL hres ht
        go_wp2_with fail
        refine RC.out.mono ?_
        rintro e w2 ⟨p, rfl, hp, hlow⟩
        rw [round_word] at hp
        have HPW := Lib.hid hp
        have L2 := Lib.hid hlow
        clear hp hlow RC
        cases p with
        | true =>
          go_wp2_with fail
          go_ret2
          rw [HRES.out, if_pos (HPW.out.1 (by trivial))]
          exact canLP_bad (LW.out.trans L2.out)
        | false =>
          have SC := Lib.hid (sortE_c B (.slice ao2 rs.length cap2) rs w2 (O.out.low L2.out) hrs.out)
          unfold ordEV at SC
          go_wp2_with fail
          refine SC.out.mono ?_
          rintro e w3 ⟨rfl, rs', hperm, hsrt, O3, K3⟩
          have HP3 := Lib.hid hperm
          have HS3 := Lib.hid hsrt
          have HO3 := Lib.hid O3
          have HK3 := Lib.hid K3
          clear hperm hsrt O3 K3 SC
          go_wp2_with fail
          go_ret2
          have hnr : ¬ RoundE (ensOf qs) := fun h => by simpa using HPW.out.2 h
          rw [HRES.out, if_neg hnr]
          have hgB : ∀ g, (Value.slice ao2 rs.length cap2).ownBlock = some g → B ≤ g := fun g hg => (World.ownsRow.lt O.out g hg).1
          refine ⟨_, rfl, (LW.out.trans L2.out).kept HK3.out fun g hg => by have h1 := hgB g hg; have h2 := HL1.out.size; have h3 := HB.out; omega, rs', ?_, HO3.out.esAt, fun p hp => ?_⟩
          · show ensOf rs' = uniq cmpE ((ensOf qs).map (oneE canD))
            refine sorted_uniq (by rw [names_one]; exact HN.out) ?_ HS3.out
            rw [← HK2.out]
            exact HP3.out.map _
          · refine EeOk.to (fun b hb hlt => ⟨trivial, ?_⟩) (E.out p (HP3.out.mem_iff.1 hp))
            have h2 := L2.out.size
            exact (HK3.out.2.2.2 b (by omega) hb.2).trans (L2.out.2.2.2 b hlt)
end Go.Proofs.YtmkillbanmbafaaGreat
