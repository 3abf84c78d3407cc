/- Facts for the walk of entity.Canon: names that are there twice; rows of entities that the call makes itself. No condition. few and size of layer 5 answer: few's yes says that all rows are short and the depth is small. No condition. Lists of entities: 'small' says that all of it is short. No condition. entity.Canon: a list of entities as it must be, or refused. Condition: no more than 300 entities, of no more than 300 parents each. What conform.Store answers, by definition; entities as they must be: their attributes. No condition. The examples that awake asks of layer 13, as the definitions answer them. No condition. conform.Store: do entities conform to a schema? Condition: no more than 300 entities and actions, of no more than 300 above each; the schema's attributes may be; its actions as2 entities may be. -/
import Derived.Test.YtnenjgngahipdaaGreatZCanE
import Derived.Test.YtnenjgngahipdaaGreatZg03
import Derived.Deep.LoopGhost
import Derived.Lib.Hide
import Derived.Test.YtnenjgngahipdaaGreatZg09
import Derived.Test.YtnenjgngahipdaaGreatZg15
import Derived.Test.YtnenjgngahipdaaGreatZg22
import Derived.Test.YtnenjgngahipdaaGreatZg21
set_option linter.unusedVariables false
set_option linter.unusedSimpArgs false
set_option linter.unnecessarySimpa false
namespace Go.Proofs.YtnenjgngahipdaaGreat
open Go.RowKit Go.Sort Go.Maps
theorem nodup_or {α : Type} : ∀ l : List α, l.Nodup ∨ ∃ m : List α, m.length < l.length ∧ ∀ x ∈ l, x ∈ m
  | [] => .inl List.nodup_nil
  | x :: r => by
    by_cases hx : x ∈ r
    · exact .inr ⟨r, by simp, fun y hy => by
        rcases List.mem_cons.1 hy with rfl | h
        · exact hx
        · exact h⟩
    · rcases nodup_or r with h | ⟨m, h1, h2⟩
      · exact .inl (List.nodup_cons.2 ⟨hx, h⟩)
      · exact .inr ⟨x :: m, by simpa using h1, fun y hy => by
          rcases List.mem_cons.1 hy with rfl | h
          · simp
          · exact List.mem_cons_of_mem _ (h2 y h)⟩
/-- As many as a map has keys: all, or fewer just if some name is there twice. -/
theorem keys_lenv {ks names : List Us} (hk : ks.Nodup) (h : ∀ x, x ∈ ks ↔ x ∈ names) : (names.Nodup → ks.length = names.length) ∧ (¬ names.Nodup → ks.length < names.length) := by
  refine ⟨fun hn => ?_, fun hn => ?_⟩
  · exact Nat.le_antisymm (len_sub _ _ hk fun x hx => (h x).1 hx) (len_sub _ _ hn fun x hx => (h x).2 hx)
  · rcases nodup_or names with h1 | ⟨m, h1, h2⟩
    · exact absurd h1 hn
    · exact Nat.lt_of_le_of_lt (len_sub _ m hk fun x hx => h2 x ((h x).1 hx)) h1
/-- Behind an append the elements that lay apart from the row lie apart still; the new one too. -/
theorem ee_step {B : Nat} {wr w1 W w2 : World} {v v2 : Value} {rs : List Ee} {q : Ee} (hsz : B ≤ wr.heap.size) (E : ∀ p ∈ rs, EeOk (fun b => B ≤ b ∧ some b ≠ v.ownBlock) wr p) (L1 : Low wr w1) (LW : Low w1 W)
    (hq : EeOk (fun b => wr.heap.size ≤ b) w1 q) (O : OwnE B wr v rs) (k2 : ∀ b, b < W.heap.size → some b ≠ v.ownBlock → w2.heap[b]? = W.heap[b]?) (n2 : v2.ownBlock = v.ownBlock ∨ ∀ g, v2.ownBlock = some g → W.heap.size ≤ g) :
    ∀ p ∈ rs ++ [q], EeOk (fun b => B ≤ b ∧ some b ≠ v2.ownBlock) w2 p := by
  have hv : ∀ g, v.ownBlock = some g → g < wr.heap.size := fun g hg => (World.ownsRow.lt O g hg).2
  have s1 := L1.size
  have s2 := LW.size
  have key : ∀ b, b < w1.heap.size → some b ≠ v.ownBlock → some b ≠ v2.ownBlock ∧ w2.heap[b]? = w1.heap[b]? := fun b hb hne => by
    refine ⟨?_, (k2 b (by omega) hne).trans (LW.2.2.2 b hb)⟩
    rcases n2 with h | h
    · rw [h]; exact hne
    · intro e
      have := h b e.symm
      omega
  intro p hp
  rcases List.mem_append.1 hp with hp | hp
  · refine EeOk.to (fun b ha hb => ?_) (E p hp)
    obtain ⟨h1, h2⟩ := key b (by omega) ha.2
    exact ⟨⟨ha.1, h1⟩, h2.trans (L1.2.2.2 b hb)⟩
  · simp at hp
    subst hp
    refine EeOk.to (fun b ha hb => ?_) hq
    obtain ⟨h1, h2⟩ := key b hb fun e => by have := hv b e.symm; omega
    exact ⟨⟨by omega, h1⟩, h2⟩
/-- Entities of different names, sorted: as they must be. -/
theorem sorted_uniq {l m : List En} (hn : (namesE l).Nodup) (hp : m.Perm l) (hs : Sorted cmpE m) : m = uniq cmpE l := by
  have hm : (namesE m).Nodup := (names_perm hp.symm).nodup_iff.1 hn
  have hr : Rises cmpE m := by
    unfold namesE at hm
    rw [List.nodup_iff_pairwise_ne, List.pairwise_map] at hm
    unfold Sorted at hs
    refine (hs.and hm).imp fun {a b} hab => ?_
    have h1 : ¬ cmpE b a < 0 := hab.1
    have h2 : cmpE b a ≠ 0 := fun e => hab.2 (us_zero e).symm
    have h3 : cmpE a b = - cmpE b a := good_en.anti b a trivial trivial
    omega
  refine en_unique hr (rise_en hn) fun z => ?_
  rw [mem_en hn]
  exact hp.mem_iff
end Go.Proofs.YtnenjgngahipdaaGreat
namespace Go.Proofs.YtnenjgngahipdaaGreat
open Go.RowKit Go.Sort
theorem ee11 {w : World} {b o : Nat} {q : Ee} (h : CellsAtv w b o q.sh.cs) :
    w.cell? ⟨b, o, none⟩ = some (.string q.e.u.t) ∧ w.cell? ⟨b, o + 1, none⟩ = some (.string q.e.u.i) ∧ w.cell? ⟨b, o + 2, none⟩ = some (.slice q.ap q.e.ps.length q.cp) ∧ w.cell? ⟨b, o + 3, none⟩ = some (.int .i64 q.e.a.h.k) ∧
    w.cell? ⟨b, o + 4, none⟩ = some (.bool q.e.a.h.b) ∧ w.cell? ⟨b, o + 5, none⟩ = some (.int .i64 q.e.a.h.n) ∧ w.cell? ⟨b, o + 6, none⟩ = some (.string q.e.a.h.s) ∧ w.cell? ⟨b, o + 7, none⟩ = some (.string q.e.a.h.t) ∧
    w.cell? ⟨b, o + 8, none⟩ = some (.string q.e.a.h.i) ∧ w.cell? ⟨b, o + 9, none⟩ = some (.slice q.ai q.e.a.l.length q.ci) ∧ w.cell? ⟨b, o + 10, none⟩ = some (.slice q.an q.e.a.ns.length q.cn) := cells11 h
end Go.Proofs.YtnenjgngahipdaaGreat
namespace Go.Proofs.YtnenjgngahipdaaGreat
open Go.RowKit Go.Sort Go.Maps
/-- What Canon answers. -/
def CanLP (p : Int × List En) (w : World) (e : Ending) (w' : World) : Prop := ∃ v, e = .returned (.tuple #[v, .int .i64 p.1]) ∧ Low w w' ∧ ∃ rs : List Ee, ensOf rs = p.2 ∧ EtAt w' v rs
theorem et_nil (w : World) : EtAt w (.slice none 0 0) [] := ⟨⟨none, 0, rfl, ⟨by simp, by simp⟩, fun j hj => by simp at hj⟩, fun q hq => by simp at hq⟩
theorem canLP_bad {w w' : World} {c : Int} (h : Low w w') : CanLP (c, []) w (.returned (.tuple #[.slice none 0 0, .int .i64 c])) w' := ⟨_, rfl, h, [], rfl, et_nil _⟩
set_option maxHeartbeats 8000000 in
set_option maxRecDepth 100000 in
theorem eCanon_c (qs : List Ee) (w : World) (r : Value) (h : EtAt w r qs) (hf : FewE (ensOf qs)) (hs : ∀ q ∈ qs, Smv q.e.a) : Calls Tryz.prog 43 #[r] w (CanLP (canE canD (ensOf qs)) w) := by
  have hpar := par_c (qs.map Ee.sh) w r h.1
  obtain ⟨ao, c, rfl, ⟨hlc, hc9⟩, hx⟩ := h.at
  have hq3 : qs.length ≤ 300 := by have := hf.1; unfold ensOf at this; rwa [List.length_map] at this
  have z1 : (qs.length : Int) ≤ 4096 := by omega
  have zd : decide ((4096 : Int) < (qs.length : Int)) = false := by simp; omega
  have hel : (ensOf qs).length = qs.length := by simp [ensOf]
  have hdef : canE canD (ensOf qs) = if (namesE (ensOf qs)).Nodup then (if errL canD (namesE (ensOf qs)) (ensOf qs) = 0 then (open Classical in if RoundE (ensOf qs) then (21, []) else (0, uniq cmpE ((ensOf qs).map (oneE canD)))) else (errL canD (namesE (ensOf qs)) (ensOf qs), [])) else (13, []) := by
    unfold canE; rw [if_neg (by rw [hel]; omega)]
  obtain ⟨res, hres⟩ : ∃ res, res = canE canD (ensOf qs) := ⟨_, rfl⟩
  rw [← hres] at hdef ⊢
  have HD := Lib.hid hdef
  have HX := Lib.hid hx
  have HQ := Lib.hid h
  have HF := Lib.hid hf
  have HS := Lib.hid hs
  have HP := Lib.hid hpar
  clear hx h hf hs hpar hel hdef hres
  go_enter Tryz.func43, Tryz.ntmps43
  go_wp2_with fail
  refine HP.out.mono ?_
  rintro e w1 ⟨b1, rfl, hb1, M1, L1⟩
  have HM1 := Lib.hid M1
  have HL1 := Lib.hid L1
  clear M1 L1 HP
  have hkn : ∀ ks : List Us, ks.Nodup → (∀ x, x ∈ ks ↔ (fS (qs.map Ee.sh) x).isSome = true) → ((namesE (ensOf qs)).Nodup → ks.length = qs.length) ∧ (¬ (namesE (ensOf qs)).Nodup → ks.length < qs.length) := fun ks hk hm => by
    have h1 := keys_lenv (names := namesE (ensOf qs)) hk fun x => (hm x).trans fS_names
    rwa [show (namesE (ensOf qs)).length = qs.length by simp [namesE, ensOf]] at h1
  by_cases hnd : (namesE (ensOf qs)).Nodup
  case neg =>
    have HK := Lib.hid fun (ks : List Us) (hk : ks.Nodup) (hm : ∀ x, x ∈ ks ↔ (fS (qs.map Ee.sh) x).isSome = true) => (show (ks.length : Int) < (qs.length : Int) by have := (hkn ks hk hm).2 hnd; omega)
    have HR := Lib.hid (show res = (13, []) by rw [HD.out, if_neg hnd])
    clear hnd hkn
    go_wp2_with (at_len; refine at_size rfl _ _ rfl Tryz.underlying105 rfl HM1.out ?_; intro ks hk hm; have zk := HK.out ks hk hm; clear hk hm)
    go_ret2
    rw [HR.out]
    exact canLP_bad HL1.out
  case pos =>
    have HK := Lib.hid fun (ks : List Us) (hk : ks.Nodup) (hm : ∀ x, x ∈ ks ↔ (fS (qs.map Ee.sh) x).isSome = true) => (show ¬ (ks.length : Int) < (qs.length : Int) ∧ decide (ks.length < qs.length) = false by have := (hkn ks hk hm).1 hnd; exact ⟨by omega, by simp; omega⟩)
    have HN := Lib.hid hnd
    clear hnd hkn
    go_wp2_with (at_len; refine at_size rfl _ _ rfl Tryz.underlying105 rfl HM1.out ?_; intro ks hk hm; obtain ⟨zk, zn⟩ := HK.out ks hk hm; clear hk hm)
    clear zk zn HK
    obtain ⟨B, hB⟩ : ∃ B, B = w1.heap.size := ⟨_, rfl⟩
    have HB := Lib.hid hB
    have HNM := Lib.hid (show ∀ x, x ∈ namesE (ensOf qs) ↔ (fS (qs.map Ee.sh) x).isSome = true from fun x => fS_names.symm)
    clear hB
    go_loopg [5, 22] qs.length (fun gk vs vi wr => ∃ (vr : Value) (i : Nat) (rs : List Ee), vr = vs ∧ vi = .int .i64 (i : Int) ∧ i ≤ qs.length ∧ qs.length - i ≤ gk ∧ Hid (Low w1 wr) ∧ Hid (OwnE B wr vr rs) ∧ Hid (ensOf rs = ((ensOf qs).take i).map (oneE canD)) ∧ Hid (∀ p ∈ rs, EeOk (fun b => B ≤ b ∧ some b ≠ vr.ownBlock) wr p) ∧ Hid (∀ e ∈ (ensOf qs).take i, errE canD (namesE (ensOf qs)) e = 0))
    case atStart => exact ⟨_, 0, [], rfl, rfl, Nat.zero_le _, Nat.le_refl _, Lib.hid (Low.refl _), Lib.hid (OwnR.nil _ _ _ _ _), Lib.hid rfl, Lib.hid fun p hp => by simp at hp, Lib.hid fun e he => by simp at he⟩
    case round =>
      obtain ⟨vr, i, rs, rfl, rfl, hi, hg, G, O, K, E, Z⟩ := hrel
      have hrl : rs.length = i := by have := congrArg List.length K.out; simpa [ensOf, hi] using this
      by_cases hlt : i < qs.length
      · have zl : (i : Int) < (qs.length : Int) := by omega
        obtain ⟨b, o, rfl, hcs⟩ := HX.out i hlt
        have hq := HQ.out.2 qs[i] (List.getElem_mem hlt)
        have hsm := HS.out qs[i] (List.getElem_mem hlt)
        have hps : qs[i].e.ps.length ≤ 300 := HF.out.2 qs[i].e (by unfold ensOf; exact List.mem_map_of_mem (List.getElem_mem hlt))
        have hei : (ensOf qs)[i]? = some qs[i].e := by unfold ensOf; simp [hlt]
        obtain ⟨q, hqq⟩ : ∃ q, qs[i] = q := ⟨_, rfl⟩
        rw [hqq] at hcs hq hsm hps hei
        have LW := Lib.hid (HL1.out.trans G.out)
        obtain ⟨e0, e1, e2, e3, e4, e5, e6, e7, e8, e9, e10⟩ := ee11 ((HL1.out.trans G.out).cells hcs)
        have L3 : Low w (wr.alloc (.cells #[.string q.e.u.t, .string q.e.u.i, .slice q.ap q.e.ps.length q.cp, .int .i64 q.e.a.h.k, .bool q.e.a.h.b, .int .i64 q.e.a.h.n, .string q.e.a.h.s, .string q.e.a.h.t, .string q.e.a.h.i, .slice q.ai q.e.a.l.length q.ci, .slice q.an q.e.a.ns.length q.cn] 71)) := Low.alloc (HL1.out.trans G.out) _
        have hcon := canE_c (qs.map Ee.sh) _ HNM.out b1 qs.length q.e.u q.e.ps q.e.a q.ap q.cp q.ai q.ci q.an q.cn (wr.alloc (.cells #[.string q.e.u.t, .string q.e.u.i, .slice q.ap q.e.ps.length q.cp, .int .i64 q.e.a.h.k, .bool q.e.a.h.b, .int .i64 q.e.a.h.n, .string q.e.a.h.s, .string q.e.a.h.t, .string q.e.a.h.i, .slice q.ai q.e.a.l.length q.ci, .slice q.an q.e.a.ns.length q.cn] 71)) (hq.1.any.low L3) (hq.2.low L3) hsm (by omega) ((HM1.out.mono (by simp)).block (by rw [(Low.alloc G.out _).2.2.2 _ HM1.out.lt]))
        change Calls _ _ _ _ (CanEP _ q.e _) at hcon
        unfold CanEP at hcon
        have hrs := Lib.hid hrl
        clear hrl
        have HSZ := Lib.hid (show B ≤ wr.heap.size by rw [HB.out]; exact G.out.size)
        have HEI := Lib.hid hei
        obtain ⟨er, her⟩ : ∃ er, er = errE canD (namesE (ensOf qs)) q.e := ⟨_, rfl⟩
        rw [← her] at hcon
        have HC := Lib.hid hcon
        have HER := Lib.hid her
        have LA := Lib.hid (show Low wr (wr.alloc (.cells #[.string q.e.u.t, .string q.e.u.i, .slice q.ap q.e.ps.length q.cp, .int .i64 q.e.a.h.k, .bool q.e.a.h.b, .int .i64 q.e.a.h.n, .string q.e.a.h.s, .string q.e.a.h.t, .string q.e.a.h.i, .slice q.ai q.e.a.l.length q.ci, .slice q.an q.e.a.ns.length q.cn] 71)) from Low.alloc (Low.refl wr) _)
        have HS2 := Lib.hid (show wr.heap.size ≤ (wr.alloc (.cells #[.string q.e.u.t, .string q.e.u.i, .slice q.ap q.e.ps.length q.cp, .int .i64 q.e.a.h.k, .bool q.e.a.h.b, .int .i64 q.e.a.h.n, .string q.e.a.h.s, .string q.e.a.h.t, .string q.e.a.h.i, .slice q.ai q.e.a.l.length q.ci, .slice q.an q.e.a.ns.length q.cn] 71)).heap.size by simp)
        clear hcs hq hsm hps hqq her hei L3 hcon
        go_wp2_with fail
        refine HC.out.mono ?_
        rintro e w2 ⟨y, rfl, hlow, hok⟩
        have L1 := Lib.hid (LA.out.trans hlow)
        have hsz1 : wr.heap.size ≤ w2.heap.size := L1.out.size
        by_cases h0 : er = 0
        · subst h0
          obtain ⟨hy, hyok⟩ := hok rfl
          have HY := Lib.hid hy
          have HYO := Lib.hid hyok
          have HO := Lib.hid (O.out.low L1.out)
          clear hok hlow hy hyok HC
          go_wp2_with (first
            | (at_builtin; refine appR rfl _ _ _ rfl Tryz.underlying47 e_info rfl (by decide) (by decide) encE_len encE_one B vr rs rfl ((HO.out.alloc _).alloc _) y ⟨w2.heap.size + 1, 0, none⟩ 1 rfl (fun j u hj => newcell_at _ _ _ _ _ rfl hj) (by have := hrs.out; omega) (by have := HSZ.out; show B ≤ ((w2.alloc _).alloc _).heap.size; simp; omega) ?_; intro v2 w3 h2 b2 k2 n2))
          have W1 := Lib.hid (Low.alloc (Low.alloc (Low.refl w2) (.cells #[.string y.e.u.t, .string y.e.u.i, .slice y.ap y.e.ps.length y.cp, .int .i64 y.e.a.h.k, .bool y.e.a.h.b, .int .i64 y.e.a.h.n, .string y.e.a.h.s, .string y.e.a.h.t, .string y.e.a.h.i, .slice y.ai y.e.a.l.length y.ci, .slice y.an y.e.a.ns.length y.cn] 71)) (.cells #[.string y.e.u.t, .string y.e.u.i, .slice y.ap y.e.ps.length y.cp, .int .i64 y.e.a.h.k, .bool y.e.a.h.b, .int .i64 y.e.a.h.n, .string y.e.a.h.s, .string y.e.a.h.t, .string y.e.a.h.i, .slice y.ai y.e.a.l.length y.ci, .slice y.an y.e.a.ns.length y.cn] 71))
          have hE := ee_step HSZ.out E.out L1.out W1.out (q := y) (EeOk.to (fun b hb _ => ⟨Nat.le_trans HS2.out hb, rfl⟩) HYO.out) O.out k2 n2
          have hL : Low w1 w3 := ((G.out.trans L1.out).trans W1.out).trans_below b2 (by rw [HB.out]; exact Nat.le_refl _)
          have HE := Lib.hid hE
          have HL2 := Lib.hid hL
          have H2 := Lib.hid h2
          have htk : (ensOf qs).take (i + 1) = (ensOf qs).take i ++ [q.e] := by rw [List.take_add_one, HEI.out]; rfl
          have HTK := Lib.hid htk
          clear hE hL h2 b2 k2 n2 htk
          go_wp2_with fail
          go_roundg (qs.length - (i + 1))
          case measure => omega
          case rel =>
            refine ⟨v2, i + 1, rs ++ [y], rfl, by go_num, by omega, by omega, HL2, H2, Lib.hid ?_, HE, Lib.hid ?_⟩
            · rw [HTK.out, List.map_append, ← K.out]
              unfold ensOf
              rw [List.map_append]
              simp [HY.out]
            · rw [HTK.out]
              intro e he
              rcases List.mem_append.1 he with h | h
              · exact Z.out e h
              · simp at h; rw [h]; exact HER.out.symm
        · have HH := Lib.hid h0
          have hcz : (er != 0) = true := by simpa using h0
          have hres : res = (er, []) := by
            have hli : i < (ensOf qs).length := by simpa [ensOf] using hlt
            have hge : (ensOf qs)[i] = q.e := by have := HEI.out; rw [List.getElem?_eq_getElem hli] at this; simpa using this
            have hL := errL_at canD hli Z.out (by rw [hge, ← HER.out]; exact h0)
            rw [hge, ← HER.out] at hL
            rw [HD.out, if_pos HN.out, hL, if_neg h0]
          have HRES := Lib.hid hres
          have LL := Lib.hid (LW.out.trans L1.out)
          clear hok hlow h0 hres HC
          go_wp2_with fail
          go_ret2
          rw [HRES.out]
          exact canLP_bad (Low.alloc LL.out _)
      · have zl : ¬ (i : Int) < (qs.length : Int) := by omega
        have hrs := Lib.hid (show rs.length ≤ 70000 by omega)
        clear hrl
        have ht : (ensOf qs).take i = ensOf qs := List.take_of_length_le (by unfold ensOf; rw [List.length_map]; omega)
        have hz := Z.out
        have hk := K.out
        rw [ht] at hz hk
        have hL := (errL_zero canD (names := namesE (ensOf qs))).2 hz
        have hres : res = (open Classical in if RoundE (ensOf qs) then (21, []) else (0, uniq cmpE ((ensOf qs).map (oneE canD)))) := by rw [HD.out, if_pos HN.out, if_pos hL]
        have HRES := Lib.hid hres
        have HK2 := Lib.hid hk
        have LW := Lib.hid (HL1.out.trans G.out)
        obtain ⟨ao2, cap2, rfl, hc1, hc2, -⟩ := O.out.shape
        have RC := Lib.hid (round_cv (qs.map Ee.sh) (PE (ensOf qs)) wr (.slice ao qs.length c) (by simp; omega) (HQ.out.1.low LW.out) ((rowsE HQ.out.2 HF.out).low LW.out))
        clear hz hk hL hres ht
        go_wp2_with fail
        refine RC.out.mono ?_
        rintro e w2 ⟨p, rfl, hp, hlow⟩
        rw [round_word] at hp
        have HPW := Lib.hid hp
        have L2 := Lib.hid hlow
        clear hp hlow RC
        cases p with
        | true =>
          go_wp2_with fail
          go_ret2
          rw [HRES.out, if_pos (HPW.out.1 (by trivial))]
          exact canLP_bad (LW.out.trans L2.out)
        | false =>
          have SC := Lib.hid (sortE_c B (.slice ao2 rs.length cap2) rs w2 (O.out.low L2.out) hrs.out)
          unfold ordEV at SC
          go_wp2_with fail
          refine SC.out.mono ?_
          rintro e w3 ⟨rfl, rs', hperm, hsrt, O3, K3⟩
          have HP3 := Lib.hid hperm
          have HS3 := Lib.hid hsrt
          have HO3 := Lib.hid O3
          have HK3 := Lib.hid K3
          clear hperm hsrt O3 K3 SC
          go_wp2_with fail
          go_ret2
          have hnr : ¬ RoundE (ensOf qs) := fun h => by simpa using HPW.out.2 h
          rw [HRES.out, if_neg hnr]
          have hgB : ∀ g, (Value.slice ao2 rs.length cap2).ownBlock = some g → B ≤ g := fun g hg => (World.ownsRow.lt O.out g hg).1
          refine ⟨_, rfl, (LW.out.trans L2.out).kept HK3.out fun g hg => by have h1 := hgB g hg; have h2 := HL1.out.size; have h3 := HB.out; omega, rs', ?_, HO3.out.esAt, fun p hp => ?_⟩
          · show ensOf rs' = uniq cmpE ((ensOf qs).map (oneE canD))
            refine sorted_uniq (by rw [names_one]; exact HN.out) ?_ HS3.out
            rw [← HK2.out]
            exact HP3.out.map _
          · refine EeOk.to (fun b hb hlt => ⟨trivial, ?_⟩) (E.out p (HP3.out.mem_iff.1 hp))
            have h2 := L2.out.size
            exact (HK3.out.2.2.2 b (by omega) hb.2).trans (L2.out.2.2.2 b hlt)
end Go.Proofs.YtnenjgngahipdaaGreat
namespace Go.Proofs.YtnenjgngahipdaaGreat
open Go.RowKit
set_option linter.unusedVariables false
theorem canE_okk {l : List En} (h : (canE canD l).1 = 0) : (canE canD l).2 = uniq cmpE (l.map (oneE canD)) ∧ (namesE l).Nodup ∧ ∀ e ∈ l, errE canD (namesE l) e = 0 := by
  unfold canE at h ⊢
  by_cases h1 : 4096 < l.length
  · rw [if_pos h1] at h; simp at h
  rw [if_neg h1] at h ⊢
  by_cases h2 : (namesE l).Nodup
  · rw [if_pos h2] at h ⊢
    by_cases h3 : errL canD (namesE l) l = 0
    · rw [if_pos h3] at h ⊢
      by_cases h4 : RoundE l
      · rw [if_pos h4] at h; simp at h
      · rw [if_neg h4]
        exact ⟨rfl, h2, (errL_zero canD).1 h3⟩
    · rw [if_neg h3] at h; exact absurd h h3
  · rw [if_neg h2] at h; simp at h
theorem errE_zero {names : List Us} {e : En} (h : errE canD names e = 0) : e.a.h.k = 6 ∧ (canD e.a).1 = 0 ∧ ∀ p ∈ e.ps, p ∈ names := by
  unfold errE at h
  by_cases h1 : e.a.h.k = 6
  · rw [if_neg (by simpa using h1)] at h
    by_cases h2 : (canD e.a).1 = 0
    · rw [if_neg (by simpa using h2)] at h
      by_cases h3 : e.ps.all (fun p => decide (p ∈ names)) = true
      · refine ⟨h1, h2, fun p hp => ?_⟩
        simpa using List.all_eq_true.1 h3 p hp
      · rw [if_neg h3] at h; simp at h
    · rw [if_pos (by simpa using h2)] at h; exact absurd h h2
  · rw [if_pos (by simpa using h1)] at h; simp at h
/-- Each entity as it must be is some entity's. -/
theorem canE_mem {l : List En} (h : (canE canD l).1 = 0) {e : En} (he : e ∈ (canE canD l).2) : ∃ e0 ∈ l, e = oneE canD e0 ∧ (canD e0.a).1 = 0 := by
  obtain ⟨h1, h2, h3⟩ := canE_okk h
  rw [h1] at he
  obtain ⟨e0, h4, rfl⟩ := List.mem_map.1 (uniq_sub he)
  exact ⟨e0, h4, rfl, (errE_zero (h3 e0 h4)).2.1⟩
theorem canE_okv {l : List En} (h : (canE canD l).1 = 0) {e : En} (he : e ∈ (canE canD l).2) : Okv e.a := by
  obtain ⟨e0, -, rfl, h1⟩ := canE_mem h he
  exact canD_okv h1
theorem canE_cn {l : List En} (h : (canE canD l).1 = 0) {e : En} (he : e ∈ (canE canD l).2) : Cn e.a := by
  obtain ⟨e0, -, rfl, h1⟩ := canE_mem h he
  exact canD_cn h1
theorem canE_len {l : List En} (h : (canE canD l).1 = 0) : (canE canD l).2.length ≤ l.length := by
  rw [(canE_okk h).1]
  have := uniq_len (c := cmpE) (l.map (oneE canD))
  rwa [List.length_map] at this
/-- What Store tells. -/
noncomputable def storeS (n : Nat) (ts : List Et) (acs : List Ac) (es : List En) : Int :=
  if (canE canD es).1 = 0 then (if (sameL ((canE canD es).2.filter isAct) (canE canD (actsE acs)).2 && ((canE canD es).2.filter fun e => !isAct e).all (standB n ts)) = true then 0 else 41) else (canE canD es).1
theorem few_acts {acs : List Ac} (h1 : acs.length ≤ 300) (h2 : ∀ a ∈ acs, a.ins.length ≤ 300) : FewE (actsE acs) := by
  unfold FewE actsE
  refine ⟨by rw [List.length_map]; exact h1, fun e he => ?_⟩
  obtain ⟨a, ha, rfl⟩ := List.mem_map.1 he
  show (a.ins.map uAct).length ≤ 300
  rw [List.length_map]
  exact h2 a ha
theorem recV_sm : Smv recV := by rw [sm_v]; exact ⟨by decide, by decide, fun x hx => by simp [recV, V.l] at hx⟩
theorem acts_a {acs : List Ac} {e : En} (h : e ∈ actsE acs) : e.a = recV := by
  unfold actsE at h
  obtain ⟨a, -, rfl⟩ := List.mem_map.1 h
  rfl
theorem ens_mem {rs : List Ee} {q : Ee} (h : q ∈ rs) : q.e ∈ ensOf rs := by unfold ensOf; exact List.mem_map.2 ⟨q, h, rfl⟩
end Go.Proofs.YtnenjgngahipdaaGreat
namespace Go.Proofs.YtnenjgngahipdaaGreat
open Go.RowKit
set_option linter.unusedVariables false
def nmUser : Nm := ⟨⟨#[85, 115, 101, 114]⟩, by decide⟩
def nmV : Nm := ⟨⟨#[118]⟩, by decide⟩
def etU : Et := ⟨nmUser, [], []⟩
def acV : Ac := ⟨nmV, [], [nmUser], [nmUser], []⟩
def usA : Us := ⟨⟨#[85, 115, 101, 114]⟩, ⟨#[97]⟩, by decide, by decide⟩
def enU : En := ⟨usA, [], recV⟩
def v2 : V := .mk { hd0 with k := 2 } [] []
theorem can_recV : canD recV = (0, recV) := by kernel_rfl
theorem can_v2 : canD v2 = (0, v2) := by kernel_rfl
theorem val_1 : valS 1 v2 (.mk 4 ⟨#[]⟩ [] []) = true := by unfold valS; rw [can_v2]; rfl
theorem val_2 : valS 1 v2 (.mk 5 ⟨#[]⟩ [] []) = false := by unfold valS; rw [can_v2]; rfl
theorem sm_v2 : Smv v2 := by rw [sm_v]; exact ⟨by decide, by decide, fun x hx => by simp [v2, V.l] at hx⟩
/-- Without a step there is no way round. -/
theorem no_round {l : List En} (h : ∀ e ∈ l, e.ps = []) : ¬ RoundE l := by
  rintro ⟨x, hw⟩
  have key : ∀ {a b : Us}, Way (stepE l) a b → False := fun h2 => by
    have hs : ∀ {a b : Us}, ¬ stepE l a b := fun {a b} ⟨_, h3, _⟩ => by
      have : PE l a = [] := by
        unfold PE
        cases e : fstE l a with
        | none => rfl
        | some q => exact h q (List.mem_of_find?_eq_some e)
      rw [this] at h3; simp at h3
    cases h2 with
    | one h => exact hs h
    | more _ h => exact hs h
  exact key hw
theorem errE_rec {names : List Us} {u : Us} : errE canD names ⟨u, [], recV⟩ = 0 := by
  unfold errE
  rw [if_neg (by show ¬ (6 : Int) ≠ 6; decide), if_neg (by show ¬ (canD recV).1 ≠ 0; rw [can_recV]; simp), if_pos (by rfl)]
theorem can_plain {l : List En} (hl : l.length ≤ 4096) (hn : (namesE l).Nodup) (h : ∀ e ∈ l, e.ps = [] ∧ e.a = recV) : canE canD l = (0, uniq cmpE l) := by
  unfold canE
  rw [if_neg (by omega), if_pos hn, if_pos, if_neg (no_round fun e he => (h e he).1)]
  · have : l.map (oneE canD) = l := by
      conv => rhs; rw [← List.map_id l]
      refine List.map_congr_left fun e he => ?_
      obtain ⟨h1, h2⟩ := h e he
      obtain ⟨u, ps, a⟩ := e
      simp only at h1 h2
      subst h1 h2
      show (⟨u, canU [], (canD recV).2⟩ : En) = _
      rw [can_recV]
      rfl
    rw [this]
  · rw [errL_zero]
    intro e he
    obtain ⟨h1, h2⟩ := h e he
    obtain ⟨u, ps, a⟩ := e
    simp only at h1 h2
    subst h1 h2
    exact errE_rec
theorem can_a : canE canD (actsE [acV]) = (0, [actE acV]) := by
  rw [can_plain (by decide) (by decide) (fun e he => by simp [actsE] at he; subst he; exact ⟨rfl, rfl⟩)]
  rfl
theorem can_b : canE canD [actE acV, enU] = (0, [actE acV, enU]) := by
  rw [can_plain (by decide) (by decide) (fun e he => by simp at he; rcases he with rfl | rfl <;> exact ⟨rfl, rfl⟩)]
  have : uniq cmpE [actE acV, enU] = [actE acV, enU] := by kernel_rfl
  rw [this]
theorem can_c : canE canD [enU] = (0, [enU]) := by
  rw [can_plain (by decide) (by decide) (fun e he => by simp at he; subst he; exact ⟨rfl, rfl⟩)]
  rfl
theorem act_a : isAct (actE acV) = true := by decide
theorem act_b : isAct enU = false := by decide
theorem store_1 : storeS 1 [etU] [acV] [actE acV, enU] = 0 := by
  unfold storeS
  rw [can_b, can_a]
  have h1 : [actE acV, enU].filter isAct = [actE acV] := by simp [act_a, act_b]
  have h2 : ([actE acV, enU].filter fun e => !isAct e) = [enU] := by simp [act_a, act_b]
  have h3 : standB 1 [etU] enU = true := by kernel_rfl
  have h4 : sameL [actE acV] [actE acV] = true := by kernel_rfl
  simp only [h1, h2, h4, List.all_cons, List.all_nil, h3]
  rfl
theorem store_2 : storeS 1 [etU] [acV] [enU] = 41 := by
  unfold storeS
  rw [can_c, can_a]
  have h1 : [enU].filter isAct = [] := by simp [act_b]
  have h4 : sameL [] [actE acV] = false := rfl
  simp only [h1, h4, Bool.false_and]
  rfl
theorem req_1 : reqS 1 [acV] actNm nmV.s nmUser.s nmUser.s recV = 0 := by
  unfold reqS
  have h1 : [acV].find? (fun a => eqN nmV.s a.nm) = some acV := by kernel_rfl
  have h2 : hasN acV.ps nmUser.s = true := by kernel_rfl
  have h3 : hasN acV.rs nmUser.s = true := by kernel_rfl
  have h4 : isV 2 recV (recT acV.ats) = true := by kernel_rfl
  rw [h1]
  show (if actNm = actNm ∧ hasN acV.ps nmUser.s = true ∧ hasN acV.rs nmUser.s = true then (if (canD recV).1 = 0 then (if isV (1 + 1) (canD recV).2 (recT acV.ats) = true then (0 : Int) else 41) else (canD recV).1) else 41) = 0
  rw [if_pos ⟨rfl, h2, h3⟩, can_recV, if_pos rfl, if_pos h4]
end Go.Proofs.YtnenjgngahipdaaGreat
namespace Go.Proofs.YtnenjgngahipdaaGreat
open Go.RowKit
set_option linter.unusedVariables false
theorem allStore (n : Nat) (ts : List Et) (l : List Ee) (x0 : Nat) (w : World) (v vt va : Value) (h : EtAt w v l) (ht : EtsAt n w ts vt) (hva : ∃ p m c, va = .slice p m c) (hm : ∀ t ∈ ts, mayB (n + 1) (recT t.ats) = true) (ho : ∀ q ∈ l, Okv q.e.a) (c0 : w.cell? ⟨x0, 0, none⟩ = some vt) (c1 : w.cell? ⟨x0, 1, none⟩ = some va) :
    Calls Tryz.prog 47 #[v, .func (.func 48) #[] #[.pointer (some ⟨x0, 0, none⟩)]] w fun e w' => e = .returned (.bool (l.all fun q => standB n ts q.e)) ∧ Low w w' := by
  refine allE_c l (fun q => standB n ts q.e) x0 w v h fun j hj W hlW hx => ?_
  obtain ⟨x, hxx⟩ : ∃ x, x = l[j] := ⟨_, rfl⟩
  have h1 := ho l[j] (List.getElem_mem hj)
  rw [← hxx] at hx h1 ⊢
  have := storef_c n ts x x0 W vt va (ht.low hlW) hva hm hx h1 (hlW.keep c0) (hlW.keep c1)
  unfold eeV at this
  exact this
set_option maxHeartbeats 12800000 in
set_option maxRecDepth 100000 in
theorem store_c (n : Nat) (ts : List Et) (acs : List Ac) (qs : List Ee) (w : World) (vt va vl : Value) (h : EtsAt n w ts vt) (h2 : AcsAt n w acs va) (hq : EtAt w vl qs) (hf : FewE (ensOf qs)) (hs : ∀ q ∈ qs, Smv q.e.a) (hm : ∀ t ∈ ts, mayB (n + 1) (recT t.ats) = true)
    (hl : acs.length ≤ 300) (hin : ∀ a ∈ acs, a.ins.length ≤ 300) (hca : (canE canD (actsE acs)).1 = 0) : Calls Tryz.prog 20 #[.agg #[vt, va], vl] w fun e w' => e = .returned (.int .i64 (storeS n ts acs (ensOf qs))) ∧ Low w w' := by
  obtain ⟨p, c, rfl, z1, z2⟩ := RowB.sl h
  obtain ⟨p2, c2, rfl, y1, y2⟩ := RowB.sl h2
  obtain ⟨p3, c3, rfl, ⟨x1, x2⟩, -⟩ := EtAt.at hq
  obtain ⟨U, hU⟩ : ∃ U, U = w.alloc (.cells #[.slice p ts.length c, .slice p2 acs.length c2] 46) := ⟨_, rfl⟩
  have LU := Lib.hid (show Low w U by rw [hU]; exact low_new (Low.refl w) _)
  have BS := Lib.hid (BoxAt.made (cs := [.slice p ts.length c, .slice p2 acs.length c2]) hU rfl rfl)
  have HU := Lib.hid hU
  have CC := Lib.hid (eCanon_c qs U _ (hq.low LU.out) hf hs)
  obtain ⟨r, hr⟩ : ∃ r, r = storeS n ts acs (ensOf qs) := ⟨_, rfl⟩
  rw [← hr]
  unfold storeS at hr
  obtain ⟨c1, res1, hres⟩ : ∃ c1 res1, canE canD (ensOf qs) = (c1, res1) := ⟨_, _, rfl⟩
  have HOK := Lib.hid (show c1 = 0 → (∀ e ∈ res1, Okv e.a) ∧ res1.length ≤ 300 from fun h0 => by
    have h1 : (canE canD (ensOf qs)).1 = 0 := by rw [hres]; exact h0
    refine ⟨fun e he => canE_okv h1 (by rw [hres]; exact he), ?_⟩
    have h3 := canE_len h1
    rw [hres] at h3
    have h4 := hf.1
    exact Nat.le_trans h3 h4)
  rw [hres] at CC hr
  simp only at hr
  have HR := Lib.hid hr
  have HA := Lib.hid h
  have HA2 := Lib.hid h2
  have HM := Lib.hid hm
  have HIN := Lib.hid hin
  have HCA := Lib.hid hca
  clear h h2 hq hf hs hm hin hca hU hr hres
  go_enter Tryz.func20, Tryz.ntmps20
  go_upto_region 1 with fail
  rw [← HU.out]
  clear HU
  go_wp2_with fail
  refine CC.out.mono ?_
  rintro e w1 ⟨v1, rfl, l1, rs1, hrs1, het1⟩
  have L1 := Lib.hid l1
  have HRS1 := Lib.hid (show ensOf rs1 = res1 from hrs1)
  have HET1 := Lib.hid het1
  clear l1 hrs1 het1 CC
  by_cases hc1 : c1 = 0
  case neg =>
    have HF := Lib.hid (show c1 = r by rw [HR.out, if_neg hc1])
    have hb := beq_fv hc1
    clear hc1
    go_wp2_with fail
    go_ret
    exact ⟨retI HF.out, LU.out.trans L1.out⟩
  case pos =>
    obtain ⟨hok, hlen⟩ := HOK.out hc1
    have HF := Lib.hid (show (if (sameL (res1.filter isAct) (canE canD (actsE acs)).2 && (res1.filter fun e => !isAct e).all (standB n ts)) = true then (0 : Int) else 41) = r by rw [HR.out, if_pos hc1])
    subst hc1
    have HOK2 := Lib.hid hok
    have HLN := Lib.hid (show rs1.length ≤ 300 by
      have := congrArg List.length HRS1.out
      unfold ensOf at this
      rw [List.length_map] at this
      omega)
    clear hok hlen HOK HR
    have g0 := (BS.out.low L1.out).at 0 _ rfl
    have g1 := (BS.out.low L1.out).at 1 _ rfl
    have CA := Lib.hid (acts_c n acs w1 (.slice p ts.length c) _ (by omega) (fun a ha => by have := HIN.out a ha; omega) (HA2.out.low (LU.out.trans L1.out)))
    go_wp2_with fail
    refine CA.out.mono ?_
    rintro e w2 ⟨v2, as2, rfl, own2, ok2, has, l2⟩
    have HE2 := Lib.hid (show EtAt w2 v2 as2 from ⟨own2.esAt, fun q hq => (ok2 q hq).to fun _ _ _ => ⟨trivial, rfl⟩⟩)
    have L2 := Lib.hid (L1.out.trans l2)
    have L2' := Lib.hid l2
    have HAS := Lib.hid has
    obtain ⟨p4, c4, rfl, ⟨y3, y4⟩, -⟩ := EtAt.at HE2.out
    have CC2 := Lib.hid (eCanon_c as2 w2 _ HE2.out (by rw [has]; exact few_acts hl HIN.out) fun q hq => by
      have h1 := ens_mem hq
      rw [has] at h1
      rw [acts_a h1]; exact recV_sm)
    rw [has] at CC2
    clear own2 ok2 has l2 CA g0 g1
    obtain ⟨c3', res2, hres2⟩ : ∃ c1 res1, canE canD (actsE acs) = (c1, res1) := ⟨_, _, rfl⟩
    have hc0 : c3' = 0 := by have := HCA.out; rw [hres2] at this; exact this
    subst hc0
    rw [hres2] at CC2 HF
    clear hres2
    go_wp2_with fail
    refine CC2.out.mono ?_
    rintro e w3 ⟨v3, rfl, l3, rs2, hrs2, het2⟩
    have L3 := Lib.hid (L2.out.trans l3)
    have HRS2 := Lib.hid (show ensOf rs2 = res2 from hrs2)
    have HET2 := Lib.hid het2
    have CP := Lib.hid (parted_c rs1 w3 _ (HET1.out.low (L2'.out.trans l3)) (by have := HLN.out; omega))
    clear l3 hrs2 het2 CC2
    go_wp2_with fail
    refine CP.out.mono ?_
    rintro e w4 ⟨v5, v6, rfl, het5, het6, l4⟩
    have L4 := Lib.hid (L3.out.trans l4)
    have CE := Lib.hid (equalFunc_c _ rs2 w4 _ _ het5 (HET2.out.low l4))
    have e1 : ensOf (rs1.filter fun q => isAct q.e) = res1.filter isAct := by rw [ens_filter rs1 isAct, HRS1.out]
    have e2 : ((rs1.filter fun q => !isAct q.e).all fun q => standB n ts q.e) = (res1.filter fun e => !isAct e).all (standB n ts) := by
      rw [← HRS1.out, ← ens_filter rs1 fun e => !isAct e]
      unfold ensOf
      rw [List.all_map]
      rfl
    have hk6 : ∀ q ∈ rs1.filter (fun q => !isAct q.e), Okv q.e.a := fun q hq => HOK2.out _ (by rw [← HRS1.out]; exact ens_mem (List.mem_filter.1 hq).1)
    obtain ⟨Bo, hBo⟩ : ∃ B, B = rs1.filter fun q => !isAct q.e := ⟨_, rfl⟩
    rw [← hBo] at e2 hk6 het6
    clear hBo
    have BS4 := Lib.hid (BS.out.low L4.out)
    have HTS := Lib.hid (show EtsAt n w4 ts (.slice p ts.length c) from HA.out.low (LU.out.trans L4.out))
    have CB := Lib.hid fun W (l : Low w4 W) => allStore n ts Bo w.heap.size W v6 (.slice p ts.length c) (.slice p2 acs.length c2) (het6.low l) (HTS.out.low l) ⟨p2, acs.length, c2, rfl⟩ HM.out hk6 ((BS4.out.low l).at 0 _ rfl) ((BS4.out.low l).at 1 _ rfl)
    rw [e1, HRS2.out] at CE
    rw [e2] at CB
    obtain ⟨q1, hq1⟩ : ∃ q, q = sameL (res1.filter isAct) res2 := ⟨_, rfl⟩
    obtain ⟨q2, hq2⟩ : ∃ q, q = (res1.filter fun e => !isAct e).all (standB n ts) := ⟨_, rfl⟩
    rw [← hq1] at CE HF
    rw [← hq2] at CB HF
    obtain ⟨p5, c5, rfl, -, -⟩ := EtAt.at het5
    obtain ⟨p6, c6, rfl, -, -⟩ := EtAt.at het6
    have L4' := Lib.hid l4
    clear het5 het6 l4 hk6 e1 e2 hq1 hq2 CP
    go_wp2_with fail
    refine CE.out.mono ?_
    rintro e w5 ⟨rfl, l5⟩
    have CB5 := Lib.hid (CB.out w5 l5)
    have L5 := Lib.hid (LU.out.trans (L4.out.trans l5))
    clear l5 CE CB
    cases q1 with
    | false =>
      go_wp2_with fail
      go_ret
      exact ⟨retI HF.out, L5.out⟩
    | true =>
      go_wp2_with fail
      refine CB5.out.mono ?_
      rintro e w6 ⟨rfl, l6⟩
      have L6 := Lib.hid (L5.out.trans l6)
      clear l6 CB5
      cases q2 with
      | false =>
        go_wp2_with fail
        go_ret
        exact ⟨retI HF.out, L6.out⟩
      | true =>
        go_wp2_with fail
        go_ret
        exact ⟨retI HF.out, L6.out⟩
end Go.Proofs.YtnenjgngahipdaaGreat
