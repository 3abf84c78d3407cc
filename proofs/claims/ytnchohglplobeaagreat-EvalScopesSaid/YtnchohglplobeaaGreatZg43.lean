/- Facts for the walk of entity.Canon: names that are there twice; rows of entities that the call makes itself. No condition. append of one element as a step of a region that draws its order; entities and names appended to rows of the call itself. No condition. The reference's Put: a row of names with one more. Condition: not too long. A row of values gone on with by another one; the members of a set of two sets' members. No condition. Where the next one goes in a row that rises: the reference's way; its box of an answer. No condition. The box in which the reference lays its answer down. No condition. A value as it must be, the reference's way. No condition but how many items there are. What the reference's walk asks of memory. No condition. -/
import Derived.Test.YtnchohglplobeaaGreatZCanEq1
import Derived.Test.YtnchohglplobeaaGreatZg10
import Derived.Deep.RegionLawGrows
set_option linter.unusedVariables false
set_option linter.unusedSimpArgs false
set_option linter.unnecessarySimpa false
namespace Go.Proofs.YtnchohglplobeaaGreat
open Go.RowKit Go.Sort Go.Maps
theorem nodup_or {α : Type} : ∀ l : List α, l.Nodup ∨ ∃ m : List α, m.length < l.length ∧ ∀ x ∈ l, x ∈ m
 | [] => .inl List.nodup_nil
 | x :: r => by
  by_cases hx : x ∈ r
  ·exact .inr ⟨r, by simp, fun y hy => by
    rcases List.mem_cons.1 hy with rfl | h
    ·exact hx
    ·exact h⟩
  ·rcases nodup_or r with h | ⟨m, h1, h2⟩
   ·exact .inl (List.nodup_cons.2 ⟨hx, h⟩)
   ·exact .inr ⟨x :: m, by simpa using h1, fun y hy => by
     rcases List.mem_cons.1 hy with rfl | h
     ·simp
     ·exact List.mem_cons_of_mem _ (h2 y h)⟩
theorem keys_lenv {ks names : List Us} (hk : ks.Nodup) (h : ∀ x, x ∈ ks ↔ x ∈ names) : (names.Nodup → ks.length = names.length) ∧ (¬ names.Nodup → ks.length < names.length) := by
 refine ⟨fun hn => ?_, fun hn => ?_⟩
 ·exact Nat.le_antisymm (len_sub _ _ hk fun x hx => (h x).1 hx) (len_sub _ _ hn fun x hx => (h x).2 hx)
 ·rcases nodup_or names with h1 | ⟨m, h1, h2⟩
  ·exact absurd h1 hn
  ·exact Nat.lt_of_le_of_lt (len_sub _ m hk fun x hx => h2 x ((h x).1 hx)) h1
theorem ee_step {B : Nat} {wr w1 W w2 : World} {v v2 : Value} {rs : List Ee} {q : Ee} (hsz : B ≤ wr.heap.size) (E : ∀ p ∈ rs, EeOk (fun b => B ≤ b ∧ some b ≠ v.ownBlock) wr p) (L1 : Low wr w1) (LW : Low w1 W)
  (hq : EeOk (fun b => wr.heap.size ≤ b) w1 q) (O : OwnE B wr v rs) (k2 : ∀ b, b < W.heap.size → some b ≠ v.ownBlock → w2.heap[b]? = W.heap[b]?) (n2 : v2.ownBlock = v.ownBlock ∨ ∀ g, v2.ownBlock = some g → W.heap.size ≤ g) :
  ∀ p ∈ rs ++ [q], EeOk (fun b => B ≤ b ∧ some b ≠ v2.ownBlock) w2 p := by
 have hv : ∀ g, v.ownBlock = some g → g < wr.heap.size := fun g hg => (World.ownsRow.lt O g hg).2
 have s1 := L1.size
 have s2 := LW.size
 have key : ∀ b, b < w1.heap.size → some b ≠ v.ownBlock → some b ≠ v2.ownBlock ∧ w2.heap[b]? = w1.heap[b]? := fun b hb hne => by
  refine ⟨?_, (k2 b (by omega) hne).trans (LW.2.2.2 b hb)⟩
  rcases n2 with h | h
  ·rw [h]; exact hne
  ·intro e
   have := h b e.symm
   omega
 intro p hp
 rcases List.mem_append.1 hp with hp | hp
 ·refine EeOk.to (fun b ha hb => ?_) (E p hp)
  obtain ⟨h1, h2⟩ := key b (by omega) ha.2
  exact ⟨⟨ha.1, h1⟩, h2.trans (L1.2.2.2 b hb)⟩
 ·simp at hp
  subst hp
  refine EeOk.to (fun b ha hb => ?_) hq
  obtain ⟨h1, h2⟩ := key b hb fun e => by have := hv b e.symm; omega
  exact ⟨⟨by omega, h1⟩, h2⟩
theorem sorted_uniq {l m : List En} (hn : (namesE l).Nodup) (hp : m.Perm l) (hs : Sorted cmpE m) : m = uniq cmpE l := by
 have hm : (namesE m).Nodup := (names_perm hp.symm).nodup_iff.1 hn
 have hr : Rises cmpE m := by
  unfold namesE at hm
  rw [List.nodup_iff_pairwise_ne, List.pairwise_map] at hm
  unfold Sorted at hs
  refine (hs.and hm).imp fun {a b} hab => ?_
  have h1 : ¬ cmpE b a < 0 := hab.1
  have h2 : cmpE b a ≠ 0 := fun e => hab.2 (us_zero e).symm
  have h3 : cmpE a b = - cmpE b a := good_en.anti b a trivial trivial
  omega
 refine en_unique hr (rise_en hn) fun z => ?_
 rw [mem_en hn]
 exact hp.mem_iff
end Go.Proofs.YtnchohglplobeaaGreat
namespace Go.Proofs.YtnchohglplobeaaGreat
open Go.RowKit Go.Sort
theorem ownR_step2v {α : Type} {e : TypeId} {k : Nat} {enc : α → List Value} {ops : Array Oper} {o : Oper} {a : Act} {w : World} {K : Act → World → Prop} {Q : Exit → Act → World → Prop} {E : Prop} (hgd : o.guard = none) (s x : Operand) (t : TypeId)
  (ho : o.op = .call { callee := .builtin .append, args := #[s, x], argTypes := #[t, t] }) (ht : Tryz.prog.underlying t = some (.slice e)) {z : Value} {bytes : Nat}
  (hinfo : (Tryz.prog.info? e).map (fun i => (i.zero, i.size, i.bytes)) = some (some z, k, bytes)) (hz : z.cells.size = k) (hk0 : 0 < k) (hby : bytes ≤ 1000)
  (hk : ∀ x, (enc x).length = k) (h1 : ∀ x, ∀ u ∈ enc x, u.oneCell' = true)
  (B : Nat) (v : Value) (l : List α) (hs : a.eval s = v) (hown : OwnR e k enc B w v l) (y : α) (ad : Addr) (c : Nat) (hx : a.eval x = .slice (some ad) 1 c)
  (hnews : ∀ j u, (enc y)[j]? = some u → w.cell? (ad.add j) = some u) (hlen : l.length ≤ 1000000) (hb : B ≤ w.heap.size)
  (h : ∀ v' w', OwnR e k enc B w' v' (l ++ [y]) → Below B w w' → (∀ b, b < w.heap.size → some b ≠ v.ownBlock → w'.heap[b]? = w.heap[b]?) → (v'.ownBlock = v.ownBlock ∨ ∀ g, v'.ownBlock = some g → w.heap.size ≤ g) → K (a.put o.dst v') w') : if Region.wanted o (yielded ops a.tmps) = true then Oper.wp Tryz.prog o a w K Q else E := by
 have hw : Region.wanted o (yielded ops a.tmps) = true := by simp [Region.wanted, hgd]
 obtain ⟨i0, hi, hz0, hz1, hz2⟩ := info_parts hinfo
 have hby2 : (l.length + 1) * bytes ≤ 140737488355328 := by
  have := Nat.mul_le_mul (show l.length + 1 ≤ 1000001 by omega) hby
  omega
 have hnl : (enc y).length = 1 * k := by rw [hk, Nat.one_mul]
 have happ : (l ++ [y]).flatMap enc = l.flatMap enc ++ enc y := by simp
 have hlt := World.ownsRow.lt hown
 rcases hown.2 with ⟨rfl, hn⟩ | ⟨g, cap, cur, rfl, hbg, hg, hnc, hcm, hcs, htake⟩
 ·have hl : l = [] := List.eq_nil_of_length_eq_zero hn
  subst hl
  refine step_append_grows hgd s x t ho e i0 z k bytes ht hi hz0 hz1 hz2 hz hk0 none 0 0 [] hs (fun _ => ⟨rfl, rfl⟩) (by simp) (fun b hb => by simp at hb) ad 1 c (enc y) hx hnl hnews (h1 y) (by omega) (by unfold maxLen; omega) (by simpa using hby2) fun v' w' r1 r2 => ?_
  have r3 : OwnR e k enc w.heap.size w' v' ([] ++ [y]) := by unfold OwnR; rw [happ]; exact r1
  exact h v' w' (r3.base hb) ((Below.refl _ _).grown r2 hb (by simp)) (fun b hb _ => r2.block b hb (by simp)) (.inr fun g hg => (World.ownsRow.lt r3 g hg).1)
 ·by_cases hroom : l.length + 1 ≤ cap
  ·rw [if_pos hw]
   obtain ⟨w', hrun, r1, r2⟩ := run_append_fits (P := Tryz.prog) w B t o.type e i0 k ht hi hz1 g l.length cap (l.flatMap enc) hown ad 1 c (enc y) hnl hnews (h1 y) hroom
   unfold Oper.wp
   simp [execOp, ho, resolve, invoke, builtin, hs, hx, hrun, Result.andThen]
   refine h _ w' ?_ ((Below.refl _ _).grown r2 hb fun k hk => by simp at hk; subst hk; exact hbg) (fun b hb hne => r2.block b hb hne) (.inl rfl)
   unfold OwnR; rw [happ, List.length_append]; exact r1
  ·have holds : ∀ b, some (⟨g, 0, none⟩ : Addr) = some b → ∀ j u, (l.flatMap enc)[j]? = some u → w.cell? (b.add j) = some u := fun b hb => by
    simp only [Option.some.injEq] at hb
    subst hb
    exact World.ownsRow.cells hown (g := g) rfl
   refine step_append_grows hgd s x t ho e i0 z k bytes ht hi hz0 hz1 hz2 hz hk0 (some ⟨g, 0, none⟩) l.length cap (l.flatMap enc) hs (fun h => by simp at h) hown.1 holds ad 1 c (enc y) hx hnl hnews (h1 y) (by omega) (by unfold maxLen; omega) hby2 fun v' w' r1 r2 => ?_
   have r3 : OwnR e k enc w.heap.size w' v' (l ++ [y]) := by unfold OwnR; rw [happ, List.length_append]; exact r1
   exact h v' w' (r3.base hb) ((Below.refl _ _).grown r2 hb (by simp)) (fun b hb _ => r2.block b hb (by simp)) (.inr fun g hg => (World.ownsRow.lt r3 g hg).1)
end Go.Proofs.YtnchohglplobeaaGreat
namespace Go.Proofs.YtnchohglplobeaaGreat
open Go.RowKit Go.Sort
theorem putS_step {u x : Us} {r : List Us} {put : Bool} : putS u (x :: r) put = (if (!put && decide (0 ≤ cmpUs x u)) = true then [u] else []) ++ ((if x = u then [] else [x]) ++ putS u r (put || decide (0 ≤ cmpUs x u))) := rfl
set_option maxHeartbeats 8000000 in
set_option maxRecDepth 100000 in
theorem rput_c (l : List Us) (u : Us) (w : World) (r : Value) (hl : l.length ≤ 70000) (h : UsAt w r l) : Calls Tryz.prog 47 #[r, .agg #[.string u.t, .string u.i]] w (ClnP (putS u l false) w) := by
 obtain ⟨ao, c, rfl, ⟨hlc, hc9⟩, hx⟩ := h
 have mixed : Tryz.prog.follows .mixedOrders = true := by kernel_rfl
 have HX := Lib.hid hx
 obtain ⟨res, hres⟩ : ∃ res, putS u l false = res := ⟨_, rfl⟩
 have HRES := Lib.hid hres
 obtain ⟨U0, hU0⟩ : ∃ W, W = w.alloc (.cells #[.string u.t, .string u.i] 23) := ⟨_, rfl⟩
 have HU0E := Lib.hid hU0
 have HU0 := Lib.hid (show U0.heap.size ≤ w.heap.size + 1 by rw [hU0]; simp)
 have LU0 := Lib.hid (show Low w U0 by rw [hU0]; exact Low.alloc (Low.refl w) _)
 have BU := Lib.hid (show BoxAtv U0 w.heap.size [.string u.t, .string u.i] from BoxAtv.new (C := #[.string u.t, .string u.i]) (t := 23) _ (by rw [hU0]; exact Low.refl _) rfl rfl)
 clear hx hU0
 rw [hres]
 clear hres
 go_enter Tryz.func47, Tryz.ntmps47
 go_upto_region 4 with fail
 rw [← HU0E.out]
 go_loopg [5, 6, 7] l.length (fun gk vs vp vi wr => ∃ (vo : Value) (out : List Us) (put : Bool) (i : Nat), vo = vs ∧ vp = .bool put ∧ vi = .int .i64 (i : Int) ∧ i ≤ l.length ∧ l.length - i ≤ gk ∧ out.length ≤ 2 * i ∧ Hid (Low U0 wr) ∧ Hid (OwnU (w.heap.size + 1) wr vo out) ∧ Hid (res = out ++ putS u (l.drop i) put))
 case atStart => exact ⟨_, [], false, 0, rfl, rfl, rfl, Nat.zero_le _, Nat.le_refl _, Nat.zero_le _, Lib.hid (Low.refl _), Lib.hid (OwnR.nil _ _ _ _ _), Lib.hid (by rw [List.drop_zero, HRES.out]; rfl)⟩
 case round =>
  obtain ⟨vo, out, put, i, rfl, rfl, rfl, hi, hg, hol, G, O, K⟩ := hrel
  obtain ⟨d0, d1⟩ := (BU.out.low G.out).at2
  by_cases hlt : i < l.length
  ·have zl : (i : Int) < (l.length : Int) := by omega
   obtain ⟨pb, po, rfl, hcs⟩ := HX.out i hlt
   obtain ⟨e0, e1⟩ := cells2 ((LU0.out.trans G.out).cells hcs)
   have hdr : l.drop i = l[i] :: l.drop (i + 1) := List.drop_eq_getElem_cons hlt
   obtain ⟨x, hxx⟩ : ∃ x, l[i] = x := ⟨_, rfl⟩
   rw [hxx] at e0 e1 hdr hcs
   have HK := Lib.hid (show res = out ++ putS u (x :: l.drop (i + 1)) put by rw [K.out, hdr])
   have HST := Lib.hid (putS_step (u := u) (x := x) (r := l.drop (i + 1)) (put := put))
   have HCS := Lib.hid hcs
   clear hcs hxx hdr
   cases put with
   | true =>
    have HCASE := Lib.hid (show (!true && decide (0 ≤ cmpUs x u)) = false from rfl)
    go_wp2_with fail
    go_quiet (fail)
    have LP := Lib.hid (Low.drewN wr nq)
    obtain ⟨W1, hW1⟩ : ∃ Y, Y = wr.drewN nq := ⟨_, rfl⟩
    rw [← hW1] at LP ⊢
    replace e0 := LP.out.keep e0
    replace e1 := LP.out.keep e1
    replace d0 := LP.out.keep d0
    replace d1 := LP.out.keep d1
    have L1 := Lib.hid (G.out.trans LP.out)
    have O1 := Lib.hid (OwnR.low O.out LP.out)
    clear hW1
    by_cases hxu : x = u
    ·have HEQ := Lib.hid hxu
     have hxt : x.t = u.t := by rw [hxu]
     have hxi : x.i = u.i := by rw [hxu]
     rw [hxt] at e0
     rw [hxi] at e1
     clear hxu hxt hxi
     go_wp2_with fail
     go_quiet (fail)
     have LQ := Lib.hid (Low.drewN W1 nq)
     obtain ⟨WQ, hWQ⟩ : ∃ Y, Y = W1.drewN nq := ⟨_, rfl⟩
     rw [← hWQ] at LQ ⊢
     replace e0 := LQ.out.keep e0
     replace e1 := LQ.out.keep e1
     replace d0 := LQ.out.keep d0
     replace d1 := LQ.out.keep d1
     have LU := Lib.hid (L1.out.trans LQ.out)
     have OU := Lib.hid (OwnR.low O1.out LQ.out)
     clear hWQ
     clear e0 e1 d0 d1
     go_wp2_with fail
     go_roundg (l.length - (i + 1))
     case measure => omega
     case rel => exact ⟨vo, out, true, i + 1, rfl, rfl, by go_num, by omega, by omega, by first | omega | (rw [List.length_append, List.length_singleton]; omega), LU, OU, Lib.hid (by rw [HK.out, HST.out]; simp [HEQ.out])⟩
    ·have HEQ := Lib.hid hxu
     have hN : ¬ (x.t = u.t ∧ x.i = u.i) := fun h => hxu (Us.ext' h.1 h.2)
     clear hxu
     by_cases htt : x.t = u.t
     ·have hi2 : ¬ x.i.toList = u.i.toList := fun h => hN ⟨htt, tl_injE h⟩
      have HTT := Lib.hid htt
      rw [htt] at e0
      clear hN htt
      go_wp2_with fail
      go_quiet (fail)
      have LQ := Lib.hid (Low.drewN W1 nq)
      obtain ⟨WQ, hWQ⟩ : ∃ Y, Y = W1.drewN nq := ⟨_, rfl⟩
      rw [← hWQ] at LQ ⊢
      replace e0 := LQ.out.keep e0
      replace e1 := LQ.out.keep e1
      replace d0 := LQ.out.keep d0
      replace d1 := LQ.out.keep d1
      have LU := Lib.hid (L1.out.trans LQ.out)
      have OU := Lib.hid (OwnR.low O1.out LQ.out)
      clear hWQ
      rw [← HTT.out] at e0
      have HLN := Lib.hid (show (out).length ≤ 1000000 by first | omega | (simp; omega))
      have HSZ := Lib.hid (show w.heap.size + 1 ≤ (WQ.alloc (.cells #[.string x.t, .string x.i] 23)).heap.size from by have := LU.out.size; have h3 := BU.out.lt; simp; omega)
      have HOX := Lib.hid (OwnR.alloc OU.out (.cells #[.string x.t, .string x.i] 23))
      go_wp2_with (first | (at_builtin; refine appR rfl _ _ _ rfl Tryz.underlying48 u_info rfl (by decide) (by decide) encU_len encU_one (w.heap.size + 1) vo out rfl HOX.out x ⟨WQ.heap.size, 0, none⟩ 1 rfl (fun j u hj => newcell_at _ _ _ _ _ rfl hj) HLN.out HSZ.out ?_; intro v2 w4 h2 b2 k2 n2))
      have H2 := Lib.hid h2
      have L4 := Lib.hid ((Low.alloc LU.out _).trans_belowU b2 HU0.out)
      clear h2 b2 k2 n2 e0 e1 d0 d1
      go_wp2_with fail
      go_roundg (l.length - (i + 1))
      case measure => omega
      case rel => exact ⟨v2, out ++ [x], true, i + 1, rfl, rfl, by go_num, by omega, by omega, by simp only [List.length_append, List.length_singleton]; omega, L4, H2, Lib.hid (by rw [HK.out, HST.out]; simp [HEQ.out])⟩
     ·have ht2 : ¬ x.t.toList = u.t.toList := fun h => htt (tl_injE h)
      clear hN htt
      go_wp2_with fail
      go_quiet (fail)
      have LQ := Lib.hid (Low.drewN W1 nq)
      obtain ⟨WQ, hWQ⟩ : ∃ Y, Y = W1.drewN nq := ⟨_, rfl⟩
      rw [← hWQ] at LQ ⊢
      replace e0 := LQ.out.keep e0
      replace e1 := LQ.out.keep e1
      replace d0 := LQ.out.keep d0
      replace d1 := LQ.out.keep d1
      have LU := Lib.hid (L1.out.trans LQ.out)
      have OU := Lib.hid (OwnR.low O1.out LQ.out)
      clear hWQ
      have HLN := Lib.hid (show (out).length ≤ 1000000 by first | omega | (simp; omega))
      have HSZ := Lib.hid (show w.heap.size + 1 ≤ (WQ.alloc (.cells #[.string x.t, .string x.i] 23)).heap.size from by have := LU.out.size; have h3 := BU.out.lt; simp; omega)
      have HOX := Lib.hid (OwnR.alloc OU.out (.cells #[.string x.t, .string x.i] 23))
      go_wp2_with (first | (at_builtin; refine appR rfl _ _ _ rfl Tryz.underlying48 u_info rfl (by decide) (by decide) encU_len encU_one (w.heap.size + 1) vo out rfl HOX.out x ⟨WQ.heap.size, 0, none⟩ 1 rfl (fun j u hj => newcell_at _ _ _ _ _ rfl hj) HLN.out HSZ.out ?_; intro v2 w4 h2 b2 k2 n2))
      have H2 := Lib.hid h2
      have L4 := Lib.hid ((Low.alloc LU.out _).trans_belowU b2 HU0.out)
      clear h2 b2 k2 n2 e0 e1 d0 d1
      go_wp2_with fail
      go_roundg (l.length - (i + 1))
      case measure => omega
      case rel => exact ⟨v2, out ++ [x], true, i + 1, rfl, rfl, by go_num, by omega, by omega, by simp only [List.length_append, List.length_singleton]; omega, L4, H2, Lib.hid (by rw [HK.out, HST.out]; simp [HEQ.out])⟩
   | false =>
    obtain ⟨cr, hcr⟩ : ∃ cr, cmpUs x u = cr := ⟨_, rfl⟩
    have HCR := Lib.hid hcr
    have g0 : ∀ n os, (grow (wr.drewN n) os).cell? ⟨pb, po + i * 2, none⟩ = some (.string x.t) := fun n os => (Gr.grow (Gr.refl wr) n os).cell e0
    have g1 : ∀ n os, (grow (wr.drewN n) os).cell? ⟨pb, po + i * 2 + 1, none⟩ = some (.string x.i) := fun n os => (Gr.grow (Gr.refl wr) n os).cell e1
    have g2 : ∀ n os, (grow (wr.drewN n) os).cell? ⟨w.heap.size, 0, none⟩ = some (.string u.t) := fun n os => (Gr.grow (Gr.refl wr) n os).cell d0
    have g3 : ∀ n os, (grow (wr.drewN n) os).cell? ⟨w.heap.size, 1, none⟩ = some (.string u.i) := fun n os => (Gr.grow (Gr.refl wr) n os).cell d1
    have c3 : ∀ X, Calls Tryz.prog 29 #[.agg #[.string x.t, .string x.i], .agg #[.string u.t, .string u.i]] X fun e w' => e = .returned (.int .i64 cr) ∧ Gr X w' := fun X => by rw [← hcr]; exact rOrdE_c x u X
    have C3 := Lib.hid fun n os => Calls.grown_of (c3 (grow (wr.drewN n) os))
    have HE := Lib.hid (And.intro e0 (And.intro e1 (And.intro d0 d1)))
    clear e0 e1 d0 d1 c3 hcr
    by_cases hge : 0 ≤ cr
    ·have zg : decide (cr < 0) = false := by simp; omega
     have HD := Lib.hid (show decide (0 ≤ cmpUs x u) = true by rw [HCR.out]; simpa using hge)
     have HCASE := Lib.hid (show (!false && decide (0 ≤ cmpUs x u)) = true by rw [HCR.out]; simpa using hge)
     go_wp2_with fail
     go_quiet_grown (first | (with_reducible exact C3.out _ _))
     clear g0 g1 g2 g3 C3
     have LP := Lib.hid (Gr.grow (Gr.refl wr) nq osq).low
     obtain ⟨W1, hW1⟩ : ∃ Y, Y = grow (wr.drewN nq) osq := ⟨_, rfl⟩
     rw [← hW1] at LP ⊢
     obtain ⟨e0, e1, d0, d1⟩ := HE.out
     replace e0 := LP.out.keep e0
     replace e1 := LP.out.keep e1
     replace d0 := LP.out.keep d0
     replace d1 := LP.out.keep d1
     have L1 := Lib.hid (G.out.trans LP.out)
     have O1 := Lib.hid (OwnR.low O.out LP.out)
     have E1 := Lib.hid (And.intro e0 e1)
     have HLN := Lib.hid (show out.length ≤ 1000000 by omega)
     have HSZ := Lib.hid (show w.heap.size + 1 ≤ (W1.alloc (.cells #[.string u.t, .string u.i] 23)).heap.size from by have := L1.out.size; have h3 := BU.out.lt; simp; omega)
     have HOX := Lib.hid (OwnR.alloc O1.out (.cells #[.string u.t, .string u.i] 23))
     clear hW1 e0 e1
     go_upto_region 9 with (first | (at_builtin; refine appR rfl _ _ _ rfl Tryz.underlying48 u_info rfl (by decide) (by decide) encU_len encU_one (w.heap.size + 1) vo out rfl HOX.out u ⟨W1.heap.size, 0, none⟩ 1 rfl (fun j u hj => newcell_at _ _ _ _ _ rfl hj) HLN.out HSZ.out ?_; intro v2 w4 h2 b2 k2 n2))
     have O4 := Lib.hid h2
     have L4 := Lib.hid ((Low.alloc L1.out _).trans_belowU b2 HU0.out)
     clear h2 b2 k2 n2 d0 d1
     obtain ⟨e0, e1⟩ := cells2 ((LU0.out.trans L4.out).cells HCS.out)
     obtain ⟨d0, d1⟩ := (BU.out.low L4.out).at2
     by_cases hxu : x = u
     ·have HEQ := Lib.hid hxu
      have hxt : x.t = u.t := by rw [hxu]
      have hxi : x.i = u.i := by rw [hxu]
      rw [hxt] at e0
      rw [hxi] at e1
      clear hxu hxt hxi
      go_wp2_with fail
      go_quiet (fail)
      have LQ := Lib.hid (Low.drewN w4 nq)
      obtain ⟨WQ, hWQ⟩ : ∃ Y, Y = w4.drewN nq := ⟨_, rfl⟩
      rw [← hWQ] at LQ ⊢
      replace e0 := LQ.out.keep e0
      replace e1 := LQ.out.keep e1
      replace d0 := LQ.out.keep d0
      replace d1 := LQ.out.keep d1
      have LU := Lib.hid (L4.out.trans LQ.out)
      have OU := Lib.hid (OwnR.low O4.out LQ.out)
      clear hWQ
      clear e0 e1 d0 d1
      go_wp2_with fail
      go_roundg (l.length - (i + 1))
      case measure => omega
      case rel => exact ⟨v2, (out ++ [u]), true, i + 1, rfl, rfl, by go_num, by omega, by omega, by first | omega | (rw [List.length_append, List.length_singleton]; omega), LU, OU, Lib.hid (by rw [HK.out, HST.out, HD.out]; simp [HEQ.out])⟩
     ·have HEQ := Lib.hid hxu
      have hN : ¬ (x.t = u.t ∧ x.i = u.i) := fun h => hxu (Us.ext' h.1 h.2)
      clear hxu
      by_cases htt : x.t = u.t
      ·have hi2 : ¬ x.i.toList = u.i.toList := fun h => hN ⟨htt, tl_injE h⟩
       have HTT := Lib.hid htt
       rw [htt] at e0
       clear hN htt
       go_wp2_with fail
       go_quiet (fail)
       have LQ := Lib.hid (Low.drewN w4 nq)
       obtain ⟨WQ, hWQ⟩ : ∃ Y, Y = w4.drewN nq := ⟨_, rfl⟩
       rw [← hWQ] at LQ ⊢
       replace e0 := LQ.out.keep e0
       replace e1 := LQ.out.keep e1
       replace d0 := LQ.out.keep d0
       replace d1 := LQ.out.keep d1
       have LU := Lib.hid (L4.out.trans LQ.out)
       have OU := Lib.hid (OwnR.low O4.out LQ.out)
       clear hWQ
       rw [← HTT.out] at e0
       have HLN := Lib.hid (show ((out ++ [u])).length ≤ 1000000 by first | omega | (simp; omega))
       have HSZ := Lib.hid (show w.heap.size + 1 ≤ (WQ.alloc (.cells #[.string x.t, .string x.i] 23)).heap.size from by have := LU.out.size; have h3 := BU.out.lt; simp; omega)
       have HOX := Lib.hid (OwnR.alloc OU.out (.cells #[.string x.t, .string x.i] 23))
       go_wp2_with (first | (at_builtin; refine appR rfl _ _ _ rfl Tryz.underlying48 u_info rfl (by decide) (by decide) encU_len encU_one (w.heap.size + 1) v2 (out ++ [u]) rfl HOX.out x ⟨WQ.heap.size, 0, none⟩ 1 rfl (fun j u hj => newcell_at _ _ _ _ _ rfl hj) HLN.out HSZ.out ?_; intro v2 w4 h2 b2 k2 n2))
       have H2 := Lib.hid h2
       have L4 := Lib.hid ((Low.alloc LU.out _).trans_belowU b2 HU0.out)
       clear h2 b2 k2 n2 e0 e1 d0 d1
       go_wp2_with fail
       go_roundg (l.length - (i + 1))
       case measure => omega
       case rel => exact ⟨v2, (out ++ [u]) ++ [x], true, i + 1, rfl, rfl, by go_num, by omega, by omega, by simp only [List.length_append, List.length_singleton]; omega, L4, H2, Lib.hid (by rw [HK.out, HST.out, HD.out]; simp [HEQ.out])⟩
      ·have ht2 : ¬ x.t.toList = u.t.toList := fun h => htt (tl_injE h)
       clear hN htt
       go_wp2_with fail
       go_quiet (fail)
       have LQ := Lib.hid (Low.drewN w4 nq)
       obtain ⟨WQ, hWQ⟩ : ∃ Y, Y = w4.drewN nq := ⟨_, rfl⟩
       rw [← hWQ] at LQ ⊢
       replace e0 := LQ.out.keep e0
       replace e1 := LQ.out.keep e1
       replace d0 := LQ.out.keep d0
       replace d1 := LQ.out.keep d1
       have LU := Lib.hid (L4.out.trans LQ.out)
       have OU := Lib.hid (OwnR.low O4.out LQ.out)
       clear hWQ
       have HLN := Lib.hid (show ((out ++ [u])).length ≤ 1000000 by first | omega | (simp; omega))
       have HSZ := Lib.hid (show w.heap.size + 1 ≤ (WQ.alloc (.cells #[.string x.t, .string x.i] 23)).heap.size from by have := LU.out.size; have h3 := BU.out.lt; simp; omega)
       have HOX := Lib.hid (OwnR.alloc OU.out (.cells #[.string x.t, .string x.i] 23))
       go_wp2_with (first | (at_builtin; refine appR rfl _ _ _ rfl Tryz.underlying48 u_info rfl (by decide) (by decide) encU_len encU_one (w.heap.size + 1) v2 (out ++ [u]) rfl HOX.out x ⟨WQ.heap.size, 0, none⟩ 1 rfl (fun j u hj => newcell_at _ _ _ _ _ rfl hj) HLN.out HSZ.out ?_; intro v2 w4 h2 b2 k2 n2))
       have H2 := Lib.hid h2
       have L4 := Lib.hid ((Low.alloc LU.out _).trans_belowU b2 HU0.out)
       clear h2 b2 k2 n2 e0 e1 d0 d1
       go_wp2_with fail
       go_roundg (l.length - (i + 1))
       case measure => omega
       case rel => exact ⟨v2, (out ++ [u]) ++ [x], true, i + 1, rfl, rfl, by go_num, by omega, by omega, by simp only [List.length_append, List.length_singleton]; omega, L4, H2, Lib.hid (by rw [HK.out, HST.out, HD.out]; simp [HEQ.out])⟩
    ·have zg : decide (cr < 0) = true := by simp; omega
     have HD := Lib.hid (show decide (0 ≤ cmpUs x u) = false by rw [HCR.out]; simpa using hge)
     have HCASE := Lib.hid (show (!false && decide (0 ≤ cmpUs x u)) = false by rw [HCR.out]; simpa using hge)
     go_wp2_with fail
     go_quiet_grown (first | (with_reducible exact C3.out _ _))
     clear g0 g1 g2 g3 C3
     have LP := Lib.hid (Gr.grow (Gr.refl wr) nq osq).low
     obtain ⟨W1, hW1⟩ : ∃ Y, Y = grow (wr.drewN nq) osq := ⟨_, rfl⟩
     rw [← hW1] at LP ⊢
     obtain ⟨e0, e1, d0, d1⟩ := HE.out
     replace e0 := LP.out.keep e0
     replace e1 := LP.out.keep e1
     replace d0 := LP.out.keep d0
     replace d1 := LP.out.keep d1
     have L1 := Lib.hid (G.out.trans LP.out)
     have O1 := Lib.hid (OwnR.low O.out LP.out)
     clear hW1
     by_cases hxu : x = u
     ·have HEQ := Lib.hid hxu
      have hxt : x.t = u.t := by rw [hxu]
      have hxi : x.i = u.i := by rw [hxu]
      rw [hxt] at e0
      rw [hxi] at e1
      clear hxu hxt hxi
      go_wp2_with fail
      go_quiet (fail)
      have LQ := Lib.hid (Low.drewN W1 nq)
      obtain ⟨WQ, hWQ⟩ : ∃ Y, Y = W1.drewN nq := ⟨_, rfl⟩
      rw [← hWQ] at LQ ⊢
      replace e0 := LQ.out.keep e0
      replace e1 := LQ.out.keep e1
      replace d0 := LQ.out.keep d0
      replace d1 := LQ.out.keep d1
      have LU := Lib.hid (L1.out.trans LQ.out)
      have OU := Lib.hid (OwnR.low O1.out LQ.out)
      clear hWQ
      clear e0 e1 d0 d1
      go_wp2_with fail
      go_roundg (l.length - (i + 1))
      case measure => omega
      case rel => exact ⟨vo, out, false, i + 1, rfl, rfl, by go_num, by omega, by omega, by first | omega | (rw [List.length_append, List.length_singleton]; omega), LU, OU, Lib.hid (by rw [HK.out, HST.out, HD.out]; simp [HEQ.out])⟩
     ·have HEQ := Lib.hid hxu
      have hN : ¬ (x.t = u.t ∧ x.i = u.i) := fun h => hxu (Us.ext' h.1 h.2)
      clear hxu
      by_cases htt : x.t = u.t
      ·have hi2 : ¬ x.i.toList = u.i.toList := fun h => hN ⟨htt, tl_injE h⟩
       have HTT := Lib.hid htt
       rw [htt] at e0
       clear hN htt
       go_wp2_with fail
       go_quiet (fail)
       have LQ := Lib.hid (Low.drewN W1 nq)
       obtain ⟨WQ, hWQ⟩ : ∃ Y, Y = W1.drewN nq := ⟨_, rfl⟩
       rw [← hWQ] at LQ ⊢
       replace e0 := LQ.out.keep e0
       replace e1 := LQ.out.keep e1
       replace d0 := LQ.out.keep d0
       replace d1 := LQ.out.keep d1
       have LU := Lib.hid (L1.out.trans LQ.out)
       have OU := Lib.hid (OwnR.low O1.out LQ.out)
       clear hWQ
       rw [← HTT.out] at e0
       have HLN := Lib.hid (show (out).length ≤ 1000000 by first | omega | (simp; omega))
       have HSZ := Lib.hid (show w.heap.size + 1 ≤ (WQ.alloc (.cells #[.string x.t, .string x.i] 23)).heap.size from by have := LU.out.size; have h3 := BU.out.lt; simp; omega)
       have HOX := Lib.hid (OwnR.alloc OU.out (.cells #[.string x.t, .string x.i] 23))
       go_wp2_with (first | (at_builtin; refine appR rfl _ _ _ rfl Tryz.underlying48 u_info rfl (by decide) (by decide) encU_len encU_one (w.heap.size + 1) vo out rfl HOX.out x ⟨WQ.heap.size, 0, none⟩ 1 rfl (fun j u hj => newcell_at _ _ _ _ _ rfl hj) HLN.out HSZ.out ?_; intro v2 w4 h2 b2 k2 n2))
       have H2 := Lib.hid h2
       have L4 := Lib.hid ((Low.alloc LU.out _).trans_belowU b2 HU0.out)
       clear h2 b2 k2 n2 e0 e1 d0 d1
       go_wp2_with fail
       go_roundg (l.length - (i + 1))
       case measure => omega
       case rel => exact ⟨v2, out ++ [x], false, i + 1, rfl, rfl, by go_num, by omega, by omega, by simp only [List.length_append, List.length_singleton]; omega, L4, H2, Lib.hid (by rw [HK.out, HST.out, HD.out]; simp [HEQ.out])⟩
      ·have ht2 : ¬ x.t.toList = u.t.toList := fun h => htt (tl_injE h)
       clear hN htt
       go_wp2_with fail
       go_quiet (fail)
       have LQ := Lib.hid (Low.drewN W1 nq)
       obtain ⟨WQ, hWQ⟩ : ∃ Y, Y = W1.drewN nq := ⟨_, rfl⟩
       rw [← hWQ] at LQ ⊢
       replace e0 := LQ.out.keep e0
       replace e1 := LQ.out.keep e1
       replace d0 := LQ.out.keep d0
       replace d1 := LQ.out.keep d1
       have LU := Lib.hid (L1.out.trans LQ.out)
       have OU := Lib.hid (OwnR.low O1.out LQ.out)
       clear hWQ
       have HLN := Lib.hid (show (out).length ≤ 1000000 by first | omega | (simp; omega))
       have HSZ := Lib.hid (show w.heap.size + 1 ≤ (WQ.alloc (.cells #[.string x.t, .string x.i] 23)).heap.size from by have := LU.out.size; have h3 := BU.out.lt; simp; omega)
       have HOX := Lib.hid (OwnR.alloc OU.out (.cells #[.string x.t, .string x.i] 23))
       go_wp2_with (first | (at_builtin; refine appR rfl _ _ _ rfl Tryz.underlying48 u_info rfl (by decide) (by decide) encU_len encU_one (w.heap.size + 1) vo out rfl HOX.out x ⟨WQ.heap.size, 0, none⟩ 1 rfl (fun j u hj => newcell_at _ _ _ _ _ rfl hj) HLN.out HSZ.out ?_; intro v2 w4 h2 b2 k2 n2))
       have H2 := Lib.hid h2
       have L4 := Lib.hid ((Low.alloc LU.out _).trans_belowU b2 HU0.out)
       clear h2 b2 k2 n2 e0 e1 d0 d1
       go_wp2_with fail
       go_roundg (l.length - (i + 1))
       case measure => omega
       case rel => exact ⟨v2, out ++ [x], false, i + 1, rfl, rfl, by go_num, by omega, by omega, by simp only [List.length_append, List.length_singleton]; omega, L4, H2, Lib.hid (by rw [HK.out, HST.out, HD.out]; simp [HEQ.out])⟩
  ·have zl : ¬ (i : Int) < (l.length : Int) := by omega
   have hd : l.drop i = [] := List.drop_of_length_le (by omega)
   have HK := Lib.hid (show res = out ++ putS u [] put by rw [K.out, hd])
   clear hd
   cases put with
   | true =>
    go_wp2_with fail
    go_ret
    refine ⟨vo, rfl, ?_, LU0.out.trans G.out⟩
    have : res = out := by rw [HK.out]; simp [putS]
    rw [this]
    exact OwnR.base O.out (Nat.le_succ _)
   | false =>
    have HLN := Lib.hid (show out.length ≤ 1000000 by omega)
    have HSZ := Lib.hid (show w.heap.size + 1 ≤ (wr.alloc (.cells #[.string u.t, .string u.i] 23)).heap.size from by have := G.out.size; have h3 := BU.out.lt; simp; omega)
    have HOX := Lib.hid (OwnR.alloc O.out (.cells #[.string u.t, .string u.i] 23))
    go_wp2_with (first | (at_builtin; refine appR rfl _ _ _ rfl Tryz.underlying48 u_info rfl (by decide) (by decide) encU_len encU_one (w.heap.size + 1) vo out rfl HOX.out u ⟨wr.heap.size, 0, none⟩ 1 rfl (fun j u hj => newcell_at _ _ _ _ _ rfl hj) HLN.out HSZ.out ?_; intro v2 w4 h2 b2 k2 n2))
    have H2 := Lib.hid h2
    have L4 := Lib.hid ((Low.alloc G.out _).trans_belowU b2 HU0.out)
    clear h2 b2 k2 n2
    go_wp2_with fail
    go_ret
    refine ⟨v2, rfl, ?_, LU0.out.trans L4.out⟩
    have : res = out ++ [u] := by rw [HK.out]; simp [putS]
    rw [this]
    exact OwnR.base H2.out (Nat.le_succ _)
end Go.Proofs.YtnchohglplobeaaGreat
namespace Go.Proofs.YtnchohglplobeaaGreat
open Go.RowKit Go.Sort
theorem run_append_zerov {P : Program} {w : World} (base : Nat) (t ty e : TypeId) (i : TypeInfo) (size : Nat) (ht : P.underlying t = some (.slice e)) (hi : P.info? e = some i)
  (v : Value) (n : Nat) (xs : List Value) (hown : w.ownsRow base e size v n xs) (ao : Option Addr) (c : Nat) :
  (Builtin.append_ #[t, t] ty #[v, .slice ao 0 c]).run P w = .ok v w := by
 cases ao with
 | none =>
  rcases hown.2 with ⟨rfl, rfl⟩ | ⟨g, cap, cur, rfl, _, _, hnc, _⟩
  ·simp [Builtin.append_, run_underlying ht, sizeOf, typeInfo, hi, Builtin.lenOf, Builtin.firstCells]
  ·simp [Builtin.append_, run_underlying ht, sizeOf, typeInfo, hi, Builtin.lenOf, Builtin.firstCells, hnc, storeCells]
 | some ad =>
  have hfc := run_firstCells_some (P := P) w i.size 0 ad 0 c [] (by simp) (by simp)
  rcases hown.2 with ⟨rfl, rfl⟩ | ⟨g, cap, cur, rfl, _, _, hnc, _⟩
  ·simp [Builtin.append_, run_underlying ht, sizeOf, typeInfo, hi, Builtin.lenOf, hfc]
  ·simp [Builtin.append_, run_underlying ht, sizeOf, typeInfo, hi, Builtin.lenOf, hfc, hnc, storeCells]
section
variable {α : Type}
theorem appRsv {e : TypeId} {k : Nat} {enc : α → List Value} {ops : Array Oper} {rest : List Oper} {o : Oper} {a : Act} {w : World} {Q : Exit → Act → World → Prop} (hgd : o.guard = none) (s x : Operand) (t : TypeId)
  (ho : o.op = .call { callee := .builtin .append, args := #[s, x], argTypes := #[t, t] }) (ht : Tryz.prog.underlying t = some (.slice e)) {z : Value} {bytes : Nat}
  (hinfo : (Tryz.prog.info? e).map (fun i => (i.zero, i.size, i.bytes)) = some (some z, k, bytes)) (hz : z.cells.size = k) (hk0 : 0 < k) (hby : bytes ≤ 1000)
  (hk : ∀ x, (enc x).length = k) (h1 : ∀ x, ∀ u ∈ enc x, u.oneCell' = true)
  (B : Nat) (v : Value) (l : List α) (hs : a.eval s = v) (hown : OwnR e k enc B w v l) (ys : List α) (ao : Option Addr) (c : Nat) (hx : a.eval x = .slice ao ys.length c)
  (hsrc : ys = [] ∨ ∃ ad, ao = some ad ∧ ∀ j u, (ys.flatMap enc)[j]? = some u → w.cell? (ad.add j) = some u) (hlen : l.length + ys.length ≤ 1000000) (hb : B ≤ w.heap.size)
  (h : ∀ v' w', OwnR e k enc B w' v' (l ++ ys) → Below B w w' → (∀ b, b < w.heap.size → some b ≠ v.ownBlock → w'.heap[b]? = w.heap[b]?) → wpList Tryz.prog ops Q rest (a.put o.dst v') w') :
  wpList Tryz.prog ops Q (o :: rest) a w := by
 obtain ⟨i0, hi, hz0, hz1, hz2⟩ := info_parts hinfo
 by_cases hys : ys = []
 ·subst hys
  refine wpList_plain hgd fun K hK => ?_
  have hrun := run_append_zerov (P := Tryz.prog) (w := w) B t o.type e i0 k ht hi v l.length (l.flatMap enc) hown ao c
  rw [List.length_nil] at hx
  unfold Oper.wp
  simp [execOp, ho, resolve, invoke, builtin, hs, hx, hrun, Result.andThen]
  exact hK _ _ (h v w (by rw [List.append_nil]; exact hown) (Below.refl _ _) fun _ _ _ => rfl)
 obtain ⟨ad, rfl, hnews⟩ := hsrc.resolve_left hys
 have hpos : 0 < ys.length := List.length_pos_iff.2 hys
 have hby2 : (l.length + ys.length) * bytes ≤ 140737488355328 := by
  have := Nat.mul_le_mul hlen hby
  omega
 have hnl : (ys.flatMap enc).length = ys.length * k := flat_len hk ys
 have h1s : ∀ u ∈ ys.flatMap enc, u.oneCell' = true := fun u hu => by
  obtain ⟨y, -, hy⟩ := List.mem_flatMap.1 hu
  exact h1 y u hy
 have happ : (l ++ ys).flatMap enc = l.flatMap enc ++ ys.flatMap enc := List.flatMap_append
 rcases hown.2 with ⟨rfl, hn⟩ | ⟨g, cap, cur, rfl, hbg, hg, hnc, hcm, hcs, htake⟩
 ·have hl : l = [] := List.eq_nil_of_length_eq_zero hn
  subst hl
  refine wpList_append_grows w hgd s x t ho e i0 z k bytes ht hi hz0 hz1 hz2 hz hk0 none 0 0 [] hs (fun _ => ⟨rfl, rfl⟩) (by simp) (fun b hb => by simp at hb) ad ys.length c (ys.flatMap enc) hx hnl hnews h1s (by omega) (by unfold maxLen; simp only [List.length_nil] at hlen; omega) (by simpa using hby2) fun v' w' r1 r2 => ?_
  have r3 : OwnR e k enc w.heap.size w' v' ([] ++ ys) := by unfold OwnR; rw [happ, List.length_append]; exact r1
  exact h v' w' (r3.base hb) ((Below.refl _ _).grown r2 hb (by simp)) (fun b hb _ => r2.block b hb (by simp))
 ·by_cases hroom : l.length + ys.length ≤ cap
  ·refine wpList_append_fits w hgd s x t ho B e i0 k ht hi hz1 g l.length cap (l.flatMap enc) hs hown ad ys.length c (ys.flatMap enc) hx hnl hnews h1s hroom fun w' r1 r2 => ?_
   refine h _ w' ?_ ((Below.refl _ _).grown r2 hb fun k hk => by simp at hk; subst hk; exact hbg) (fun b hb hne => r2.block b hb hne)
   unfold OwnR; rw [happ, List.length_append]; exact r1
  ·have holds : ∀ b, some (⟨g, 0, none⟩ : Addr) = some b → ∀ j u, (l.flatMap enc)[j]? = some u → w.cell? (b.add j) = some u := fun b hb => by
    simp only [Option.some.injEq] at hb
    subst hb
    exact World.ownsRow.cells hown (g := g) rfl
   refine wpList_append_grows w hgd s x t ho e i0 z k bytes ht hi hz0 hz1 hz2 hz hk0 (some ⟨g, 0, none⟩) l.length cap (l.flatMap enc) hs (fun h => by simp at h) hown.1 holds ad ys.length c (ys.flatMap enc) hx hnl hnews h1s (by omega) (by unfold maxLen; omega) hby2 fun v' w' r1 r2 => ?_
   have r3 : OwnR e k enc w.heap.size w' v' (l ++ ys) := by unfold OwnR; rw [happ, List.length_append]; exact r1
   exact h v' w' (r3.base hb) ((Below.refl _ _).grown r2 hb (by simp)) (fun b hb _ => r2.block b hb (by simp))
end
end Go.Proofs.YtnchohglplobeaaGreat
namespace Go.Proofs.YtnchohglplobeaaGreat
open Go.RowKit Go.Sort
section
variable {α : Type} {c : α → α → Int} {S : α → Prop}
theorem ins_pre {x : α} : ∀ {p q : List α}, (∀ y ∈ p, c y x < 0) → ins c x (p ++ q) = p ++ ins c x q
 | [], _, _ => rfl
 | y :: p, q, h => by
  rw [List.cons_append, ins, if_pos (h y (by simp)), ins_pre fun z hz => h z (by simp [hz])]
  rfl
theorem ins_up (g : Good c S) {x : α} (hx : S x) : ∀ {q : List α}, (∀ y ∈ q, S y) → Rises c q → (∀ y ∈ q, 0 ≤ c y x) → ins c x q = if q.any (fun y => c y x == 0) then q else x :: q
 | [], _, _, _ => rfl
 | y :: q, hS, hr, h => by
  have h0 := h y (by simp)
  rw [ins, if_neg (by omega)]
  by_cases he : c y x = 0
  ·rw [if_pos he]
   simp [he]
  ·rw [if_neg he]
   have hn : ((y :: q).any fun y => c y x == 0) = false := by
    rw [List.any_eq_false]
    intro z hz
    rcases List.mem_cons.1 hz with rfl | hz
    ·simpa using he
    ·have h1 : c y z < 0 := (List.pairwise_cons.1 hr).1 z hz
     intro h2
     have h3 : c z x = 0 := by simpa using h2
     have := g.lt_le (hS y (by simp)) (hS z (by simp [hz])) hx h1 (by omega)
     omega
   rw [hn]
   rfl
theorem take_low (g : Good c S) {x : α} (hx : S x) {l : List α} (hS : ∀ y ∈ l, S y) (hr : Rises c l) {k : Nat} (hk : k ≤ l.length) (hlow : ∀ (h : k - 1 < l.length), 0 < k → c l[k - 1] x < 0) : ∀ y ∈ l.take k, c y x < 0 := by
 intro y hy
 obtain ⟨j, hj, rfl⟩ := List.getElem_of_mem hy
 have hj2 : j < k := by rw [List.length_take] at hj; omega
 have hjl : j < l.length := by omega
 have he : (l.take k)[j] = l[j] := by simp
 rw [he]
 have h1 := hlow (by omega) (by omega)
 by_cases hjk : j = k - 1
 ·subst hjk; exact h1
 ·have h2 : c l[j] l[k - 1] < 0 := List.pairwise_iff_getElem.1 hr j (k - 1) hjl (by omega) (by omega)
  exact g.lt _ _ _ (hS _ (List.getElem_mem _)) (hS _ (List.getElem_mem _)) hx h2 h1
theorem ins_at (g : Good c S) {x : α} (hx : S x) {l : List α} (hS : ∀ y ∈ l, S y) (hr : Rises c l) {k : Nat} (hk : k ≤ l.length) (hlow : ∀ (h : k - 1 < l.length), 0 < k → c l[k - 1] x < 0) (hup : ∀ y ∈ l.drop k, 0 ≤ c y x) :
  ins c x l = if (l.drop k).any (fun y => c y x == 0) then l else l.take k ++ x :: l.drop k := by
 have h1 := take_low g hx hS hr hk hlow
 have h2 := ins_pre (q := l.drop k) h1
 rw [List.take_append_drop] at h2
 rw [h2, ins_up g hx (fun y hy => hS y (List.mem_of_mem_drop hy)) (hr.sublist (List.drop_sublist _ _)) hup]
 split
 ·exact List.take_append_drop _ _
 ·rfl
theorem rises_at (g : Good c S) {x : α} (hx : S x) {l : List α} (hS : ∀ y ∈ l, S y) (hr : Rises c l) {k : Nat} (hk : k ≤ l.length) (hlow : ∀ (h : k - 1 < l.length), 0 < k → c l[k - 1] x < 0) (hup : ∀ y ∈ l.drop k, 0 ≤ c y x) (hn : (l.drop k).any (fun y => c y x == 0) = false) :
  Rises c (l.take k ++ x :: l.drop k) := by
 have h := ins_rises g hx hS hr
 rw [ins_at g hx hS hr hk hlow hup, hn] at h
 exact h
theorem uniq_snoc {l : List α} {x : α} : uniq c (l ++ [x]) = ins c x (uniq c l) := by simp [uniq, List.foldl_append]
theorem drop_pred {l : List α} {k : Nat} (hk : k < l.length) : l.drop k = l[k] :: l.drop (k + 1) := List.drop_eq_getElem_cons hk
theorem perm_at {l m : List α} {x : α} {k : Nat} (h : l.Perm m) : (l.take k ++ x :: l.drop k).Perm (m ++ [x]) := by
 refine List.perm_middle.trans ?_
 rw [List.take_append_drop]
 exact (List.Perm.cons x h).trans (List.perm_append_singleton x m).symm
end
theorem set_next {ps xs : List El} {p : El} (hc : ∀ q ∈ ps ++ [p], Cn q.v) (hx : xs.map (·.v) = uniq ord (ps.map (·.v))) {k : Nat} (hk : k ≤ xs.length)
  (hlow : ∀ (h : k - 1 < xs.length), 0 < k → ord xs[k - 1].v p.v < 0) (hup : ∀ y ∈ xs.drop k, 0 ≤ ord y.v p.v) :
  (if (xs.drop k).any (fun y => ord y.v p.v == 0) then xs else xs.take k ++ p :: xs.drop k).map (·.v) = uniq ord ((ps ++ [p]).map (·.v)) := by
 have c1 : ∀ x ∈ ps.map (·.v), Cn x := fun x hx => by
  obtain ⟨q, hq, rfl⟩ := List.mem_map.1 hx
  exact hc q (by simp [hq])
 have c2 : Cn p.v := hc p (by simp)
 rw [List.map_append, List.map_singleton, uniq_snoc, ← hx]
 have hS : ∀ y ∈ xs.map (·.v), Cn y := fun y hy => c1 y (uniq_sub (by rw [← hx]; exact hy))
 have hr : Rises ord (xs.map (·.v)) := by rw [hx]; exact uniq_rises good_cn cn_only c1
 have key := ins_at good_cn (x := p.v) c2 hS hr (k := k) (by simpa using hk) (fun h h0 => by have := hlow (by simpa using h) h0; simpa using this) (fun y hy => by
  rw [← List.map_drop] at hy
  obtain ⟨z, hz, rfl⟩ := List.mem_map.1 hy
  exact hup z hz)
 rw [key, ← List.map_drop, List.any_map, ← List.map_take]
 show (if _ then _ else _ : List El).map _ = if (xs.drop k).any (fun y => ord y.v p.v == 0) then _ else _
 split
 ·rfl
 ·simp
theorem rec_twice {ns : List ByteArray} {ps : List El} {fs : List Fd} {m : List V} {i : Nat} (hi : i < ns.length) (hl : ns.length = ps.length) (hp : fs.Perm ((zipF ns ps).take i)) {k : Nat} (h : ((fs.map (·.name)).drop k).any (fun y => cmpT y ns[i] == 0) = true) : recC ns m = (13, V0) := by
 have hn : ¬ ns.Nodup := fun hnd => by
  obtain ⟨y, hy, h1⟩ := List.any_eq_true.1 h
  have h2 : y = ns[i] := cmpT_zero (by simpa using h1)
  have hy2 := List.mem_of_mem_drop hy
  have h3 : y ∈ ((zipF ns ps).take i).map (·.name) := (hp.map _).mem_iff.1 hy2
  rw [List.map_take, zipF_names hl, h2] at h3
  obtain ⟨j, hj, he⟩ := List.getElem_of_mem h3
  have hj2 : j < i := by rw [List.length_take] at hj; omega
  rw [List.getElem_take] at he
  have := List.pairwise_iff_getElem.1 hnd j i (by omega) hi hj2
  exact this he
 unfold recC
 rw [if_neg hn]
end Go.Proofs.YtnchohglplobeaaGreat
namespace Go.Proofs.YtnchohglplobeaaGreat
open Go.RowKit Go.Sort
theorem out_new (w : World) (h : Hd) (a b : Value) (t : TypeId) : OutAt (w.alloc (.cells #[.int .i64 h.k, .bool h.b, .int .i64 h.n, .string h.s, .string h.t, .string h.i, a, b] t)) w.heap.size h a b := by
 refine ⟨⟨by simp, fun j v hv => ?_⟩, fun o => ?_⟩
 ·rw [Nat.zero_add, World.cell?_alloc_mark]
  simpa [hdc] using hv
 ·simp [go_sem]
theorem OutSt.putItems {w W : World} {v : V} {vi vn lv : Value} {ps : List El} {k : Int} {a b a' : Value} {xs xs' : List El} {ys : List ByteArray} (h : OutSt w W v vi vn lv ps k a b xs ys) (hi : OwnVv (w.heap.size + 3) W a' xs') (hs : ∀ p ∈ xs', p ∈ ps) :
  OutSt w (W.setCell ⟨w.heap.size + 2, 6, none⟩ a') v vi vn lv ps k a' b xs' ys := h.put (kept_setCellv _ _ _ _) (h.out.items a') hi h.nms hs
theorem OutSt.putNames {w W : World} {v : V} {vi vn lv : Value} {ps : List El} {k : Int} {a b b' : Value} {xs : List El} {ys ys' : List ByteArray} (h : OutSt w W v vi vn lv ps k a b xs ys) (hn : OwnR 9 1 encN (w.heap.size + 3) W b' ys') :
  OutSt w (W.setCell ⟨w.heap.size + 2, 7, none⟩ b') v vi vn lv ps k a b' xs ys' := h.put (kept_setCellv _ _ _ _) (h.out.names b') h.its hn h.sub
end Go.Proofs.YtnchohglplobeaaGreat
namespace Go.Proofs.YtnchohglplobeaaGreat
open Go.RowKit Go.Sort
set_option maxHeartbeats 4000000 in
set_option maxRecDepth 100000 in
theorem rcan_1 (b : Bool) (nn : Int) (s t i : ByteArray) (l : List V) (ns : List ByteArray) (w : World) (vai van : Option Addr) (vci vcn : Nat) (_hb : Bh ⟨1, b, nn, s, t, i⟩) :
  Calls Tryz.prog 89 #[.agg #[.int .i64 1, .bool b, .int .i64 nn, .string s, .string t, .string i, .slice vai l.length vci, .slice van ns.length vcn]] w (CanPost (.mk { hd0 with k := 1, b := b } [] []) 0 w) := by
 go_enter Tryz.func89, Tryz.ntmps89
 go_wp2_with fail
 refine bodyPost_ret (v := .tuple #[.agg #[.int .i64 1, .bool b, .int .i64 0, .string ⟨#[]⟩, .string ⟨#[]⟩, .string ⟨#[]⟩, .slice none 0 0, .slice none 0 0], .int .i64 0]) (by simp [results, Tryz.results89, go_sem]; try rfl) rfl ?_
 exact ⟨none, 0, none, 0, rfl, rep_v.2 ⟨⟨Nat.zero_le _, Nat.zero_le _, Nat.zero_le _⟩, names_nil _ _, none, 0, rfl, ⟨Nat.zero_le _, Nat.zero_le _⟩, .inl rfl⟩, Low.alloc (Low.alloc (Low.alloc (Low.refl w) _) _) _⟩
set_option maxHeartbeats 4000000 in
set_option maxRecDepth 100000 in
theorem rcan_2 (b : Bool) (nn : Int) (s t i : ByteArray) (l : List V) (ns : List ByteArray) (w : World) (vai van : Option Addr) (vci vcn : Nat) (_hb : Bh ⟨2, b, nn, s, t, i⟩) :
  Calls Tryz.prog 89 #[.agg #[.int .i64 2, .bool b, .int .i64 nn, .string s, .string t, .string i, .slice vai l.length vci, .slice van ns.length vcn]] w (CanPost (.mk { hd0 with k := 2, n := nn } [] []) 0 w) := by
 go_enter Tryz.func89, Tryz.ntmps89
 go_wp2_with fail
 refine bodyPost_ret (v := .tuple #[.agg #[.int .i64 2, .bool false, .int .i64 nn, .string ⟨#[]⟩, .string ⟨#[]⟩, .string ⟨#[]⟩, .slice none 0 0, .slice none 0 0], .int .i64 0]) (by simp [results, Tryz.results89, go_sem]; try rfl) rfl ?_
 exact ⟨none, 0, none, 0, rfl, rep_v.2 ⟨⟨Nat.zero_le _, Nat.zero_le _, Nat.zero_le _⟩, names_nil _ _, none, 0, rfl, ⟨Nat.zero_le _, Nat.zero_le _⟩, .inl rfl⟩, Low.alloc (Low.alloc (Low.alloc (Low.refl w) _) _) _⟩
set_option maxHeartbeats 4000000 in
set_option maxRecDepth 100000 in
theorem rcan_3 (b : Bool) (nn : Int) (s t i : ByteArray) (l : List V) (ns : List ByteArray) (w : World) (vai van : Option Addr) (vci vcn : Nat) (hb : Bh ⟨3, b, nn, s, t, i⟩) :
  Calls Tryz.prog 89 #[.agg #[.int .i64 3, .bool b, .int .i64 nn, .string s, .string t, .string i, .slice vai l.length vci, .slice van ns.length vcn]] w (CanPost (.mk { hd0 with k := 3, s := s } [] []) 0 w) := by
 go_enter Tryz.func89, Tryz.ntmps89
 go_wp2_with fail
 refine bodyPost_ret (v := .tuple #[.agg #[.int .i64 3, .bool false, .int .i64 0, .string s, .string ⟨#[]⟩, .string ⟨#[]⟩, .slice none 0 0, .slice none 0 0], .int .i64 0]) (by simp [results, Tryz.results89, go_sem]; try rfl) rfl ?_
 exact ⟨none, 0, none, 0, rfl, rep_v.2 ⟨⟨hb.1, Nat.zero_le _, Nat.zero_le _⟩, names_nil _ _, none, 0, rfl, ⟨Nat.zero_le _, Nat.zero_le _⟩, .inl rfl⟩, Low.alloc (Low.alloc (Low.alloc (Low.refl w) _) _) _⟩
set_option maxHeartbeats 4000000 in
set_option maxRecDepth 100000 in
theorem rcan_4 (b : Bool) (nn : Int) (s t i : ByteArray) (l : List V) (ns : List ByteArray) (w : World) (vai van : Option Addr) (vci vcn : Nat) (hb : Bh ⟨4, b, nn, s, t, i⟩) :
  Calls Tryz.prog 89 #[.agg #[.int .i64 4, .bool b, .int .i64 nn, .string s, .string t, .string i, .slice vai l.length vci, .slice van ns.length vcn]] w (CanPost (.mk { hd0 with k := 4, t := t, i := i } [] []) 0 w) := by
 go_enter Tryz.func89, Tryz.ntmps89
 go_wp2_with fail
 refine bodyPost_ret (v := .tuple #[.agg #[.int .i64 4, .bool false, .int .i64 0, .string ⟨#[]⟩, .string t, .string i, .slice none 0 0, .slice none 0 0], .int .i64 0]) (by simp [results, Tryz.results89, go_sem]; try rfl) rfl ?_
 exact ⟨none, 0, none, 0, rfl, rep_v.2 ⟨⟨Nat.zero_le _, hb.2.1, hb.2.2⟩, names_nil _ _, none, 0, rfl, ⟨Nat.zero_le _, Nat.zero_le _⟩, .inl rfl⟩, Low.alloc (Low.alloc (Low.alloc (Low.refl w) _) _) _⟩
set_option maxHeartbeats 4000000 in
set_option maxRecDepth 100000 in
theorem rcan_lo (k : Int) (hk : k < 1) (b : Bool) (nn : Int) (s t i : ByteArray) (l : List V) (ns : List ByteArray) (w : World) (vai van : Option Addr) (vci vcn : Nat) :
  Calls Tryz.prog 89 #[.agg #[.int .i64 k, .bool b, .int .i64 nn, .string s, .string t, .string i, .slice vai l.length vci, .slice van ns.length vcn]] w (CanPost V0 1 w) := by
 go_enter Tryz.func89, Tryz.ntmps89
 go_wp2_with fail
 refine bodyPost_ret (v := .tuple #[.agg #[.int .i64 0, .bool false, .int .i64 0, .string ⟨#[]⟩, .string ⟨#[]⟩, .string ⟨#[]⟩, .slice none 0 0, .slice none 0 0], .int .i64 1]) (by simp [results, Tryz.results89, go_sem]; try rfl) rfl ?_
 exact ⟨none, 0, none, 0, rfl, rep_V0 _ _, Low.alloc (Low.alloc (Low.refl w) _) _⟩
set_option maxHeartbeats 4000000 in
set_option maxRecDepth 100000 in
theorem rcan_hi (k : Int) (hk : 6 < k) (hk1 : ¬ k < 1) (b : Bool) (nn : Int) (s t i : ByteArray) (l : List V) (ns : List ByteArray) (w : World) (vai van : Option Addr) (vci vcn : Nat) :
  Calls Tryz.prog 89 #[.agg #[.int .i64 k, .bool b, .int .i64 nn, .string s, .string t, .string i, .slice vai l.length vci, .slice van ns.length vcn]] w (CanPost V0 1 w) := by
 go_enter Tryz.func89, Tryz.ntmps89
 go_wp2_with fail
 refine bodyPost_ret (v := .tuple #[.agg #[.int .i64 0, .bool false, .int .i64 0, .string ⟨#[]⟩, .string ⟨#[]⟩, .string ⟨#[]⟩, .slice none 0 0, .slice none 0 0], .int .i64 1]) (by simp [results, Tryz.results89, go_sem]; try rfl) rfl ?_
 exact ⟨none, 0, none, 0, rfl, rep_V0 _ _, Low.alloc (Low.alloc (Low.refl w) _) _⟩
set_option maxHeartbeats 4000000 in
set_option maxRecDepth 100000 in
theorem rcan_ne (b : Bool) (nn : Int) (s t i : ByteArray) (l : List V) (ns : List ByteArray) (w : World) (vai van : Option Addr) (vci vcn : Nat) (hz : ¬ (ns.length : Int) = (l.length : Int)) :
  Calls Tryz.prog 89 #[.agg #[.int .i64 6, .bool b, .int .i64 nn, .string s, .string t, .string i, .slice vai l.length vci, .slice van ns.length vcn]] w (CanPost V0 1 w) := by
 have hz2 : ((ns.length : Int) == (l.length : Int)) = false := by simpa using hz
 go_enter Tryz.func89, Tryz.ntmps89
 go_wp2_with fail
 refine bodyPost_ret (v := .tuple #[.agg #[.int .i64 0, .bool false, .int .i64 0, .string ⟨#[]⟩, .string ⟨#[]⟩, .string ⟨#[]⟩, .slice none 0 0, .slice none 0 0], .int .i64 1]) (by simp [results, Tryz.results89, go_sem]; try rfl) rfl ?_
 exact ⟨none, 0, none, 0, rfl, rep_V0 _ _, Low.alloc (Low.alloc (Low.refl w) _) _⟩
end Go.Proofs.YtnchohglplobeaaGreat
namespace Go.Proofs.YtnchohglplobeaaGreat
open Go.RowKit Go.Sort
theorem calls_grown {P : Program} {f : FuncId} {args : Array Value} {w : World} {n : Nat} {os : Array Obj} {v : Value}
  (h : Calls P f args (grow (w.drewN n) os) fun e w' => e = .returned v ∧ Gr (grow (w.drewN n) os) w') : Calls P f args (grow (w.drewN n) os) fun e w'' => e = .returned v ∧ ∃ p : GrownBy, w'' = grow (w.drewN p.n) p.os := Calls.grown_of h
theorem outSt_new (w : World) (v : V) (vi vn : Value) (k : Int) (t : TypeId) (ps : List El) (hp : ps = []) :
  OutSt w (((w.alloc (.cells #[.int .i64 v.h.k, .bool v.h.b, .int .i64 v.h.n, .string v.h.s, .string v.h.t, .string v.h.i, vi, vn] t)).alloc (.cells #[.int .i64 0, .bool false, .int .i64 0, .string ⟨#[]⟩, .string ⟨#[]⟩, .string ⟨#[]⟩, .slice none 0 0, .slice none 0 0] t)).alloc (.cells #[.int .i64 k, .bool false, .int .i64 0, .string ⟨#[]⟩, .string ⟨#[]⟩, .string ⟨#[]⟩, .slice none 0 0, .slice none 0 0] t)) v vi vn (.slice none 0 0) ps k (.slice none 0 0) (.slice none 0 0) [] [] := by
 subst hp
 obtain ⟨W1, h1⟩ : ∃ W1, W1 = w.alloc (.cells #[.int .i64 v.h.k, .bool v.h.b, .int .i64 v.h.n, .string v.h.s, .string v.h.t, .string v.h.i, vi, vn] t) := ⟨_, rfl⟩
 have s1 : W1.heap.size = w.heap.size + 1 := by rw [h1]; simp
 have hbox : CellsAtv W1 w.heap.size 0 (hdc v.h vi vn) := by
  intro j u hu
  rw [h1, Nat.zero_add, World.cell?_alloc_mark]
  simpa [hdc] using hu
 have L0 : Low w W1 := h1 ▸ Low.alloc (Low.refl w) _
 rw [← h1]
 obtain ⟨W2, h2⟩ : ∃ W2, W2 = W1.alloc (.cells #[.int .i64 0, .bool false, .int .i64 0, .string ⟨#[]⟩, .string ⟨#[]⟩, .string ⟨#[]⟩, .slice none 0 0, .slice none 0 0] t) := ⟨_, rfl⟩
 have s2 : W2.heap.size = w.heap.size + 2 := by rw [h2]; simp [s1]
 have L1 : Low W1 W2 := h2 ▸ Low.alloc (Low.refl W1) _
 have hres : Res W2 (w.heap.size + 1) := by rw [h2, ← s1]; exact res_new W1 t
 rw [← h2]
 have L2 := Low.alloc (Low.refl W2) (.cells #[.int .i64 k, .bool false, .int .i64 0, .string ⟨#[]⟩, .string ⟨#[]⟩, .string ⟨#[]⟩, .slice none 0 0, .slice none 0 0] t)
 refine ⟨(L1.trans L2).cells hbox, hres.low L2, ?_, OwnR.nil _ _ _ _ _, by simp, OwnR.nil _ _ _ _ _, OwnR.nil _ _ _ _ _, by simp, (L0.trans L1).trans L2⟩
 rw [← s2]
 exact out_new W2 { hd0 with k := k } _ _ t
theorem OutSt.mid {w W W' : World} {v : V} {vi vn a b lv : Value} {ps : List El} {k : Int} {A : Nat → Prop} (h : OutSt w W v vi vn (.slice none 0 0) [] k a b [] []) (l : Low W W') (hs : W.heap.size = w.heap.size + 3) (O : OwnVv W.heap.size W' lv ps)
  (E : ∀ p ∈ ps, ElOk (fun b => W.heap.size ≤ b ∧ A b) W' p) : OutSt w W' v vi vn lv ps k a b [] [] := by
 have g := h.grow l
 exact ⟨g.box, g.res, g.out, hs ▸ O, fun p hp => Rep.to (fun c hc _ => ⟨by have := hc.1; omega, rfl⟩) _ (E p hp), g.its, g.nms, by simp, g.low⟩
theorem own_cells {B : Nat} {w : World} {g cap n : Nat} {l : List El} (h : OwnVv B w (.slice (some ⟨g, 0, none⟩) n cap) l) {j : Nat} (hj : j < l.length) :
  w.cell? ⟨g, j * 8, none⟩ = some (.int .i64 l[j].v.h.k) ∧ w.cell? ⟨g, j * 8 + 1, none⟩ = some (.bool l[j].v.h.b) ∧ w.cell? ⟨g, j * 8 + 2, none⟩ = some (.int .i64 l[j].v.h.n) ∧ w.cell? ⟨g, j * 8 + 3, none⟩ = some (.string l[j].v.h.s) ∧
  w.cell? ⟨g, j * 8 + 4, none⟩ = some (.string l[j].v.h.t) ∧ w.cell? ⟨g, j * 8 + 5, none⟩ = some (.string l[j].v.h.i) ∧ w.cell? ⟨g, j * 8 + 6, none⟩ = some (.slice l[j].ai l[j].v.l.length l[j].ci) ∧ w.cell? ⟨g, j * 8 + 7, none⟩ = some (.slice l[j].an l[j].v.ns.length l[j].cn) := by
 have c := fun q (hq : q < 8) => OwnR.cell encV_lenv h j q hj hq
 exact ⟨c 0 (by decide), c 1 (by decide), c 2 (by decide), c 3 (by decide), c 4 (by decide), c 5 (by decide), c 6 (by decide), c 7 (by decide)⟩
theorem sub_at {ps xs : List El} {p : El} (h : ∀ r ∈ xs, r ∈ ps) (hp : p ∈ ps) (k : Nat) : ∀ r ∈ [] ++ xs.take k ++ [p] ++ xs.drop k, r ∈ ps := fun r hr => by
 rw [List.nil_append] at hr
 rcases List.mem_append.1 hr with hr | hr
 ·rcases List.mem_append.1 hr with hr | hr
  ·exact h r (List.mem_of_mem_take hr)
  ·rw [List.mem_singleton.1 hr]; exact hp
 ·exact h r (List.mem_of_mem_drop hr)
theorem sub_at0 {ps xs : List El} {p : El} (h : ∀ r ∈ xs, r ∈ ps) (hp : p ∈ ps) : ∀ r ∈ [] ++ [p] ++ xs.drop 0, r ∈ ps := fun r hr => by
 rcases List.mem_append.1 hr with hr | hr
 ·rw [List.nil_append] at hr
  rw [List.mem_singleton.1 hr]; exact hp
 ·exact h r (List.mem_of_mem_drop hr)
theorem OwnR.shape2 {α : Type} {e : TypeId} {k : Nat} {enc : α → List Value} {B : Nat} {w : World} {v : Value} {l : List α} (h : OwnR e k enc B w v l) : (v = .slice none 0 0 ∧ l = []) ∨ ∃ g cap, v = .slice (some ⟨g, 0, none⟩) l.length cap ∧ l.length ≤ cap := by
 rcases h.2 with ⟨rfl, hn⟩ | ⟨g, cap, cur, rfl, h1, h2, h3, h4, h5⟩
 ·exact .inl ⟨rfl, List.eq_nil_of_length_eq_zero hn⟩
 ·exact .inr ⟨g, cap, rfl, h3⟩
section
variable {α : Type} {e : TypeId} {k : Nat} {enc : α → List Value} {B : Nat} {w : World} {g cap n : Nat} {l : List α}
theorem src_take (h : OwnR e k enc B w (.slice (some ⟨g, 0, none⟩) n cap) l) (m : Nat) : l.take m = [] ∨ ∃ ad, (some ⟨g, 0, none⟩ : Option Addr) = some ad ∧ ∀ j u, ((l.take m).flatMap enc)[j]? = some u → w.cell? (ad.add j) = some u := by
 refine .inr ⟨_, rfl, fun j u hu => World.ownsRow.cells h (g := g) rfl j u ?_⟩
 have e1 : l.flatMap enc = (l.take m).flatMap enc ++ (l.drop m).flatMap enc := by rw [← List.flatMap_append, List.take_append_drop]
 rw [e1, List.getElem?_append_left (List.getElem?_eq_some_iff.1 hu).1]
 exact hu
theorem src_drop (hk : ∀ x, (enc x).length = k) (h : OwnR e k enc B w (.slice (some ⟨g, 0, none⟩) n cap) l) {m : Nat} (hm : m ≤ l.length) (ao : Option Addr) (ho : l.length ≤ m ∨ ao = some ⟨g, m * k, none⟩) : l.drop m = [] ∨ ∃ ad, ao = some ad ∧ ∀ j u, ((l.drop m).flatMap enc)[j]? = some u → w.cell? (ad.add j) = some u := by
 rcases ho with ho | rfl
 ·exact .inl (List.drop_eq_nil_of_le ho)
 ·refine .inr ⟨_, rfl, fun j u hu => ?_⟩
  have := World.ownsRow.cells h (g := g) rfl (m * k + j) u (by
   have e1 : l.flatMap enc = (l.take m).flatMap enc ++ (l.drop m).flatMap enc := by rw [← List.flatMap_append, List.take_append_drop]
   have e2 : ((l.take m).flatMap enc).length = m * k := by rw [flat_len hk, List.length_take, Nat.min_eq_left hm]
   rw [e1, List.getElem?_append_right (by omega), e2, Nat.add_sub_cancel_left]
   exact hu)
  rw [Addr.add_lit, Nat.zero_add] at this
  rw [Addr.add_lit]
  exact this
end
theorem appRn {α : Type} {e : TypeId} {k : Nat} {enc : α → List Value} {ops : Array Oper} {rest : List Oper} {o : Oper} {a : Act} {w : World} {Q : Exit → Act → World → Prop} (hgd : o.guard = none) (s x : Operand) (t : TypeId)
  (ho : o.op = .call { callee := .builtin .append, args := #[s, x], argTypes := #[t, t] }) (ht : Tryz.prog.underlying t = some (.slice e)) {z : Value} {bytes : Nat}
  (hinfo : (Tryz.prog.info? e).map (fun i => (i.zero, i.size, i.bytes)) = some (some z, k, bytes)) (hz : z.cells.size = k) (hk0 : 0 < k) (hby : bytes ≤ 1000)
  (hk : ∀ x, (enc x).length = k) (h1 : ∀ x, ∀ u ∈ enc x, u.oneCell' = true)
  (B : Nat) (v : Value) (l : List α) (hs : a.eval s = v) (hown : OwnR e k enc B w v l) (ys : List α) (ao : Option Addr) (m c : Nat) (hx : a.eval x = .slice ao m c) (hm : m = ys.length)
  (hsrc : ys = [] ∨ ∃ ad, ao = some ad ∧ ∀ j u, (ys.flatMap enc)[j]? = some u → w.cell? (ad.add j) = some u) (hlen : l.length + ys.length ≤ 1000000) (hb : B ≤ w.heap.size)
  (h : ∀ v' w', OwnR e k enc B w' v' (l ++ ys) → Below B w w' → (∀ b, b < w.heap.size → some b ≠ v.ownBlock → w'.heap[b]? = w.heap[b]?) → wpList Tryz.prog ops Q rest (a.put o.dst v') w') :
  wpList Tryz.prog ops Q (o :: rest) a w := by
 subst hm
 exact appRsv hgd s x t ho ht hinfo hz hk0 hby hk h1 B v l hs hown ys ao c hx hsrc hlen hb h
end Go.Proofs.YtnchohglplobeaaGreat
