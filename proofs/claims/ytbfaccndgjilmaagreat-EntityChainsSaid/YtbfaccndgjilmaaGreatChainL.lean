/- Entities one above the other are taken, if the last one is above none; closed to a round they are refused; so is a parent that isn't there. No condition. -/
import Derived.Test.YtbfaccndgjilmaaGreatChnP
import Derived.Test.YtbfaccndgjilmaaGreatOwnS
import Derived.Test.YtbfaccndgjilmaaGreatRCs
import Derived.Test.YtbfaccndgjilmaaGreatTurnL
import Derived.Deep.DeepCutAuto
import Derived.Deep.CutRange
namespace Go.Proofs.YtbfaccndgjilmaaGreat
open Go.RowKit Go.Sort Go.Maps
/-- A row of one name, just built. -/
theorem own_built {B n : Nat} {w : World} {u : Us} (h : w.heap[n]? = some (.cells #[.string u.t, .string u.i] 31 (0, 0))) (hB : B ≤ n) : OwnU B w (.slice (some ⟨n, 0, none⟩) 1 1) [u] :=
  ⟨rfl, .inr ⟨n, 1, #[.string u.t, .string u.i], rfl, hB, h, Nat.le_refl _, by decide, rfl, rfl⟩⟩
theorem flat_setE {v : Value} {q : Ee} : ∀ (l : List Ee) (j c : Nat) (hj : j < l.length), c < 11 → encE q = (encE l[j]).set c v → (l.flatMap encE).set (j * 11 + c) v = (l.set j q).flatMap encE
  | [], j, _, hj, _, _ => absurd hj (Nat.not_lt_zero _)
  | x :: l, 0, c, _, hc, h => by
    rw [List.set_cons_zero, List.flatMap_cons, List.flatMap_cons, Nat.zero_mul, Nat.zero_add, List.set_append_left _ _ (by rw [encE_len]; exact hc)]
    rw [h]; rfl
  | x :: l, j + 1, c, hj, hc, h => by
    have ih := flat_setE l j c (by simpa using hj) hc (by simpa using h)
    rw [List.set_cons_succ, List.flatMap_cons, List.flatMap_cons, ← ih, List.set_append_right _ _ (by rw [encE_len]; omega), encE_len, show (j + 1) * 11 + c - 11 = j * 11 + c by omega]
theorem stored_ps {B : Nat} {w : World} {g n cap : Nat} {cs : List Ee} {j : Nat} {v : Value} (q : Ee) (h : OwnE B w (.slice (some ⟨g, 0, none⟩) n cap) cs) (hj : j < cs.length) (hn : n = cs.length) (hq : encE q = (encE cs[j]).set 2 v) :
    OwnE B (w.setCell ⟨g, j * 11 + 2, none⟩ v) (.slice (some ⟨g, 0, none⟩) n cap) (cs.set j q) := by
  subst hn
  unfold OwnE OwnR at *
  rw [← flat_setE cs j 2 hj (by decide) hq, List.length_set]
  exact (World.ownsRow.stored h (j * 11 + 2) v).1
theorem slice_abc (w : World) (i j : Nat) (z z' : Int) (hz : z = (i : Int)) (hz' : z' = (j : Int)) (hij : i ≤ j) (hj : j ≤ 12) : (Instr.slice 9 (.string ⟨#[97, 98, 99, 100, 101, 102, 103, 104, 105, 106, 107, 108]⟩) (some (.int .i64 z)) (some (.int .i64 z')) none).run Tryz.prog w = .ok (.string (abc.extract i j)) w := by
  subst hz hz'
  have h12 : abc.size = 12 := rfl
  have h := run_slice_string (P := Tryz.prog) w 9 abc .i64 .i64 (i : Int) (j : Int) Tryz.underlying9 (by omega) (by omega) (by rw [h12]; omega)
  simp only [Int.toNat_natCast] at h
  exact h
theorem allocC_at (w : World) (o : Obj) : (w.alloc o).heap[w.heap.size]? = some o := by
  show (w.heap.push o)[w.heap.size]? = _
  simp
theorem allocC_at1 (w : World) (a o : Obj) : ((w.alloc a).alloc o).heap[w.heap.size + 1]? = some o := by
  have := allocC_at (w.alloc a) o
  rwa [show (w.alloc a).heap.size = w.heap.size + 1 from by simp] at this
theorem chL_close (n : Nat) : (chL (n + 1) false false).set n ⟨nmU n, [nmU 0], r0⟩ = chL (n + 1) true false := by
  refine List.ext_getElem (by simp [chL]) fun i h1 h2 => ?_
  have hi : i < n + 1 := by simpa [chL] using h2
  rw [List.getElem_set]
  by_cases e : n = i
  · subst e
    rw [if_pos rfl]
    simp [chL, chE, chP]
  · rw [if_neg e]
    have h3 : i + 1 < n + 1 := by omega
    simp [chL, chE, chP, h3]
theorem nm0 : (nmU 0).i = ⟨#[97]⟩ := by decide +kernel
theorem close_ok {w1 wr : World} {i n g cap : Nat} {ls : List Ee} (O : OwnE w1.heap.size wr (.slice (some ⟨g, 0, none⟩) i cap) ls) (hl : ls.length = i) (hn : i = n + 1) (HF : ∀ p ∈ ls, EeOk (fun b => b ≠ g) wr p) (RO : ∀ p ∈ ls, p.cp = p.e.ps.length) (HK : ensOf ls = chL i false false) (G : Low w1 wr) :
    ∃ LS, OwnE w1.heap.size ((wr.alloc (.cells #[.string ⟨#[85]⟩, .string ⟨#[97]⟩] 31)).setCell ⟨g, n * 11 + 2, none⟩ (.slice (some ⟨wr.heap.size, 0, none⟩) 1 1)) (.slice (some ⟨g, 0, none⟩) i cap) LS ∧
      (∀ p ∈ LS, EeOk (fun b => b ≠ g) ((wr.alloc (.cells #[.string ⟨#[85]⟩, .string ⟨#[97]⟩] 31)).setCell ⟨g, n * 11 + 2, none⟩ (.slice (some ⟨wr.heap.size, 0, none⟩) 1 1)) p) ∧ (∀ p ∈ LS, p.cp = p.e.ps.length) ∧ ensOf LS = chL i true false ∧ LS.length = i ∧
      Low w1 ((wr.alloc (.cells #[.string ⟨#[85]⟩, .string ⟨#[97]⟩] 31)).setCell ⟨g, n * 11 + 2, none⟩ (.slice (some ⟨wr.heap.size, 0, none⟩) 1 1)) := by
  have hlt := World.ownsRow.lt O g rfl
  have hj : n < ls.length := by omega
  obtain ⟨W, hW⟩ : ∃ W, W = (wr.alloc (.cells #[.string ⟨#[85]⟩, .string ⟨#[97]⟩] 31)).setCell ⟨g, n * 11 + 2, none⟩ (.slice (some ⟨wr.heap.size, 0, none⟩) 1 1) := ⟨_, rfl⟩
  have hk1 : ∀ b, b ≠ g → W.heap[b]? = (wr.alloc (.cells #[.string ⟨#[85]⟩, .string ⟨#[97]⟩] 31)).heap[b]? := fun b hb => by
    rw [hW]; exact Below.heap_setCell _ _ _ b hb
  have hk2 : ∀ b, b ≠ g → b < wr.heap.size → W.heap[b]? = wr.heap[b]? := fun b hb hs => (hk1 b hb).trans ((Low.alloc (Low.refl wr) _).2.2.2 b hs)
  have hen : ls[n].e = chE i false false n := by
    have h1 : (ensOf ls)[n]? = some ls[n].e := by unfold ensOf; simp [hj]
    rw [HK] at h1
    have h2 : n < i := by omega
    simpa [chL, h2] using h1.symm
  have hf := HF ls[n] (List.getElem_mem hj)
  obtain ⟨q, hq⟩ : ∃ q : Ee, q = ⟨⟨ls[n].e.u, [nmU 0], ls[n].e.a⟩, some ⟨wr.heap.size, 0, none⟩, 1, ls[n].ai, ls[n].ci, ls[n].an, ls[n].cn⟩ := ⟨_, rfl⟩
  refine ⟨ls.set n q, ?_, ?_, ?_, ?_, by rw [List.length_set, hl], ?_⟩
  · exact stored_ps q (O.alloc _) hj hl.symm (by rw [hq]; rfl)
  · rw [← hW]
    intro p hp
    rcases List.mem_or_eq_of_mem_set hp with h | h
    · exact (HF p h).to fun b hb hs => ⟨hb, hk2 b hb hs⟩
    · subst h
      rw [hq]
      have hu : OwnU wr.heap.size W (.slice (some ⟨wr.heap.size, 0, none⟩) 1 1) [nmU 0] := by
        refine own_built ?_ (Nat.le_refl _)
        rw [hk1 _ (by omega), nm0]
        exact allocC_at _ _
      refine ⟨hu.usIn fun b hb => ?_, Rep.to (fun b hb hs => ⟨hb, hk2 b hb hs⟩) _ hf.2⟩
      have := (World.ownsRow.lt hu b hb).1
      show b ≠ g
      omega
  · intro p hp
    rcases List.mem_or_eq_of_mem_set hp with h | h
    · exact RO p h
    · subst h; rw [hq]; rfl
  · have : ensOf (ls.set n q) = (ensOf ls).set n q.e := by unfold ensOf; rw [List.map_set]
    rw [this, HK, hn, ← chL_close, hq]
    show (chL (n + 1) false false).set n ⟨ls[n].e.u, [nmU 0], ls[n].e.a⟩ = _
    rw [hen]; rfl
  · exact Low.set (Low.alloc G _) _ _ hlt.1
theorem rot_perm {LS : List Ee} {m : List En} (j : Nat) (h : ensOf LS = m) : (ensOf ([] ++ LS.drop j ++ LS.take j)).Perm m := by
  subst h
  unfold ensOf
  refine List.Perm.map _ ?_
  rw [List.nil_append]
  exact List.perm_append_comm.trans (by rw [List.take_append_drop])
theorem mem_rot {LS : List Ee} {j : Nat} {p : Ee} (h : p ∈ [] ++ LS.drop j ++ LS.take j) : p ∈ LS := by
  rw [List.nil_append] at h
  rcases List.mem_append.1 h with h | h
  · exact List.mem_of_mem_drop h
  · exact List.mem_of_mem_take h
theorem few_chL {k : Nat} (hk : k ≤ 12) {cl mi : Bool} {m : List En} (h : m.Perm (chL k cl mi)) : FewE m ∧ ∀ e ∈ m, Sm e.a := by
  have key : ∀ e ∈ m, e.ps.length ≤ 300 ∧ Sm e.a := fun e he => by
    obtain ⟨i, -, rfl⟩ := mem_chL.1 (h.mem_iff.1 he)
    refine ⟨?_, sm_r0⟩
    show (chP k cl mi i).length ≤ 300
    unfold chP
    rw [List.length_append]
    have h1 : (if i + 1 < k then [nmU (i + 1)] else if cl = true then [nmU 0] else []).length ≤ 1 := by
      split
      · simp
      · split <;> simp
    have h2 : (if mi = true ∧ i = 0 then [uVo] else []).length ≤ 1 := by split <;> simp
    omega
  exact ⟨⟨by rw [h.length_eq]; simp [chL]; omega, fun e he => (key e he).1⟩, fun e he => (key e he).2⟩

theorem chP_miss {k : Nat} {cl : Bool} : chP k cl true 0 = chP k cl false 0 ++ [uVo] := by
  unfold chP
  simp
theorem chL_missing {k : Nat} (cl : Bool) : (chL k cl false).set 0 ⟨nmU 0, chP k cl false 0 ++ [uVo], r0⟩ = chL k cl true := by
  refine List.ext_getElem (by simp [chL]) fun i h1 h2 => ?_
  rw [List.getElem_set]
  by_cases e : 0 = i
  · subst e
    rw [if_pos rfl]
    simp [chL, chE, chP_miss]
  · rw [if_neg e]
    have h3 : ¬ i = 0 := fun h => e h.symm
    simp [chL, chE, chP, h3]
theorem us_grows {ops : Array Oper} {rest : List Oper} {o : Oper} {a : Act} {w : World} {Q : Exit → Act → World → Prop} (hgd : o.guard = none) (s x : Operand) (t : TypeId)
    (ho : o.op = .call { callee := .builtin .append, args := #[s, x], argTypes := #[t, t] }) (ht : Tryz.prog.underlying t = some (.slice 31)) (q : Ee) (hs : a.eval s = .slice q.ap q.e.ps.length q.cp) {A : Nat → Prop} (hU : UsIn A w (.slice q.ap q.e.ps.length q.cp) q.e.ps)
    (hcp : q.cp = q.e.ps.length) (hlen : q.e.ps.length ≤ 1) (y : Us) (ad : Addr) (c : Nat) (hx : a.eval x = .slice (some ad) 1 c) (hnews : ∀ j u, y.cs[j]? = some u → w.cell? (ad.add j) = some u)
    (h : ∀ v' w', OwnU w.heap.size w' v' (q.e.ps ++ [y]) → Low w w' → wpList Tryz.prog ops Q rest (a.put o.dst v') w') : wpList Tryz.prog ops Q (o :: rest) a w := by
  obtain ⟨i0, hi, hz0, hz1, hz2⟩ := info_parts u_info
  obtain ⟨ao, c1, hv, -, hx1⟩ := hU
  simp only [Value.slice.injEq, true_and] at hv
  obtain ⟨h1, h2⟩ := hv
  subst h1
  have hnone : q.ap = none → q.e.ps.length = 0 ∧ q.cp = 0 := fun hn => by
    have h0 : q.e.ps.length = 0 := by
      rcases Nat.eq_zero_or_pos q.e.ps.length with h0 | h0
      · exact h0
      · obtain ⟨b, o, e, -⟩ := hx1 0 h0
        rw [hn] at e; simp at e
    exact ⟨h0, hcp.trans h0⟩
  have holds : ∀ b, q.ap = some b → ∀ j u, (q.e.ps.flatMap Us.cs)[j]? = some u → w.cell? (b.add j) = some u := fun b hb j u hu => by
    obtain ⟨l, hl⟩ : ∃ l, l = q.e.ps := ⟨_, rfl⟩
    rw [← hl] at hu hlen hx1
    match l, hu, hlen, hx1 with
    | [], hu, _, _ => simp at hu
    | [p], hu, _, hx1 =>
      obtain ⟨bb, oo, e, -, hc⟩ := hx1 0 (by simp)
      rw [hb] at e
      simp only [Option.some.injEq] at e
      subst e
      rw [Addr.add_lit]
      have := hc j u (by simpa using hu)
      simpa using this
    | _ :: _ :: _, _, hlen, _ => exact absurd hlen (by simp)
  refine wpList_append_grows w hgd s x t ho _ i0 _ 2 32 ht hi hz0 hz1 hz2 rfl (by decide) q.ap q.e.ps.length q.cp (q.e.ps.flatMap Us.cs) hs hnone (by rw [flat_len encU_len]) holds ad 1 c y.cs hx rfl hnews (encU_one y) (by omega) (by unfold maxLen; omega) (by omega) fun v' w' r1 r2 => ?_
  refine h v' w' ?_ (Low.trans_below (Low.refl w) ((Below.refl w.heap.size w).grown r2 (Nat.le_refl _) (by simp)) (Nat.le_refl _))
  show OwnR 31 2 Us.cs w.heap.size w' v' (q.e.ps ++ [y])
  unfold OwnR
  rw [List.flatMap_append, List.length_append]
  simpa using r1
theorem missing_ok {w1 W w5 : World} {i g cap B : Nat} {cl : Bool} {LS : List Ee} {v : Value} (O : OwnE w1.heap.size W (.slice (some ⟨g, 0, none⟩) i cap) LS) (hl : LS.length = i) (h0 : 0 < LS.length) (HF : ∀ p ∈ LS, EeOk (fun b => b ≠ g) W p) (HK : ensOf LS = chL i cl false) (G : Low w1 W)
    (L : Low W w5) (hB : W.heap.size ≤ B) (hv : OwnU B w5 v (LS[0].e.ps ++ [uVo])) :
    ∃ LS', OwnE w1.heap.size (w5.setCell ⟨g, 2, none⟩ v) (.slice (some ⟨g, 0, none⟩) i cap) LS' ∧ (∀ p ∈ LS', EeOk (fun b => b ≠ g) (w5.setCell ⟨g, 2, none⟩ v) p) ∧ ensOf LS' = chL i cl true ∧ LS'.length = i ∧ Low w1 (w5.setCell ⟨g, 2, none⟩ v) := by
  have hlt := World.ownsRow.lt O g rfl
  obtain ⟨X, hX⟩ : ∃ X, X = w5.setCell ⟨g, 2, none⟩ v := ⟨_, rfl⟩
  have hk1 : ∀ b, b ≠ g → X.heap[b]? = w5.heap[b]? := fun b hb => by rw [hX]; exact Below.heap_setCell _ _ _ b hb
  have hk2 : ∀ b, b ≠ g → b < W.heap.size → X.heap[b]? = W.heap[b]? := fun b hb hs => (hk1 b hb).trans (L.2.2.2 b hs)
  have hen : LS[0].e = chE i cl false 0 := by
    have h1 : (ensOf LS)[0]? = some LS[0].e := by unfold ensOf; simp [h0]
    rw [HK] at h1
    have h2 : 0 < i := by omega
    simpa [chL, h2] using h1.symm
  have hf := HF LS[0] (List.getElem_mem h0)
  obtain ⟨ap, cp, rfl, hc1, hc2, -⟩ := id hv.shape
  obtain ⟨q, hq⟩ : ∃ q : Ee, q = ⟨⟨LS[0].e.u, LS[0].e.ps ++ [uVo], LS[0].e.a⟩, ap, cp, LS[0].ai, LS[0].ci, LS[0].an, LS[0].cn⟩ := ⟨_, rfl⟩
  refine ⟨LS.set 0 q, ?_, ?_, ?_, by rw [List.length_set, hl], ?_⟩
  · exact stored_ps (j := 0) q (OwnR.low O L) h0 hl.symm (by rw [hq]; rfl)
  · rw [← hX]
    intro p hp
    rcases List.mem_or_eq_of_mem_set hp with h | h
    · exact (HF p h).to fun b hb hs => ⟨hb, hk2 b hb hs⟩
    · subst h
      rw [hq]
      have hu : OwnU B X (.slice ap (LS[0].e.ps ++ [uVo]).length cp) (LS[0].e.ps ++ [uVo]) := OwnR.to hv fun b hb => hk1 b (by have := (World.ownsRow.lt hv b hb).1; omega)
      refine ⟨hu.usIn fun b hb => ?_, Rep.to (fun b hb hs => ⟨hb, hk2 b hb hs⟩) _ hf.2⟩
      have := (World.ownsRow.lt hu b hb).1
      show b ≠ g
      omega
  · have : ensOf (LS.set 0 q) = (ensOf LS).set 0 q.e := by unfold ensOf; rw [List.map_set]
    rw [this, HK, ← chL_missing, hq]
    show (chL i cl false).set 0 ⟨LS[0].e.u, LS[0].e.ps ++ [uVo], LS[0].e.a⟩ = _
    rw [hen]; rfl
  · exact Low.set (G.trans L) _ _ hlt.1
set_option maxHeartbeats 16000000 in
set_option maxRecDepth 100000 in
theorem entityChains_v (nb : Int) (h0 : 0 ≤ nb) (_ : nb ≤ 255) (cl mi : Bool) (tb : Int) (t0 : 0 ≤ tb) (_ : tb ≤ 255) (w : World) : Calls Tryz.prog 5 #[.int .u8 nb, .bool cl, .bool mi, .int .u8 tb] w fun e w' => e = .returned (.bool true) ∧ Low w w' := by
  obtain ⟨k, hk⟩ : ∃ k : Nat, (k : Int) = 1 + nb % 12 := ⟨(1 + nb % 12).toNat, by omega⟩
  have hk0 : 0 < k := by omega
  have hk12 : k ≤ 12 := by omega
  have f1 : Int.tmod nb 12 = nb % 12 := Int.tmod_eq_emod_of_nonneg h0
  have f2 : IntKind.u8.wrap (nb % 12) = nb % 12 := by rw [IntKind.wrap_u8]; omega
  have f3 : IntKind.i64.wrap (nb % 12) = nb % 12 := by rw [IntKind.wrap_i64]; omega
  have f4 : IntKind.i64.wrap (1 + nb % 12) = (k : Int) := by rw [hk, IntKind.wrap_i64]; omega
  clear hk
  go_enter Tryz.func5, Tryz.ntmps5
  go_wp2_with fail
  refine (awake5_c _).mono ?_
  rintro e w1 ⟨rfl, l1⟩
  have L1 := Lib.hid l1
  clear l1
  go_wp2_with fail
  go_loopg [11, 12] k (fun gk vs vi wr => ∃ (vl : Value) (i : Nat) (ls : List Ee), vl = vs ∧ vi = .int .i64 (i : Int) ∧ i ≤ k ∧ k - i ≤ gk ∧ ls.length = i ∧ Hid (Low w1 wr) ∧ Hid (OwnE w1.heap.size wr vl ls) ∧ Hid (ensOf ls = (chL k false false).take i) ∧ Hid (∀ p ∈ ls, EeOk (fun b => some b ≠ vl.ownBlock) wr p) ∧ Hid (∀ p ∈ ls, p.cp = p.e.ps.length))
  case atStart => exact ⟨_, 0, [], rfl, rfl, Nat.zero_le _, Nat.le_refl _, rfl, Lib.hid (Low.refl _), Lib.hid (OwnR.nil _ _ _ _ _), Lib.hid rfl, Lib.hid fun p hp => by simp at hp, Lib.hid fun p hp => by simp at hp⟩
  case round =>
    obtain ⟨vl, i, ls, rfl, rfl, hi, hg, hll, G, O, K, EL, RO⟩ := hrel
    have HLL := Lib.hid hll
    clear hll
    by_cases hlt : i < k
    · have zl : (i : Int) < (k : Int) := by omega
      have z12 : (i : Int) + 1 ≤ 12 := by omega
      have hw1 : IntKind.i64.wrap ((i : Int) + 1) = (i : Int) + 1 := by rw [IntKind.wrap_i64]; omega
      have hw2 : IntKind.i64.wrap ((i : Int) + 2) = (i : Int) + 2 := by rw [IntKind.wrap_i64]; omega
      have htk : (chL k false false).take (i + 1) = (chL k false false).take i ++ [chE k false false i] := by
        have hl : i < (chL k false false).length := by simpa [chL] using hlt
        rw [List.take_succ_eq_append_getElem hl]
        simp [chL]
      have HTK := Lib.hid htk
      have HSZ := Lib.hid G.out.size
      have s1 := slice_abc wr i (i + 1) (i : Int) ((i : Int) + 1) rfl (by omega) (by omega) (by omega)
      clear htk
      by_cases hik : i + 1 < k
      · have zk : (i : Int) + 1 < (k : Int) := by omega
        have z13 : (i : Int) + 2 ≤ 12 := by omega
        have s2 : ∀ X, _ := fun X => slice_abc (wr.alloc X) (i + 1) (i + 2) ((i : Int) + 1) ((i : Int) + 2) (by omega) (by omega) (by omega) (by omega)
        obtain ⟨y, hy⟩ : ∃ y : Ee, y = ⟨⟨nmU i, [nmU (i + 1)], r0⟩, some ⟨wr.heap.size + 1, 0, none⟩, 1, none, 0, none, 0⟩ := ⟨_, rfl⟩
        have HY := Lib.hid hy
        clear hy
        go_wp2_with (first
          | (at_builtin; refine appR rfl _ _ _ rfl Tryz.underlying22 e_info rfl (by decide) (by decide) encE_len encE_one w1.heap.size vl ls rfl (((O.out.alloc _).alloc _).alloc _) ⟨⟨nmU i, [nmU (i + 1)], r0⟩, some ⟨wr.heap.size + 1, 0, none⟩, 1, none, 0, none, 0⟩ ⟨wr.heap.size + 1 + 1, 0, none⟩ 1 rfl (fun j u hj => newcell_at _ _ _ _ _ rfl hj) (by have := HLL.out; omega) (by have := HSZ.out; simp; omega) ?_; intro v2 w4 h2 b2 k2 n2))
        have H2 := Lib.hid h2
        have HBL := Lib.hid b2
        have HK2 := Lib.hid k2
        have HN2 := Lib.hid n2
        clear h2 b2 k2 n2
        go_wp2_with fail
        go_roundg (k - (i + 1))
        case measure => omega
        case rel =>
          have hvl : ∀ g, vl.ownBlock = some g → g < wr.heap.size := fun g hg => (World.ownsRow.lt O.out g hg).2
          have hU : ∀ X, OwnU wr.heap.size ((wr.alloc X).alloc (.cells #[.string (nmU (i + 1)).t, .string (nmU (i + 1)).i] 31)) (.slice (some ⟨wr.heap.size + 1, 0, none⟩) 1 1) [nmU (i + 1)] := fun X => own_built (allocC_at1 wr X _) (Nat.le_succ _)
          refine ⟨v2, i + 1, ls ++ [⟨⟨nmU i, [nmU (i + 1)], r0⟩, some ⟨wr.heap.size + 1, 0, none⟩, 1, none, 0, none, 0⟩], rfl, by go_num, by omega, by omega, by simp [HLL.out], Lib.hid (((Low.alloc (Low.alloc (Low.alloc G.out _) _) _)).trans_belowU HBL.out (Nat.le_refl _)), H2, Lib.hid ?_, Lib.hid ?_, Lib.hid ?_⟩
          · rw [HTK.out, ← K.out]
            unfold ensOf
            rw [List.map_append]
            simp [chE, chP, hik]
          · exact ee_stepA rfl G.out EL.out (Low.alloc (Low.alloc (Low.refl _) _) _) (Low.alloc (Low.refl _) _) O.out (hU _) rfl (rep_r0 _) HK2.out HN2.out H2.out
          · intro p hp
            rcases List.mem_append.1 hp with h | h
            · exact RO.out p h
            · simp at h
              subst h
              rfl
      · have zk : ¬ (i : Int) + 1 < (k : Int) := by omega
        go_wp2_with (first
          | (at_builtin; refine appR rfl _ _ _ rfl Tryz.underlying22 e_info rfl (by decide) (by decide) encE_len encE_one w1.heap.size vl ls rfl ((O.out.alloc _).alloc _) ⟨⟨nmU i, [], r0⟩, none, 0, none, 0, none, 0⟩ ⟨wr.heap.size + 1, 0, none⟩ 1 rfl (fun j u hj => newcell_at _ _ _ _ _ rfl hj) (by have := HLL.out; omega) (by have := HSZ.out; simp; omega) ?_; intro v2 w4 h2 b2 k2 n2))
        have H2 := Lib.hid h2
        have HBL := Lib.hid b2
        have HK2 := Lib.hid k2
        have HN2 := Lib.hid n2
        clear h2 b2 k2 n2
        go_wp2_with fail
        go_roundg (k - (i + 1))
        case measure => omega
        case rel =>
          have hvl : ∀ g, vl.ownBlock = some g → g < wr.heap.size := fun g hg => (World.ownsRow.lt O.out g hg).2
          have hU : ∀ X, OwnU wr.heap.size (wr.alloc X) (.slice none 0 0) [] := fun X => OwnR.nil _ _ _ _ _
          refine ⟨v2, i + 1, ls ++ [⟨⟨nmU i, [], r0⟩, none, 0, none, 0, none, 0⟩], rfl, by go_num, by omega, by omega, by simp [HLL.out], Lib.hid (((Low.alloc (Low.alloc G.out _) _)).trans_belowU HBL.out (Nat.le_refl _)), H2, Lib.hid ?_, Lib.hid ?_, Lib.hid ?_⟩
          · rw [HTK.out, ← K.out]
            unfold ensOf
            rw [List.map_append]
            simp [chE, chP, hik]
          · exact ee_stepA rfl G.out EL.out (Low.alloc (Low.refl _) _) (Low.alloc (Low.refl _) _) O.out (hU _) rfl (rep_r0 _) HK2.out HN2.out H2.out
          · intro p hp
            rcases List.mem_append.1 hp with h | h
            · exact RO.out p h
            · simp at h
              subst h
              rfl
    · have zl : ¬ (i : Int) < (k : Int) := by omega
      obtain rfl : i = k := by omega
      have HK := Lib.hid (show ensOf ls = chL i false false from by have := K.out; rwa [List.take_of_length_le (by simp [chL])] at this)
      rcases OwnR.shape2 O.out with ⟨-, h0⟩ | ⟨g, cap, rfl, hcap⟩
      · exfalso; have := HLL.out; rw [h0] at this; simp at this; omega
      have hcap9 : cap ≤ 9223372036854775807 := by
        obtain ⟨ao, c2, h1, -, h3, -⟩ := O.out.shape
        simp only [Value.slice.injEq] at h1
        obtain ⟨-, -, rfl⟩ := h1
        exact h3
      rw [HLL.out] at O hcap ⊢
      have HF := Lib.hid (show ∀ p ∈ ls, EeOk (fun b => b ≠ g) wr p from fun p hp => (EL.out p hp).to fun b hb _ => ⟨fun e => hb (by rw [e]; rfl), rfl⟩)
      clear EL
      obtain ⟨n, hn⟩ : ∃ n, i = n + 1 := ⟨i - 1, by omega⟩
      have f5 : IntKind.i64.wrap ((i : Int) - 1) = (n : Int) := by rw [IntKind.wrap_i64]; omega
      have zn : (n : Int) < (i : Int) := by omega
      have z0 : (0 : Int) < (i : Int) := by omega
      have hn2 : n < ls.length := by rw [HLL.out]; omega
      have HN := Lib.hid hn
      have HG0 := Lib.hid (show 0 < i ∧ i ≤ 12 from ⟨hk0, hk12⟩)
      obtain ⟨j, hj⟩ : ∃ j : Nat, (j : Int) = tb % (i : Int) := ⟨(tb % (i : Int)).toNat, by have := Int.emod_nonneg tb (show (i : Int) ≠ 0 by omega); omega⟩
      have hji : j < i := by have := Int.emod_lt_of_pos tb (show (0 : Int) < i by omega); omega
      have fm : tb % (i : Int) = (j : Int) := hj.symm
      have fm2 : Int.tmod tb (i : Int) = (j : Int) := by rw [Int.tmod_eq_emod_of_nonneg t0, hj]
      have zj0 : (0 : Int) ≤ (j : Int) := by omega
      have zj1 : (j : Int) ≤ (i : Int) := by omega
      have zj2 : (j : Int) ≤ (cap : Int) := by omega
      have zj3 : (j : Int) < (i : Int) := by omega
      have zj4 : (j : Int) < (cap : Int) := by omega
      have HJ := Lib.hid hji
      clear hn hg hi hj
      rcases cl with _ | _
      · rcases mi with _ | _
        · skip
          obtain ⟨LS, oc, ec, rc, kc, zc, lc⟩ : ∃ LS, OwnE w1.heap.size wr (.slice (some ⟨g, 0, none⟩) i cap) LS ∧ (∀ p ∈ LS, EeOk (fun b => b ≠ g) wr p) ∧ (∀ p ∈ LS, p.cp = p.e.ps.length) ∧ ensOf LS = chL i false false ∧ LS.length = i ∧ Low w1 wr := ⟨ls, O.out, HF.out, RO.out, HK.out, HLL.out, G.out⟩
          have OC := Lib.hid oc
          have EC := Lib.hid ec
          have RC := Lib.hid rc
          have KC := Lib.hid kc
          have ZC := Lib.hid zc
          have LC := Lib.hid lc
          clear oc ec rc kc zc lc
          go_wp2_with (first
            | (at_builtin; (refine appRn rfl _ _ _ rfl Tryz.underlying22 e_info rfl (by decide) (by decide) encE_len encE_one _ v1 ([] ++ LS.drop j) rfl H1.out (LS.take j) _ _ _ rfl (by rw [List.length_take, ZC.out, Nat.min_eq_left (Nat.le_of_lt HJ.out)]; try rfl; try simp) (src_take (OwnR.low OC.out LX1.out) j) (by have := ZC.out; have := HG0.out; simp; omega) LX1.out.size ?_; intro v2 w2' h2 b2 k2; have H2 := Lib.hid h2; have L2 := Lib.hid (LX1.out.trans_below b2 (Nat.le_refl _)); clear h2 b2 k2))
            | (at_builtin; (refine appRn rfl _ _ _ rfl Tryz.underlying22 e_info rfl (by decide) (by decide) encE_len encE_one _ (.slice none 0 0) [] rfl (OwnR.nil _ _ _ _ _) (LS.drop j) _ _ _ rfl (by rw [List.length_drop, ZC.out]; try rfl; try simp) (src_drop encE_len OC.out (by have := ZC.out; have := HJ.out; omega) _ (by first | exact .inr rfl | (simp; done) | (have := ZC.out; simp; omega))) (by have := ZC.out; have := HG0.out; simp; omega) (Nat.le_refl _) ?_; intro v1 w1' h1 b1 k1; have H1 := Lib.hid h1; have LX1 := Lib.hid (Low.trans_below (Low.refl _) b1 (Nat.le_refl _)); clear h1 b1 k1)))
          obtain ⟨RS, hRS⟩ : ∃ RS, RS = [] ++ LS.drop j ++ LS.take j := ⟨_, rfl⟩
          rw [← hRS] at H2
          have hper : (ensOf RS).Perm (chL i false false) := by rw [hRS]; exact rot_perm j KC.out
          have hEt : EtAt w2' v2 RS := ⟨H2.out.esAt, fun p hp => (EeOk.any (EC.out p (mem_rot (by rw [← hRS]; exact hp)))).low L2.out⟩
          have hfw := few_chL HG0.out.2 hper
          have CN := Lib.hid (can_chain HG0.out.1 HG0.out.2 false false hper)
          have hlr : RS.length ≤ 300 := by have := hfw.1.1; unfold ensOf at this; rwa [List.length_map] at this
          have CC := Lib.hid (eCanon_c RS w2' v2 hEt hfw.1 fun q hq => hfw.2 q.e (by unfold ensOf; exact List.mem_map_of_mem hq))
          have HET := Lib.hid hEt
          have HFW := Lib.hid hfw
          clear hRS hper hEt hfw
          obtain ⟨h00, z, r, hz, hzu, hlen⟩ := CN.out.2.2.1 rfl rfl
          obtain ⟨c1, res, hres⟩ : ∃ c1 res, canE canD (ensOf RS) = (c1, res) := ⟨_, _, rfl⟩
          rw [hres] at h00 hz hlen
          change c1 = 0 at h00
          change res = z :: r at hz
          change res.length = i at hlen
          subst h00
          rw [hres] at CC
          clear hres
          refine CC.out.mono ?_
          rintro e w3 ⟨v3, rfl, l3, rs, hrs, het⟩
          obtain ⟨ao, c, rfl, ⟨hlc, hc9⟩, hx⟩ := het.at
          change ensOf rs = res at hrs
          have hrl : rs.length = i := by rw [← hlen, ← hrs]; unfold ensOf; rw [List.length_map]
          have hr0 : 0 < rs.length := by rw [hrl]; exact HG0.out.1
          obtain ⟨b, o, rfl, hcs⟩ := hx 0 hr0
          have hui : rs[0].e.u.i = ⟨#[97]⟩ := by
            have h1 : (ensOf rs)[0]? = some rs[0].e := by unfold ensOf; simp [hr0]
            rw [hrs, hz] at h1
            have h2 : z = rs[0].e := by simpa using h1
            rw [← h2, hzu, nm0]
          rw [Nat.zero_mul, Nat.add_zero] at hcs
          obtain ⟨e0, e1, -, -, -, -, -, -, -, -, -⟩ := ent_cells hcs
          change w3.cell? _ = some (.string rs[0].e.u.i) at e1
          rw [hui] at e1
          rw [hrl] at hlc ⊢
          clear e0 hcs hx hui hrs hlen hz hzu het
          have RD := Lib.hid (round_c (RS.map Ee.sh) (PE (ensOf RS)) w3 v2 (by simp; omega) (HET.out.1.low l3) ((rowsE HET.out.2 HFW.out.1).low l3))
          have L3 := Lib.hid l3
          clear l3 CC
          go_wp2_with fail
          refine RD.out.mono ?_
          rintro e w4 ⟨p, rfl, hp, l4⟩
          rw [round_word] at hp
          obtain rfl : p = false := by cases p; rfl; exact absurd (CN.out.2.2.2.1 (hp.1 rfl)) (by decide)
          have L4 := Lib.hid l4
          clear hp l4 RD
          go_wp2_with fail
          go_ret
          exact ⟨rfl, L1.out.trans (LC.out.trans (L2.out.trans (L3.out.trans L4.out)))⟩
        · skip
          obtain ⟨LS0, oc, ec, rc, kc, zc, lc⟩ : ∃ LS, OwnE w1.heap.size wr (.slice (some ⟨g, 0, none⟩) i cap) LS ∧ (∀ p ∈ LS, EeOk (fun b => b ≠ g) wr p) ∧ (∀ p ∈ LS, p.cp = p.e.ps.length) ∧ ensOf LS = chL i false false ∧ LS.length = i ∧ Low w1 wr := ⟨ls, O.out, HF.out, RO.out, HK.out, HLL.out, G.out⟩
          have OC0 := Lib.hid oc
          have EC0 := Lib.hid ec
          have RC0 := Lib.hid rc
          have KC0 := Lib.hid kc
          have ZC0 := Lib.hid zc
          have LC0 := Lib.hid lc
          clear oc ec rc kc zc lc
          have h00 : 0 < LS0.length := by rw [ZC0.out]; exact HG0.out.1
          have hl1 : LS0[0].e.ps.length ≤ 1 := by
            have h1 : (ensOf LS0)[0]? = some LS0[0].e := by unfold ensOf; simp [h00]
            rw [KC0.out] at h1
            have h2 : 0 < i := HG0.out.1
            have h3 : LS0[0].e = chE i false false 0 := by simpa [chL, h2] using h1.symm
            rw [h3]
            show (chP i false false 0).length ≤ 1
            unfold chP
            simp
            split <;> simp
          have HL1 := Lib.hid hl1
          have d2 := OC0.out.cell encE_len 0 2 h00 (by decide)
          change World.cell? _ ⟨g, 2, none⟩ = some (.slice LS0[0].ap LS0[0].e.ps.length LS0[0].cp) at d2
          clear hl1
          go_wp2_with (first
            | (at_builtin; (refine appRn rfl _ _ _ rfl Tryz.underlying22 e_info rfl (by decide) (by decide) encE_len encE_one _ v1 ([] ++ LS.drop j) rfl H1.out (LS.take j) _ _ _ rfl (by rw [List.length_take, ZC.out, Nat.min_eq_left (Nat.le_of_lt HJ.out)]; try rfl; try simp) (src_take (OwnR.low OC.out LX1.out) j) (by have := ZC.out; have := HG0.out; simp; omega) LX1.out.size ?_; intro v2 w2' h2 b2 k2; have H2 := Lib.hid h2; have L2 := Lib.hid (LX1.out.trans_below b2 (Nat.le_refl _)); clear h2 b2 k2))
            | (at_builtin; (refine us_grows rfl _ _ _ rfl Tryz.underlying29 LS0[0] rfl ((EC0.out LS0[0] (List.getElem_mem h00)).low (Low.alloc (Low.refl _) _)).1 (RC0.out _ (List.getElem_mem h00)) HL1.out uVo ⟨_, 0, none⟩ 1 rfl (fun j u hj => newcell_at _ _ _ _ _ rfl hj) ?_; intro v5 w5 h5 l5; obtain ⟨ap5, N5, cp5, rfl⟩ : ∃ ap N cp, v5 = .slice ap N cp := (by obtain ⟨x1, x2, x3, -⟩ := h5.shape; exact ⟨x1, _, x2, x3⟩); obtain ⟨LS, oc, ec, kc, zc, lc⟩ := missing_ok OC0.out ZC0.out h00 EC0.out KC0.out LC0.out ((Low.alloc (Low.refl _) _).trans l5) (Low.alloc (Low.refl _) _).size h5; have OC := Lib.hid oc; have EC := Lib.hid ec; have KC := Lib.hid kc; have ZC := Lib.hid zc; have LC := Lib.hid lc; have o5 := OwnR.low OC0.out ((Low.alloc (Low.refl _) _).trans l5); have d5 := o5.cell encE_len 0 2 h00 (by decide); have f6 := o5.frozen 2; change World.cell? _ ⟨g, 2, none⟩ = some (.slice LS0[0].ap LS0[0].e.ps.length LS0[0].cp) at d5; clear oc ec kc zc lc o5 h5 l5))
            | (at_builtin; (refine appRn rfl _ _ _ rfl Tryz.underlying22 e_info rfl (by decide) (by decide) encE_len encE_one _ (.slice none 0 0) [] rfl (OwnR.nil _ _ _ _ _) (LS.drop j) _ _ _ rfl (by rw [List.length_drop, ZC.out]; try rfl; try simp) (src_drop encE_len OC.out (by have := ZC.out; have := HJ.out; omega) _ (by first | exact .inr rfl | (simp; done) | (have := ZC.out; simp; omega))) (by have := ZC.out; have := HG0.out; simp; omega) (Nat.le_refl _) ?_; intro v1 w1' h1 b1 k1; have H1 := Lib.hid h1; have LX1 := Lib.hid (Low.trans_below (Low.refl _) b1 (Nat.le_refl _)); clear h1 b1 k1)))
          obtain ⟨RS, hRS⟩ : ∃ RS, RS = [] ++ LS.drop j ++ LS.take j := ⟨_, rfl⟩
          rw [← hRS] at H2
          have hper : (ensOf RS).Perm (chL i false true) := by rw [hRS]; exact rot_perm j KC.out
          have hEt : EtAt w2' v2 RS := ⟨H2.out.esAt, fun p hp => (EeOk.any (EC.out p (mem_rot (by rw [← hRS]; exact hp)))).low L2.out⟩
          have hfw := few_chL HG0.out.2 hper
          have CN := Lib.hid (can_chain HG0.out.1 HG0.out.2 false true hper)
          have hlr : RS.length ≤ 300 := by have := hfw.1.1; unfold ensOf at this; rwa [List.length_map] at this
          have CC := Lib.hid (eCanon_c RS w2' v2 hEt hfw.1 fun q hq => hfw.2 q.e (by unfold ensOf; exact List.mem_map_of_mem hq))
          have HET := Lib.hid hEt
          have HFW := Lib.hid hfw
          clear hRS hper hEt hfw
          rw [CN.out.1 rfl] at CC
          refine CC.out.mono ?_
          rintro e w3 ⟨v3, rfl, l3, rs, hrs, het⟩
          have RD := Lib.hid (round_c (RS.map Ee.sh) (PE (ensOf RS)) w3 v2 (by simp; omega) (HET.out.1.low l3) ((rowsE HET.out.2 HFW.out.1).low l3))
          have L3 := Lib.hid l3
          clear l3 CC
          go_wp2_with fail
          refine RD.out.mono ?_
          rintro e w4 ⟨p, rfl, hp, l4⟩
          rw [round_word] at hp
          obtain rfl : p = false := by cases p; rfl; exact absurd (CN.out.2.2.2.1 (hp.1 rfl)) (by decide)
          have L4 := Lib.hid l4
          clear hp l4 RD
          go_wp2_with fail
          go_ret
          exact ⟨rfl, L1.out.trans (LC.out.trans (L2.out.trans (L3.out.trans L4.out)))⟩
      · skip
        have cX : ∀ X, _ := fun X => (O.out.alloc X).cell encE_len n 2 hn2 (by decide)
        have fX : ∀ X, _ := fun X => (O.out.alloc X).frozen (n * 11 + 2)
        rcases mi with _ | _
        · skip
          obtain ⟨LS, oc, ec, rc, kc, zc, lc⟩ := close_ok O.out HLL.out HN.out HF.out RO.out HK.out G.out
          have OC := Lib.hid oc
          have EC := Lib.hid ec
          have RC := Lib.hid rc
          have KC := Lib.hid kc
          have ZC := Lib.hid zc
          have LC := Lib.hid lc
          clear oc ec rc kc zc lc
          go_wp2_with (first
            | (at_builtin; (refine appRn rfl _ _ _ rfl Tryz.underlying22 e_info rfl (by decide) (by decide) encE_len encE_one _ v1 ([] ++ LS.drop j) rfl H1.out (LS.take j) _ _ _ rfl (by rw [List.length_take, ZC.out, Nat.min_eq_left (Nat.le_of_lt HJ.out)]; try rfl; try simp) (src_take (OwnR.low OC.out LX1.out) j) (by have := ZC.out; have := HG0.out; simp; omega) LX1.out.size ?_; intro v2 w2' h2 b2 k2; have H2 := Lib.hid h2; have L2 := Lib.hid (LX1.out.trans_below b2 (Nat.le_refl _)); clear h2 b2 k2))
            | (at_builtin; (refine appRn rfl _ _ _ rfl Tryz.underlying22 e_info rfl (by decide) (by decide) encE_len encE_one _ (.slice none 0 0) [] rfl (OwnR.nil _ _ _ _ _) (LS.drop j) _ _ _ rfl (by rw [List.length_drop, ZC.out]; try rfl; try simp) (src_drop encE_len OC.out (by have := ZC.out; have := HJ.out; omega) _ (by first | exact .inr rfl | (simp; done) | (have := ZC.out; simp; omega))) (by have := ZC.out; have := HG0.out; simp; omega) (Nat.le_refl _) ?_; intro v1 w1' h1 b1 k1; have H1 := Lib.hid h1; have LX1 := Lib.hid (Low.trans_below (Low.refl _) b1 (Nat.le_refl _)); clear h1 b1 k1)))
          obtain ⟨RS, hRS⟩ : ∃ RS, RS = [] ++ LS.drop j ++ LS.take j := ⟨_, rfl⟩
          rw [← hRS] at H2
          have hper : (ensOf RS).Perm (chL i true false) := by rw [hRS]; exact rot_perm j KC.out
          have hEt : EtAt w2' v2 RS := ⟨H2.out.esAt, fun p hp => (EeOk.any (EC.out p (mem_rot (by rw [← hRS]; exact hp)))).low L2.out⟩
          have hfw := few_chL HG0.out.2 hper
          have CN := Lib.hid (can_chain HG0.out.1 HG0.out.2 true false hper)
          have hlr : RS.length ≤ 300 := by have := hfw.1.1; unfold ensOf at this; rwa [List.length_map] at this
          have CC := Lib.hid (eCanon_c RS w2' v2 hEt hfw.1 fun q hq => hfw.2 q.e (by unfold ensOf; exact List.mem_map_of_mem hq))
          have HET := Lib.hid hEt
          have HFW := Lib.hid hfw
          clear hRS hper hEt hfw
          rw [CN.out.2.1 rfl rfl] at CC
          refine CC.out.mono ?_
          rintro e w3 ⟨v3, rfl, l3, rs, hrs, het⟩
          have RD := Lib.hid (round_c (RS.map Ee.sh) (PE (ensOf RS)) w3 v2 (by simp; omega) (HET.out.1.low l3) ((rowsE HET.out.2 HFW.out.1).low l3))
          have L3 := Lib.hid l3
          clear l3 CC
          go_wp2_with fail
          refine RD.out.mono ?_
          rintro e w4 ⟨p, rfl, hp, l4⟩
          rw [round_word] at hp
          obtain rfl : p = true := hp.2 (CN.out.2.2.2.2 (by trivial))
          have L4 := Lib.hid l4
          clear hp l4 RD
          go_wp2_with fail
          go_ret
          exact ⟨rfl, L1.out.trans (LC.out.trans (L2.out.trans (L3.out.trans L4.out)))⟩
        · skip
          obtain ⟨LS0, oc, ec, rc, kc, zc, lc⟩ := close_ok O.out HLL.out HN.out HF.out RO.out HK.out G.out
          have OC0 := Lib.hid oc
          have EC0 := Lib.hid ec
          have RC0 := Lib.hid rc
          have KC0 := Lib.hid kc
          have ZC0 := Lib.hid zc
          have LC0 := Lib.hid lc
          clear oc ec rc kc zc lc
          have h00 : 0 < LS0.length := by rw [ZC0.out]; exact HG0.out.1
          have hl1 : LS0[0].e.ps.length ≤ 1 := by
            have h1 : (ensOf LS0)[0]? = some LS0[0].e := by unfold ensOf; simp [h00]
            rw [KC0.out] at h1
            have h2 : 0 < i := HG0.out.1
            have h3 : LS0[0].e = chE i true false 0 := by simpa [chL, h2] using h1.symm
            rw [h3]
            show (chP i true false 0).length ≤ 1
            unfold chP
            simp
            split <;> simp
          have HL1 := Lib.hid hl1
          have d2 := OC0.out.cell encE_len 0 2 h00 (by decide)
          change World.cell? _ ⟨g, 2, none⟩ = some (.slice LS0[0].ap LS0[0].e.ps.length LS0[0].cp) at d2
          clear hl1
          go_wp2_with (first
            | (at_builtin; (refine appRn rfl _ _ _ rfl Tryz.underlying22 e_info rfl (by decide) (by decide) encE_len encE_one _ v1 ([] ++ LS.drop j) rfl H1.out (LS.take j) _ _ _ rfl (by rw [List.length_take, ZC.out, Nat.min_eq_left (Nat.le_of_lt HJ.out)]; try rfl; try simp) (src_take (OwnR.low OC.out LX1.out) j) (by have := ZC.out; have := HG0.out; simp; omega) LX1.out.size ?_; intro v2 w2' h2 b2 k2; have H2 := Lib.hid h2; have L2 := Lib.hid (LX1.out.trans_below b2 (Nat.le_refl _)); clear h2 b2 k2))
            | (at_builtin; (refine us_grows rfl _ _ _ rfl Tryz.underlying29 LS0[0] rfl ((EC0.out LS0[0] (List.getElem_mem h00)).low (Low.alloc (Low.refl _) _)).1 (RC0.out _ (List.getElem_mem h00)) HL1.out uVo ⟨_, 0, none⟩ 1 rfl (fun j u hj => newcell_at _ _ _ _ _ rfl hj) ?_; intro v5 w5 h5 l5; obtain ⟨ap5, N5, cp5, rfl⟩ : ∃ ap N cp, v5 = .slice ap N cp := (by obtain ⟨x1, x2, x3, -⟩ := h5.shape; exact ⟨x1, _, x2, x3⟩); obtain ⟨LS, oc, ec, kc, zc, lc⟩ := missing_ok OC0.out ZC0.out h00 EC0.out KC0.out LC0.out ((Low.alloc (Low.refl _) _).trans l5) (Low.alloc (Low.refl _) _).size h5; have OC := Lib.hid oc; have EC := Lib.hid ec; have KC := Lib.hid kc; have ZC := Lib.hid zc; have LC := Lib.hid lc; have o5 := OwnR.low OC0.out ((Low.alloc (Low.refl _) _).trans l5); have d5 := o5.cell encE_len 0 2 h00 (by decide); have f6 := o5.frozen 2; change World.cell? _ ⟨g, 2, none⟩ = some (.slice LS0[0].ap LS0[0].e.ps.length LS0[0].cp) at d5; clear oc ec kc zc lc o5 h5 l5))
            | (at_builtin; (refine appRn rfl _ _ _ rfl Tryz.underlying22 e_info rfl (by decide) (by decide) encE_len encE_one _ (.slice none 0 0) [] rfl (OwnR.nil _ _ _ _ _) (LS.drop j) _ _ _ rfl (by rw [List.length_drop, ZC.out]; try rfl; try simp) (src_drop encE_len OC.out (by have := ZC.out; have := HJ.out; omega) _ (by first | exact .inr rfl | (simp; done) | (have := ZC.out; simp; omega))) (by have := ZC.out; have := HG0.out; simp; omega) (Nat.le_refl _) ?_; intro v1 w1' h1 b1 k1; have H1 := Lib.hid h1; have LX1 := Lib.hid (Low.trans_below (Low.refl _) b1 (Nat.le_refl _)); clear h1 b1 k1)))
          obtain ⟨RS, hRS⟩ : ∃ RS, RS = [] ++ LS.drop j ++ LS.take j := ⟨_, rfl⟩
          rw [← hRS] at H2
          have hper : (ensOf RS).Perm (chL i true true) := by rw [hRS]; exact rot_perm j KC.out
          have hEt : EtAt w2' v2 RS := ⟨H2.out.esAt, fun p hp => (EeOk.any (EC.out p (mem_rot (by rw [← hRS]; exact hp)))).low L2.out⟩
          have hfw := few_chL HG0.out.2 hper
          have CN := Lib.hid (can_chain HG0.out.1 HG0.out.2 true true hper)
          have hlr : RS.length ≤ 300 := by have := hfw.1.1; unfold ensOf at this; rwa [List.length_map] at this
          have CC := Lib.hid (eCanon_c RS w2' v2 hEt hfw.1 fun q hq => hfw.2 q.e (by unfold ensOf; exact List.mem_map_of_mem hq))
          have HET := Lib.hid hEt
          have HFW := Lib.hid hfw
          clear hRS hper hEt hfw
          rw [CN.out.1 rfl] at CC
          refine CC.out.mono ?_
          rintro e w3 ⟨v3, rfl, l3, rs, hrs, het⟩
          have RD := Lib.hid (round_c (RS.map Ee.sh) (PE (ensOf RS)) w3 v2 (by simp; omega) (HET.out.1.low l3) ((rowsE HET.out.2 HFW.out.1).low l3))
          have L3 := Lib.hid l3
          clear l3 CC
          go_wp2_with fail
          refine RD.out.mono ?_
          rintro e w4 ⟨p, rfl, hp, l4⟩
          rw [round_word] at hp
          obtain rfl : p = true := hp.2 (CN.out.2.2.2.2 (by trivial))
          have L4 := Lib.hid l4
          clear hp l4 RD
          go_wp2_with fail
          go_ret
          exact ⟨rfl, L1.out.trans (LC.out.trans (L2.out.trans (L3.out.trans L4.out)))⟩
end Go.Proofs.YtbfaccndgjilmaaGreat
