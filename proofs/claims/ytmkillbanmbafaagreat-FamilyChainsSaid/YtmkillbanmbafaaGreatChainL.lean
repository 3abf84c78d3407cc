/- Entities one above the other are taken, if the last one is above none; closed to a round they are refused; so is a parent that isn't there. No condition. -/
import Derived.Test.YtmkillbanmbafaaGreatAwaG
import Derived.Test.YtmkillbanmbafaaGreatOwnS
import Derived.Test.YtmkillbanmbafaaGreatRCs
import Derived.Test.YtmkillbanmbafaaGreatTurX
import Derived.Deep.DeepCutAuto
import Derived.Deep.CutRange
namespace Go.Proofs.YtmkillbanmbafaaGreat
open Go.RowKit Go.Sort Go.Maps
/-- A row of one name, just built. -/
theorem own_built {B n : Nat} {w : World} {u : Us} (h : w.heap[n]? = some (.cells #[.string u.t, .string u.i] 24 (0, 0))) (hB : B ≤ n) : OwnU B w (.slice (some ⟨n, 0, none⟩) 1 1) [u] :=
  ⟨rfl, .inr ⟨n, 1, #[.string u.t, .string u.i], rfl, hB, h, Nat.le_refl _, by decide, rfl, rfl⟩⟩
theorem flat_setE {v : Value} {q : Ee} : ∀ (l : List Ee) (j c : Nat) (hj : j < l.length), c < 11 → encE q = (encE l[j]).set c v → (l.flatMap encE).set (j * 11 + c) v = (l.set j q).flatMap encE
  | [], j, _, hj, _, _ => absurd hj (Nat.not_lt_zero _)
  | x :: l, 0, c, _, hc, h => by
    rw [List.set_cons_zero, List.flatMap_cons, List.flatMap_cons, Nat.zero_mul, Nat.zero_add, List.set_append_left _ _ (by rw [encE_len]; exact hc)]
    rw [h]; rfl
  | x :: l, j + 1, c, hj, hc, h => by
    have ih := flat_setE l j c (by simpa using hj) hc (by simpa using h)
    rw [List.set_cons_succ, List.flatMap_cons, List.flatMap_cons, ← ih, List.set_append_right _ _ (by rw [encE_len]; omega), encE_len, show (j + 1) * 11 + c - 11 = j * 11 + c by omega]
theorem stored_ps {B : Nat} {w : World} {g n cap : Nat} {cs : List Ee} {j : Nat} {v : Value} (q : Ee) (h : OwnE B w (.slice (some ⟨g, 0, none⟩) n cap) cs) (hj : j < cs.length) (hn : n = cs.length) (hq : encE q = (encE cs[j]).set 2 v) :
    OwnE B (w.setCell ⟨g, j * 11 + 2, none⟩ v) (.slice (some ⟨g, 0, none⟩) n cap) (cs.set j q) := by
  subst hn
  unfold OwnE OwnR at *
  rw [← flat_setE cs j 2 hj (by decide) hq, List.length_set]
  exact (World.ownsRow.stored h (j * 11 + 2) v).1
theorem slice_abc (w : World) (i j : Nat) (z z' : Int) (hz : z = (i : Int)) (hz' : z' = (j : Int)) (hij : i ≤ j) (hj : j ≤ 12) : (Instr.slice 9 (.string ⟨#[97, 98, 99, 100, 101, 102, 103, 104, 105, 106, 107, 108]⟩) (some (.int .i64 z)) (some (.int .i64 z')) none).run Tryz.prog w = .ok (.string (abc.extract i j)) w := by
  subst hz hz'
  have h12 : abc.size = 12 := rfl
  have h := run_slice_string (P := Tryz.prog) w 9 abc .i64 .i64 (i : Int) (j : Int) Tryz.underlying9 (by omega) (by omega) (by rw [h12]; omega)
  simp only [Int.toNat_natCast] at h
  exact h
theorem allocC_at (w : World) (o : Obj) : (w.alloc o).heap[w.heap.size]? = some o := by
  show (w.heap.push o)[w.heap.size]? = _
  simp
theorem allocC_at1 (w : World) (a o : Obj) : ((w.alloc a).alloc o).heap[w.heap.size + 1]? = some o := by
  have := allocC_at (w.alloc a) o
  rwa [show (w.alloc a).heap.size = w.heap.size + 1 from by simp] at this
theorem chL_close (n : Nat) : (chL (n + 1) false false).set n ⟨nmU n, [nmU 0], r0⟩ = chL (n + 1) true false := by
  refine List.ext_getElem (by simp [chL]) fun i h1 h2 => ?_
  have hi : i < n + 1 := by simpa [chL] using h2
  rw [List.getElem_set]
  by_cases e : n = i
  · subst e
    rw [if_pos rfl]
    simp [chL, chE, chP]
  · rw [if_neg e]
    have h3 : i + 1 < n + 1 := by omega
    simp [chL, chE, chP, h3]
theorem nm0 : (nmU 0).i = ⟨#[97]⟩ := by decide +kernel
theorem close_ok {w1 wr : World} {i n g cap : Nat} {ls : List Ee} (O : OwnE w1.heap.size wr (.slice (some ⟨g, 0, none⟩) i cap) ls) (hl : ls.length = i) (hn : i = n + 1) (HF : ∀ p ∈ ls, EeOk (fun b => b ≠ g) wr p) (RO : ∀ p ∈ ls, p.cp = p.e.ps.length) (HK : ensOf ls = chL i false false) (G : Low w1 wr) :
    ∃ LS, OwnE w1.heap.size ((wr.alloc (.cells #[.string ⟨#[85]⟩, .string ⟨#[97]⟩] 24)).setCell ⟨g, n * 11 + 2, none⟩ (.slice (some ⟨wr.heap.size, 0, none⟩) 1 1)) (.slice (some ⟨g, 0, none⟩) i cap) LS ∧
      (∀ p ∈ LS, EeOk (fun b => b ≠ g) ((wr.alloc (.cells #[.string ⟨#[85]⟩, .string ⟨#[97]⟩] 24)).setCell ⟨g, n * 11 + 2, none⟩ (.slice (some ⟨wr.heap.size, 0, none⟩) 1 1)) p) ∧ (∀ p ∈ LS, p.cp = p.e.ps.length) ∧ ensOf LS = chL i true false ∧ LS.length = i ∧
      Low w1 ((wr.alloc (.cells #[.string ⟨#[85]⟩, .string ⟨#[97]⟩] 24)).setCell ⟨g, n * 11 + 2, none⟩ (.slice (some ⟨wr.heap.size, 0, none⟩) 1 1)) := by
  have hlt := World.ownsRow.lt O g rfl
  have hj : n < ls.length := by omega
  obtain ⟨W, hW⟩ : ∃ W, W = (wr.alloc (.cells #[.string ⟨#[85]⟩, .string ⟨#[97]⟩] 24)).setCell ⟨g, n * 11 + 2, none⟩ (.slice (some ⟨wr.heap.size, 0, none⟩) 1 1) := ⟨_, rfl⟩
  have hk1 : ∀ b, b ≠ g → W.heap[b]? = (wr.alloc (.cells #[.string ⟨#[85]⟩, .string ⟨#[97]⟩] 24)).heap[b]? := fun b hb => by
    rw [hW]; exact Below.heap_setCell _ _ _ b hb
  have hk2 : ∀ b, b ≠ g → b < wr.heap.size → W.heap[b]? = wr.heap[b]? := fun b hb hs => (hk1 b hb).trans ((Low.alloc (Low.refl wr) _).2.2.2 b hs)
  have hen : ls[n].e = chE i false false n := by
    have h1 : (ensOf ls)[n]? = some ls[n].e := by unfold ensOf; simp [hj]
    rw [HK] at h1
    have h2 : n < i := by omega
    simpa [chL, h2] using h1.symm
  have hf := HF ls[n] (List.getElem_mem hj)
  obtain ⟨q, hq⟩ : ∃ q : Ee, q = ⟨⟨ls[n].e.u, [nmU 0], ls[n].e.a⟩, some ⟨wr.heap.size, 0, none⟩, 1, ls[n].ai, ls[n].ci, ls[n].an, ls[n].cn⟩ := ⟨_, rfl⟩
  refine ⟨ls.set n q, ?_, ?_, ?_, ?_, by rw [List.length_set, hl], ?_⟩
  · exact stored_ps q (O.alloc _) hj hl.symm (by rw [hq]; rfl)
  · rw [← hW]
    intro p hp
    rcases List.mem_or_eq_of_mem_set hp with h | h
    · exact (HF p h).to fun b hb hs => ⟨hb, hk2 b hb hs⟩
    · subst h
      rw [hq]
      have hu : OwnU wr.heap.size W (.slice (some ⟨wr.heap.size, 0, none⟩) 1 1) [nmU 0] := by
        refine own_built ?_ (Nat.le_refl _)
        rw [hk1 _ (by omega), nm0]
        exact allocC_at _ _
      refine ⟨hu.usIn fun b hb => ?_, Rep.to (fun b hb hs => ⟨hb, hk2 b hb hs⟩) _ hf.2⟩
      have := (World.ownsRow.lt hu b hb).1
      show b ≠ g
      omega
  · intro p hp
    rcases List.mem_or_eq_of_mem_set hp with h | h
    · exact RO p h
    · subst h; rw [hq]; rfl
  · have : ensOf (ls.set n q) = (ensOf ls).set n q.e := by unfold ensOf; rw [List.map_set]
    rw [this, HK, hn, ← chL_close, hq]
    show (chL (n + 1) false false).set n ⟨ls[n].e.u, [nmU 0], ls[n].e.a⟩ = _
    rw [hen]; rfl
  · exact Low.set (Low.alloc G _) _ _ hlt.1
theorem rot_perm {LS : List Ee} {m : List En} (j : Nat) (h : ensOf LS = m) : (ensOf ([] ++ LS.drop j ++ LS.take j)).Perm m := by
  subst h
  unfold ensOf
  refine List.Perm.map _ ?_
  rw [List.nil_append]
  exact List.perm_append_comm.trans (by rw [List.take_append_drop])
theorem mem_rot {LS : List Ee} {j : Nat} {p : Ee} (h : p ∈ [] ++ LS.drop j ++ LS.take j) : p ∈ LS := by
  rw [List.nil_append] at h
  rcases List.mem_append.1 h with h | h
  · exact List.mem_of_mem_drop h
  · exact List.mem_of_mem_take h
theorem few_chL {k : Nat} (hk : k ≤ 12) {cl mi : Bool} {m : List En} (h : m.Perm (chL k cl mi)) : FewE m ∧ ∀ e ∈ m, Sm e.a := by
  have key : ∀ e ∈ m, e.ps.length ≤ 300 ∧ Sm e.a := fun e he => by
    obtain ⟨i, -, rfl⟩ := mem_chL.1 (h.mem_iff.1 he)
    refine ⟨?_, sm_r0⟩
    show (chP k cl mi i).length ≤ 300
    unfold chP
    rw [List.length_append]
    have h1 : (if i + 1 < k then [nmU (i + 1)] else if cl = true then [nmU 0] else []).length ≤ 1 := by
      split
      · simp
      · split <;> simp
    have h2 : (if mi = true ∧ i = 0 then [uVo] else []).length ≤ 1 := by split <;> simp
    omega
  exact ⟨⟨by rw [h.length_eq]; simp [chL]; omega, fun e he => (key e he).1⟩, fun e he => (key e he).2⟩

theorem chP_miss {k : Nat} {cl : Bool} : chP k cl true 0 = chP k cl false 0 ++ [uVo] := by
  unfold chP
  simp
theorem chL_missing {k : Nat} (cl : Bool) : (chL k cl false).set 0 ⟨nmU 0, chP k cl false 0 ++ [uVo], r0⟩ = chL k cl true := by
  refine List.ext_getElem (by simp [chL]) fun i h1 h2 => ?_
  rw [List.getElem_set]
  by_cases e : 0 = i
  · subst e
    rw [if_pos rfl]
    simp [chL, chE, chP_miss]
  · rw [if_neg e]
    have h3 : ¬ i = 0 := fun h => e h.symm
    simp [chL, chE, chP, h3]
theorem us_grows {ops : Array Oper} {rest : List Oper} {o : Oper} {a : Act} {w : World} {Q : Exit → Act → World → Prop} (hgd : o.guard = none) (s x : Operand) (t : TypeId)
    (ho : o.op = .call { callee := .builtin .append, args := #[s, x], argTypes := #[t, t] }) (ht : Tryz.prog.underlying t = some (.slice 24)) (q : Ee) (hs : a.eval s = .slice q.ap q.e.ps.length q.cp) {A : Nat → Prop} (hU : UsIn A w (.slice q.ap q.e.ps.length q.cp) q.e.ps)
    (hcp : q.cp = q.e.ps.length) (hlen : q.e.ps.length ≤ 1) (y : Us) (ad : Addr) (c : Nat) (hx : a.eval x = .slice (some ad) 1 c) (hnews : ∀ j u, y.cs[j]? = some u → w.cell? (ad.add j) = some u)
    (h : ∀ v' w', OwnU w.heap.size w' v' (q.e.ps ++ [y]) → Low w w' → wpList Tryz.prog ops Q rest (a.put o.dst v') w') : wpList Tryz.prog ops Q (o :: rest) a w := by
  obtain ⟨i0, hi, hz0, hz1, hz2⟩ := info_parts u_info
  obtain ⟨ao, c1, hv, -, hx1⟩ := hU
  simp only [Value.slice.injEq, true_and] at hv
  obtain ⟨h1, h2⟩ := hv
  subst h1
  have hnone : q.ap = none → q.e.ps.length = 0 ∧ q.cp = 0 := fun hn => by
    have h0 : q.e.ps.length = 0 := by
      rcases Nat.eq_zero_or_pos q.e.ps.length with h0 | h0
      · exact h0
      · obtain ⟨b, o, e, -⟩ := hx1 0 h0
        rw [hn] at e; simp at e
    exact ⟨h0, hcp.trans h0⟩
  have holds : ∀ b, q.ap = some b → ∀ j u, (q.e.ps.flatMap Us.cs)[j]? = some u → w.cell? (b.add j) = some u := fun b hb j u hu => by
    obtain ⟨l, hl⟩ : ∃ l, l = q.e.ps := ⟨_, rfl⟩
    rw [← hl] at hu hlen hx1
    match l, hu, hlen, hx1 with
    | [], hu, _, _ => simp at hu
    | [p], hu, _, hx1 =>
      obtain ⟨bb, oo, e, -, hc⟩ := hx1 0 (by simp)
      rw [hb] at e
      simp only [Option.some.injEq] at e
      subst e
      rw [Addr.add_lit]
      have := hc j u (by simpa using hu)
      simpa using this
    | _ :: _ :: _, _, hlen, _ => exact absurd hlen (by simp)
  refine wpList_append_grows w hgd s x t ho _ i0 _ 2 32 ht hi hz0 hz1 hz2 rfl (by decide) q.ap q.e.ps.length q.cp (q.e.ps.flatMap Us.cs) hs hnone (by rw [flat_len encU_len]) holds ad 1 c y.cs hx rfl hnews (encU_one y) (by omega) (by unfold maxLen; omega) (by omega) fun v' w' r1 r2 => ?_
  refine h v' w' ?_ (Low.trans_below (Low.refl w) ((Below.refl w.heap.size w).grown r2 (Nat.le_refl _) (by simp)) (Nat.le_refl _))
  show OwnR 24 2 Us.cs w.heap.size w' v' (q.e.ps ++ [y])
  unfold OwnR
  rw [List.flatMap_append, List.length_append]
  simpa using r1
theorem missing_ok {w1 W w5 : World} {i g cap B : Nat} {cl : Bool} {LS : List Ee} {v : Value} (O : OwnE w1.heap.size W (.slice (some ⟨g, 0, none⟩) i cap) LS) (hl : LS.length = i) (h0 : 0 < LS.length) (HF : ∀ p ∈ LS, EeOk (fun b => b ≠ g) W p) (HK : ensOf LS = chL i cl false) (G : Low w1 W)
    (L : Low W w5) (hB : W.heap.size ≤ B) (hv : OwnU B w5 v (LS[0].e.ps ++ [uVo])) :
    ∃ LS', OwnE w1.heap.size (w5.setCell ⟨g, 2, none⟩ v) (.slice (some ⟨g, 0, none⟩) i cap) LS' ∧ (∀ p ∈ LS', EeOk (fun b => b ≠ g) (w5.setCell ⟨g, 2, none⟩ v) p) ∧ ensOf LS' = chL i cl true ∧ LS'.length = i ∧ Low w1 (w5.setCell ⟨g, 2, none⟩ v) := by
  have hlt := World.ownsRow.lt O g rfl
  obtain ⟨X, hX⟩ : ∃ X, X = w5.setCell ⟨g, 2, none⟩ v := ⟨_, rfl⟩
  have hk1 : ∀ b, b ≠ g → X.heap[b]? = w5.heap[b]? := fun b hb => by rw [hX]; exact Below.heap_setCell _ _ _ b hb
  have hk2 : ∀ b, b ≠ g → b < W.heap.size → X.heap[b]? = W.heap[b]? := fun b hb hs => (hk1 b hb).trans (L.2.2.2 b hs)
  have hen : LS[0].e = chE i cl false 0 := by
    have h1 : (ensOf LS)[0]? = some LS[0].e := by unfold ensOf; simp [h0]
    rw [HK] at h1
    have h2 : 0 < i := by omega
    simpa [chL, h2] using h1.symm
  have hf := HF LS[0] (List.getElem_mem h0)
  obtain ⟨ap, cp, rfl, hc1, hc2, -⟩ := id hv.shape
  obtain ⟨q, hq⟩ : ∃ q : Ee, q = ⟨⟨LS[0].e.u, LS[0].e.ps ++ [uVo], LS[0].e.a⟩, ap, cp, LS[0].ai, LS[0].ci, LS[0].an, LS[0].cn⟩ := ⟨_, rfl⟩
  refine ⟨LS.set 0 q, ?_, ?_, ?_, by rw [List.length_set, hl], ?_⟩
  · exact stored_ps (j := 0) q (OwnR.low O L) h0 hl.symm (by rw [hq]; rfl)
  · rw [← hX]
    intro p hp
    rcases List.mem_or_eq_of_mem_set hp with h | h
    · exact (HF p h).to fun b hb hs => ⟨hb, hk2 b hb hs⟩
    · subst h
      rw [hq]
      have hu : OwnU B X (.slice ap (LS[0].e.ps ++ [uVo]).length cp) (LS[0].e.ps ++ [uVo]) := OwnR.to hv fun b hb => hk1 b (by have := (World.ownsRow.lt hv b hb).1; omega)
      refine ⟨hu.usIn fun b hb => ?_, Rep.to (fun b hb hs => ⟨hb, hk2 b hb hs⟩) _ hf.2⟩
      have := (World.ownsRow.lt hu b hb).1
      show b ≠ g
      omega
  · have : ensOf (LS.set 0 q) = (ensOf LS).set 0 q.e := by unfold ensOf; rw [List.map_set]
    rw [this, HK, ← chL_missing, hq]
    show (chL i cl false).set 0 ⟨LS[0].e.u, LS[0].e.ps ++ [uVo], LS[0].e.a⟩ = _
    rw [hen]; rfl
  · exact Low.set (G.trans L) _ _ hlt.1
end Go.Proofs.YtmkillbanmbafaaGreat
