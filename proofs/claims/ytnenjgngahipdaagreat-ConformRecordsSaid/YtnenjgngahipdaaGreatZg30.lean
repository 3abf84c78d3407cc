/- A row of values gone on with by another one; the members of a set of two sets' members. No condition. Where the next one goes in a row that rises: the reference's way; its box of an answer. No condition. The box in which the reference lays its answer down. No condition. -/
import Derived.Test.YtnenjgngahipdaaGreatZg21
import Derived.Laws.OwnMore
set_option linter.unusedVariables false
set_option linter.unusedSimpArgs false
set_option linter.unnecessarySimpa false
namespace Go.Proofs.YtnenjgngahipdaaGreat
open Go.RowKit Go.Sort
theorem run_append_zerov {P : Program} {w : World} (base : Nat) (t ty e : TypeId) (i : TypeInfo) (size : Nat) (ht : P.underlying t = some (.slice e)) (hi : P.info? e = some i)
    (v : Value) (n : Nat) (xs : List Value) (hown : w.ownsRow base e size v n xs) (ao : Option Addr) (c : Nat) :
    (Builtin.append_ #[t, t] ty #[v, .slice ao 0 c]).run P w = .ok v w := by
  cases ao with
  | none =>
    rcases hown.2 with ⟨rfl, rfl⟩ | ⟨g, cap, cur, rfl, _, _, hnc, _⟩
    · simp [Builtin.append_, run_underlying ht, sizeOf, typeInfo, hi, Builtin.lenOf, Builtin.firstCells]
    · simp [Builtin.append_, run_underlying ht, sizeOf, typeInfo, hi, Builtin.lenOf, Builtin.firstCells, hnc, storeCells]
  | some ad =>
    have hfc := run_firstCells_some (P := P) w i.size 0 ad 0 c [] (by simp) (by simp)
    rcases hown.2 with ⟨rfl, rfl⟩ | ⟨g, cap, cur, rfl, _, _, hnc, _⟩
    · simp [Builtin.append_, run_underlying ht, sizeOf, typeInfo, hi, Builtin.lenOf, hfc]
    · simp [Builtin.append_, run_underlying ht, sizeOf, typeInfo, hi, Builtin.lenOf, hfc, hnc, storeCells]
section
variable {α : Type}
/-- append of a row: the row as it was and the other's; in the same block, or in a new one. -/
theorem appRsv {e : TypeId} {k : Nat} {enc : α → List Value} {ops : Array Oper} {rest : List Oper} {o : Oper} {a : Act} {w : World} {Q : Exit → Act → World → Prop} (hgd : o.guard = none) (s x : Operand) (t : TypeId)
    (ho : o.op = .call { callee := .builtin .append, args := #[s, x], argTypes := #[t, t] }) (ht : Tryz.prog.underlying t = some (.slice e)) {z : Value} {bytes : Nat}
    (hinfo : (Tryz.prog.info? e).map (fun i => (i.zero, i.size, i.bytes)) = some (some z, k, bytes)) (hz : z.cells.size = k) (hk0 : 0 < k) (hby : bytes ≤ 1000)
    (hk : ∀ x, (enc x).length = k) (h1 : ∀ x, ∀ u ∈ enc x, u.oneCell' = true)
    (B : Nat) (v : Value) (l : List α) (hs : a.eval s = v) (hown : OwnR e k enc B w v l) (ys : List α) (ao : Option Addr) (c : Nat) (hx : a.eval x = .slice ao ys.length c)
    (hsrc : ys = [] ∨ ∃ ad, ao = some ad ∧ ∀ j u, (ys.flatMap enc)[j]? = some u → w.cell? (ad.add j) = some u) (hlen : l.length + ys.length ≤ 1000000) (hb : B ≤ w.heap.size)
    (h : ∀ v' w', OwnR e k enc B w' v' (l ++ ys) → Below B w w' → (∀ b, b < w.heap.size → some b ≠ v.ownBlock → w'.heap[b]? = w.heap[b]?) → wpList Tryz.prog ops Q rest (a.put o.dst v') w') :
    wpList Tryz.prog ops Q (o :: rest) a w := by
  obtain ⟨i0, hi, hz0, hz1, hz2⟩ := info_parts hinfo
  by_cases hys : ys = []
  · subst hys
    refine wpList_plain hgd fun K hK => ?_
    have hrun := run_append_zerov (P := Tryz.prog) (w := w) B t o.type e i0 k ht hi v l.length (l.flatMap enc) hown ao c
    rw [List.length_nil] at hx
    unfold Oper.wp
    simp [execOp, ho, resolve, invoke, builtin, hs, hx, hrun, Result.andThen]
    exact hK _ _ (h v w (by rw [List.append_nil]; exact hown) (Below.refl _ _) fun _ _ _ => rfl)
  obtain ⟨ad, rfl, hnews⟩ := hsrc.resolve_left hys
  have hpos : 0 < ys.length := List.length_pos_iff.2 hys
  have hby2 : (l.length + ys.length) * bytes ≤ 140737488355328 := by
    have := Nat.mul_le_mul hlen hby
    omega
  have hnl : (ys.flatMap enc).length = ys.length * k := flat_len hk ys
  have h1s : ∀ u ∈ ys.flatMap enc, u.oneCell' = true := fun u hu => by
    obtain ⟨y, -, hy⟩ := List.mem_flatMap.1 hu
    exact h1 y u hy
  have happ : (l ++ ys).flatMap enc = l.flatMap enc ++ ys.flatMap enc := List.flatMap_append
  rcases hown.2 with ⟨rfl, hn⟩ | ⟨g, cap, cur, rfl, hbg, hg, hnc, hcm, hcs, htake⟩
  · have hl : l = [] := List.eq_nil_of_length_eq_zero hn
    subst hl
    refine wpList_append_grows w hgd s x t ho e i0 z k bytes ht hi hz0 hz1 hz2 hz hk0 none 0 0 [] hs (fun _ => ⟨rfl, rfl⟩) (by simp) (fun b hb => by simp at hb) ad ys.length c (ys.flatMap enc) hx hnl hnews h1s (by omega) (by unfold maxLen; simp only [List.length_nil] at hlen; omega) (by simpa using hby2) fun v' w' r1 r2 => ?_
    have r3 : OwnR e k enc w.heap.size w' v' ([] ++ ys) := by unfold OwnR; rw [happ, List.length_append]; exact r1
    exact h v' w' (r3.base hb) ((Below.refl _ _).grown r2 hb (by simp)) (fun b hb _ => r2.block b hb (by simp))
  · by_cases hroom : l.length + ys.length ≤ cap
    · refine wpList_append_fits w hgd s x t ho B e i0 k ht hi hz1 g l.length cap (l.flatMap enc) hs hown ad ys.length c (ys.flatMap enc) hx hnl hnews h1s hroom fun w' r1 r2 => ?_
      refine h _ w' ?_ ((Below.refl _ _).grown r2 hb fun k hk => by simp at hk; subst hk; exact hbg) (fun b hb hne => r2.block b hb hne)
      unfold OwnR; rw [happ, List.length_append]; exact r1
    · have holds : ∀ b, some (⟨g, 0, none⟩ : Addr) = some b → ∀ j u, (l.flatMap enc)[j]? = some u → w.cell? (b.add j) = some u := fun b hb => by
        simp only [Option.some.injEq] at hb
        subst hb
        exact World.ownsRow.cells hown (g := g) rfl
      refine wpList_append_grows w hgd s x t ho e i0 z k bytes ht hi hz0 hz1 hz2 hz hk0 (some ⟨g, 0, none⟩) l.length cap (l.flatMap enc) hs (fun h => by simp at h) hown.1 holds ad ys.length c (ys.flatMap enc) hx hnl hnews h1s (by omega) (by unfold maxLen; omega) hby2 fun v' w' r1 r2 => ?_
      have r3 : OwnR e k enc w.heap.size w' v' (l ++ ys) := by unfold OwnR; rw [happ, List.length_append]; exact r1
      exact h v' w' (r3.base hb) ((Below.refl _ _).grown r2 hb (by simp)) (fun b hb _ => r2.block b hb (by simp))
end
end Go.Proofs.YtnenjgngahipdaaGreat
namespace Go.Proofs.YtnenjgngahipdaaGreat
open Go.RowKit Go.Sort
section
variable {α : Type} {c : α → α → Int} {S : α → Prop}
theorem ins_pre {x : α} : ∀ {p q : List α}, (∀ y ∈ p, c y x < 0) → ins c x (p ++ q) = p ++ ins c x q
  | [], _, _ => rfl
  | y :: p, q, h => by
    rw [List.cons_append, ins, if_pos (h y (by simp)), ins_pre fun z hz => h z (by simp [hz])]
    rfl
theorem ins_up (g : Good c S) {x : α} (hx : S x) : ∀ {q : List α}, (∀ y ∈ q, S y) → Rises c q → (∀ y ∈ q, 0 ≤ c y x) → ins c x q = if q.any (fun y => c y x == 0) then q else x :: q
  | [], _, _, _ => rfl
  | y :: q, hS, hr, h => by
    have h0 := h y (by simp)
    rw [ins, if_neg (by omega)]
    by_cases he : c y x = 0
    · rw [if_pos he]
      simp [he]
    · rw [if_neg he]
      have hn : ((y :: q).any fun y => c y x == 0) = false := by
        rw [List.any_eq_false]
        intro z hz
        rcases List.mem_cons.1 hz with rfl | hz
        · simpa using he
        · have h1 : c y z < 0 := (List.pairwise_cons.1 hr).1 z hz
          intro h2
          have h3 : c z x = 0 := by simpa using h2
          have := g.lt_le (hS y (by simp)) (hS z (by simp [hz])) hx h1 (by omega)
          omega
      rw [hn]
      rfl
theorem take_low (g : Good c S) {x : α} (hx : S x) {l : List α} (hS : ∀ y ∈ l, S y) (hr : Rises c l) {k : Nat} (hk : k ≤ l.length) (hlow : ∀ (h : k - 1 < l.length), 0 < k → c l[k - 1] x < 0) : ∀ y ∈ l.take k, c y x < 0 := by
  intro y hy
  obtain ⟨j, hj, rfl⟩ := List.getElem_of_mem hy
  have hj2 : j < k := by rw [List.length_take] at hj; omega
  have hjl : j < l.length := by omega
  have he : (l.take k)[j] = l[j] := by simp
  rw [he]
  have h1 := hlow (by omega) (by omega)
  by_cases hjk : j = k - 1
  · subst hjk; exact h1
  · have h2 : c l[j] l[k - 1] < 0 := List.pairwise_iff_getElem.1 hr j (k - 1) hjl (by omega) (by omega)
    exact g.lt _ _ _ (hS _ (List.getElem_mem _)) (hS _ (List.getElem_mem _)) hx h2 h1
theorem ins_at (g : Good c S) {x : α} (hx : S x) {l : List α} (hS : ∀ y ∈ l, S y) (hr : Rises c l) {k : Nat} (hk : k ≤ l.length) (hlow : ∀ (h : k - 1 < l.length), 0 < k → c l[k - 1] x < 0) (hup : ∀ y ∈ l.drop k, 0 ≤ c y x) :
    ins c x l = if (l.drop k).any (fun y => c y x == 0) then l else l.take k ++ x :: l.drop k := by
  have h1 := take_low g hx hS hr hk hlow
  have h2 := ins_pre (q := l.drop k) h1
  rw [List.take_append_drop] at h2
  rw [h2, ins_up g hx (fun y hy => hS y (List.mem_of_mem_drop hy)) (hr.sublist (List.drop_sublist _ _)) hup]
  split
  · exact List.take_append_drop _ _
  · rfl
theorem rises_at (g : Good c S) {x : α} (hx : S x) {l : List α} (hS : ∀ y ∈ l, S y) (hr : Rises c l) {k : Nat} (hk : k ≤ l.length) (hlow : ∀ (h : k - 1 < l.length), 0 < k → c l[k - 1] x < 0) (hup : ∀ y ∈ l.drop k, 0 ≤ c y x) (hn : (l.drop k).any (fun y => c y x == 0) = false) :
    Rises c (l.take k ++ x :: l.drop k) := by
  have h := ins_rises g hx hS hr
  rw [ins_at g hx hS hr hk hlow hup, hn] at h
  exact h
theorem uniq_snoc {l : List α} {x : α} : uniq c (l ++ [x]) = ins c x (uniq c l) := by simp [uniq, List.foldl_append]
/-- A step of the scan from the end: one more is looked at. -/
theorem drop_pred {l : List α} {k : Nat} (hk : k < l.length) : l.drop k = l[k] :: l.drop (k + 1) := List.drop_eq_getElem_cons hk
theorem perm_at {l m : List α} {x : α} {k : Nat} (h : l.Perm m) : (l.take k ++ x :: l.drop k).Perm (m ++ [x]) := by
  refine List.perm_middle.trans ?_
  rw [List.take_append_drop]
  exact (List.Perm.cons x h).trans (List.perm_append_singleton x m).symm
end
/-! ### What the next round holds -/
/-- Sets: what is held is each one once. -/
theorem set_next {ps xs : List El} {p : El} (hc : ∀ q ∈ ps ++ [p], Cn q.v) (hx : xs.map (·.v) = uniq ord (ps.map (·.v))) {k : Nat} (hk : k ≤ xs.length)
    (hlow : ∀ (h : k - 1 < xs.length), 0 < k → ord xs[k - 1].v p.v < 0) (hup : ∀ y ∈ xs.drop k, 0 ≤ ord y.v p.v) :
    (if (xs.drop k).any (fun y => ord y.v p.v == 0) then xs else xs.take k ++ p :: xs.drop k).map (·.v) = uniq ord ((ps ++ [p]).map (·.v)) := by
  have c1 : ∀ x ∈ ps.map (·.v), Cn x := fun x hx => by
    obtain ⟨q, hq, rfl⟩ := List.mem_map.1 hx
    exact hc q (by simp [hq])
  have c2 : Cn p.v := hc p (by simp)
  rw [List.map_append, List.map_singleton, uniq_snoc, ← hx]
  have hS : ∀ y ∈ xs.map (·.v), Cn y := fun y hy => c1 y (uniq_sub (by rw [← hx]; exact hy))
  have hr : Rises ord (xs.map (·.v)) := by rw [hx]; exact uniq_rises good_cn cn_only c1
  have key := ins_at good_cn (x := p.v) c2 hS hr (k := k) (by simpa using hk) (fun h h0 => by have := hlow (by simpa using h) h0; simpa using this) (fun y hy => by
    rw [← List.map_drop] at hy
    obtain ⟨z, hz, rfl⟩ := List.mem_map.1 hy
    exact hup z hz)
  rw [key, ← List.map_drop, List.any_map, ← List.map_take]
  show (if _ then _ else _ : List El).map _ = if (xs.drop k).any (fun y => ord y.v p.v == 0) then _ else _
  split
  · rfl
  · simp
/-- Records: a name that is there already. -/
theorem rec_twice {ns : List ByteArray} {ps : List El} {fs : List Fd} {m : List V} {i : Nat} (hi : i < ns.length) (hl : ns.length = ps.length) (hp : fs.Perm ((zipF ns ps).take i)) {k : Nat} (h : ((fs.map (·.name)).drop k).any (fun y => cmpT y ns[i] == 0) = true) : recC ns m = (13, V0) := by
  have hn : ¬ ns.Nodup := fun hnd => by
    obtain ⟨y, hy, h1⟩ := List.any_eq_true.1 h
    have h2 : y = ns[i] := cmpT_zero (by simpa using h1)
    have hy2 := List.mem_of_mem_drop hy
    have h3 : y ∈ ((zipF ns ps).take i).map (·.name) := (hp.map _).mem_iff.1 hy2
    rw [List.map_take, zipF_names hl, h2] at h3
    obtain ⟨j, hj, he⟩ := List.getElem_of_mem h3
    have hj2 : j < i := by rw [List.length_take] at hj; omega
    rw [List.getElem_take] at he
    have := List.pairwise_iff_getElem.1 hnd j i (by omega) hi hj2
    exact this he
  unfold recC
  rw [if_neg hn]
end Go.Proofs.YtnenjgngahipdaaGreat
namespace Go.Proofs.YtnenjgngahipdaaGreat
open Go.RowKit Go.Sort
def OutAt (w : World) (r : Nat) (h : Hd) (a b : Value) : Prop := (r < w.heap.size ∧ CellsAtv w r 0 (hdc h a b)) ∧ ∀ o, w.frozen? ⟨r, o, none⟩ = false
theorem OutAt.kept {w w' : World} {r : Nat} {h0 : Hd} {a b : Value} {x : Option Nat} (h : OutAt w r h0 a b) (k : KeptButv w w' x) (hr : some r ≠ x) : OutAt w' r h0 a b :=
  ⟨⟨Nat.lt_of_lt_of_le h.1.1 k.2.2.1, fun j v hv => k.cellAt (h.1.2 j v hv) hr⟩, fun o => k.frozenAt (h.2 o) h.1.1 hr⟩
theorem OutAt.low {w w' : World} {r : Nat} {h0 : Hd} {a b : Value} (h : OutAt w r h0 a b) (k : Low w w') : OutAt w' r h0 a b := h.kept (KeptButv.of_low (r := none) k) (by simp)
theorem out_new (w : World) (h : Hd) (a b : Value) (t : TypeId) : OutAt (w.alloc (.cells #[.int .i64 h.k, .bool h.b, .int .i64 h.n, .string h.s, .string h.t, .string h.i, a, b] t)) w.heap.size h a b := by
  refine ⟨⟨by simp, fun j v hv => ?_⟩, fun o => ?_⟩
  · rw [Nat.zero_add, World.cell?_alloc_mark]
    simpa [hdc] using hv
  · simp [go_sem]
theorem OutAt.facts {w : World} {r : Nat} {h0 : Hd} {a b : Value} (h : OutAt w r h0 a b) : (w.cell? ⟨r, 0, none⟩ = some (.int .i64 h0.k) ∧ w.cell? ⟨r, 1, none⟩ = some (.bool h0.b) ∧ w.cell? ⟨r, 2, none⟩ = some (.int .i64 h0.n) ∧ w.cell? ⟨r, 3, none⟩ = some (.string h0.s) ∧
    w.cell? ⟨r, 4, none⟩ = some (.string h0.t) ∧ w.cell? ⟨r, 5, none⟩ = some (.string h0.i) ∧ w.cell? ⟨r, 6, none⟩ = some a ∧ w.cell? ⟨r, 7, none⟩ = some b) ∧ w.frozen? ⟨r, 6, none⟩ = false ∧ w.frozen? ⟨r, 7, none⟩ = false := by
  have h8 := cells8 h.1.2
  simp only [Nat.zero_add] at h8
  exact ⟨h8, h.2 6, h.2 7⟩
theorem OutAt.names {w : World} {r : Nat} {h0 : Hd} {a b : Value} (h : OutAt w r h0 a b) (c : Value) : OutAt (w.setCell ⟨r, 7, none⟩ c) r h0 a c := by
  refine ⟨⟨by simpa using h.1.1, fun j v hv => ?_⟩, fun o => by rw [World.frozen?_setCell]; exact h.2 o⟩
  have hj : j < 8 := by have := (List.getElem?_eq_some_iff.1 hv).1; simpa [hdc] using this
  rw [Nat.zero_add]
  by_cases h7 : j = 7
  · subst h7
    have : v = c := by simpa [hdc] using hv.symm
    subst this
    have hb : (w.cell? ⟨r, 7, none⟩).isSome = true := by rw [h.facts.1.2.2.2.2.2.2.2]; rfl
    exact World.cell?_setCell_same' _ _ _ hb
  · rw [World.cell?_setCell_other _ _ _ _ (by first | (simp; done) | (simp; omega))]
    have := h.1.2 j v (by
      match j, hj, h7 with
      | 0, _, _ => exact hv
      | 1, _, _ => exact hv
      | 2, _, _ => exact hv
      | 3, _, _ => exact hv
      | 4, _, _ => exact hv
      | 5, _, _ => exact hv
      | 6, _, _ => exact hv
      | 7, _, h => exact absurd rfl h)
    rwa [Nat.zero_add] at this
theorem OutAt.items {w : World} {r : Nat} {h0 : Hd} {a b : Value} (h : OutAt w r h0 a b) (c : Value) : OutAt (w.setCell ⟨r, 6, none⟩ c) r h0 c b := by
  refine ⟨⟨by simpa using h.1.1, fun j v hv => ?_⟩, fun o => by rw [World.frozen?_setCell]; exact h.2 o⟩
  have hj : j < 8 := by have := (List.getElem?_eq_some_iff.1 hv).1; simpa [hdc] using this
  rw [Nat.zero_add]
  by_cases h7 : j = 6
  · subst h7
    have : v = c := by simpa [hdc] using hv.symm
    subst this
    have hb : (w.cell? ⟨r, 6, none⟩).isSome = true := by rw [h.facts.1.2.2.2.2.2.2.1]; rfl
    exact World.cell?_setCell_same' _ _ _ hb
  · rw [World.cell?_setCell_other _ _ _ _ (by first | (simp; done) | (simp; omega))]
    have := h.1.2 j v (by
      match j, hj, h7 with
      | 0, _, _ => exact hv
      | 1, _, _ => exact hv
      | 2, _, _ => exact hv
      | 3, _, _ => exact hv
      | 4, _, _ => exact hv
      | 5, _, _ => exact hv
      | 6, _, h => exact absurd rfl h
      | 7, _, _ => exact hv)
    rwa [Nat.zero_add] at this
/-- Where the reference stands: its argument's box, its answer's two boxes, the items as they must be, what is laid down so far. -/
structure OutSt (w W : World) (v : V) (vi vn lv : Value) (ps : List El) (k : Int) (a b : Value) (xs : List El) (ys : List ByteArray) : Prop where
  box : CellsAtv W w.heap.size 0 (hdc v.h vi vn)
  res : Res W (w.heap.size + 1)
  out : OutAt W (w.heap.size + 2) { hd0 with k := k } a b
  lrow : OwnVv (w.heap.size + 3) W lv ps
  lels : ∀ p ∈ ps, ElOk (fun c => w.heap.size + 3 ≤ c) W p
  its : OwnVv (w.heap.size + 3) W a xs
  nms : OwnR 9 1 encN (w.heap.size + 3) W b ys
  sub : ∀ p ∈ xs, p ∈ ps
  low : Low w W
theorem OutSt.grow {w W W' : World} {v : V} {vi vn lv : Value} {ps : List El} {k : Int} {a b : Value} {xs : List El} {ys : List ByteArray} (h : OutSt w W v vi vn lv ps k a b xs ys) (l : Low W W') : OutSt w W' v vi vn lv ps k a b xs ys :=
  ⟨l.cells h.box, h.res.low l, h.out.low l, OwnR.low h.lrow l, fun p hp => Rep.low (h.lels p hp) l, OwnR.low h.its l, OwnR.low h.nms l, h.sub, h.low.trans l⟩
theorem OutSt.put {w W W' : World} {v : V} {vi vn lv : Value} {ps : List El} {k : Int} {a b a' b' : Value} {xs xs' : List El} {ys ys' : List ByteArray} (h : OutSt w W v vi vn lv ps k a b xs ys) (K : KeptButv W W' (some (w.heap.size + 2)))
    (ho : OutAt W' (w.heap.size + 2) { hd0 with k := k } a' b') (hi : OwnVv (w.heap.size + 3) W a' xs') (hn : OwnR 9 1 encN (w.heap.size + 3) W b' ys') (hs : ∀ p ∈ xs', p ∈ ps) : OutSt w W' v vi vn lv ps k a' b' xs' ys' := by
  have own : ∀ {α : Type} {e : TypeId} {q : Nat} {enc : α → List Value} {u : Value} {l : List α}, OwnR e q enc (w.heap.size + 3) W u l → OwnR e q enc (w.heap.size + 3) W' u l := fun ho => ho.to fun g hg => K.2.2.2 g (World.ownsRow.lt ho g hg).2 (by have := (World.ownsRow.lt ho g hg).1; simp; omega)
  refine ⟨fun j u hu => K.cellAt (h.box j u hu) (by simp), h.res.kept K (by simp), ho, own h.lrow, fun p hp => Rep.to (fun c hc hb => ⟨hc, K.2.2.2 c hb (by simp; omega)⟩) _ (h.lels p hp), own hi, own hn, hs, h.low.kept K fun g hg => by simp at hg; omega⟩
theorem OutSt.putItems {w W : World} {v : V} {vi vn lv : Value} {ps : List El} {k : Int} {a b a' : Value} {xs xs' : List El} {ys : List ByteArray} (h : OutSt w W v vi vn lv ps k a b xs ys) (hi : OwnVv (w.heap.size + 3) W a' xs') (hs : ∀ p ∈ xs', p ∈ ps) :
    OutSt w (W.setCell ⟨w.heap.size + 2, 6, none⟩ a') v vi vn lv ps k a' b xs' ys := h.put (kept_setCellv _ _ _ _) (h.out.items a') hi h.nms hs
theorem OutSt.putNames {w W : World} {v : V} {vi vn lv : Value} {ps : List El} {k : Int} {a b b' : Value} {xs : List El} {ys ys' : List ByteArray} (h : OutSt w W v vi vn lv ps k a b xs ys) (hn : OwnR 9 1 encN (w.heap.size + 3) W b' ys') :
    OutSt w (W.setCell ⟨w.heap.size + 2, 7, none⟩ b') v vi vn lv ps k a b' xs ys' := h.put (kept_setCellv _ _ _ _) (h.out.names b') h.its hn h.sub
theorem OutSt.boxes {w W : World} {v : V} {vi vn lv : Value} {ps : List El} {k : Int} {a b : Value} {xs : List El} {ys : List ByteArray} (h : OutSt w W v vi vn lv ps k a b xs ys) :
    W.cell? ⟨w.heap.size, 0, none⟩ = some (.int .i64 v.h.k) ∧ W.cell? ⟨w.heap.size, 6, none⟩ = some vi ∧ W.cell? ⟨w.heap.size, 7, none⟩ = some vn := by
  have h8 := cells8 h.box
  simp only [Nat.zero_add] at h8
  exact ⟨h8.1, h8.2.2.2.2.2.2.1, h8.2.2.2.2.2.2.2⟩
end Go.Proofs.YtnenjgngahipdaaGreat
