/- A square table of bools in a block: its cells, a store, what was there and what is kept. No condition. The reference's Find: the first entity with a name. No condition. Plain: a table of ways, filled name by name. No condition. The reference's Above: the table of ways between entities by number. Condition: no more than 1000 entities, rows no longer. The reference's Round: whether some way goes from an entity, the first with its name, to itself. Condition: no more than 1000 entities. Plain: some way goes round by names just if some goes round by numbers. No condition. Plain: a name put into a rising row, an entity put behind all that come first. No condition. Plain: lists of entities as they must be stay so; neither the order of a list nor that of parents matters. Conditions: as each says, of 'c'. -/
import Derived.Test.YtnenjgngahipdaaGreatZg03
import Derived.Test.YtnenjgngahipdaaGreatZg00
import Derived.OwnWalk
import Derived.Test.YtnenjgngahipdaaGreatZg02
set_option linter.unusedVariables false
set_option linter.unusedSimpArgs false
set_option linter.unnecessarySimpa false
namespace Go.Proofs.YtnenjgngahipdaaGreat
open Go.RowKit Go.Maps Go.Sort
structure TabAt (w : World) (b n : Nat) (T : Nat → Nat → Bool) : Prop where
  cell : ∀ a c, a < n → c < n → w.cell? ⟨b, a * n + c, none⟩ = some (.bool (T a c))
  free : ∀ o, w.frozen? ⟨b, o, none⟩ = false
  lt : b < w.heap.size
theorem TabAt.block {w w' : World} {b n : Nat} {T : Nat → Nat → Bool} (h : TabAt w b n T) (e : w'.heap[b]? = w.heap[b]?) (hs : w.heap.size ≤ w'.heap.size) : TabAt w' b n T where
  cell a c ha hc := by rw [World.cell?_of_block (w := w) (by exact e)]; exact h.cell a c ha hc
  free o := by rw [World.frozen?_of_block (w := w) (by exact e)]; exact h.free o
  lt := Nat.lt_of_lt_of_le h.lt hs
theorem TabAt.low {w w' : World} {b n : Nat} {T : Nat → Nat → Bool} (h : TabAt w b n T) (hl : Low w w') : TabAt w' b n T := h.block (hl.2.2.2 _ h.lt) hl.size
theorem sq_inj {n a c i j : Nat} (hc : c < n) (hj : j < n) (h : a * n + c = i * n + j) : a = i ∧ c = j := by
  have h1 : (a * n + c) / n = a := by rw [Nat.mul_comm, Nat.mul_add_div (by omega), Nat.div_eq_of_lt hc, Nat.add_zero]
  have h2 : (i * n + j) / n = i := by rw [Nat.mul_comm, Nat.mul_add_div (by omega), Nat.div_eq_of_lt hj, Nat.add_zero]
  have : a = i := by rw [← h1, ← h2, h]
  subst this
  exact ⟨rfl, by omega⟩
theorem sq_lt {n a c : Nat} (ha : a < n) (hc : c < n) : a * n + c < n * n := by
  have := Nat.mul_le_mul_right n (show a + 1 ≤ n by omega)
  rw [Nat.add_mul] at this
  omega
def updT (T : Nat → Nat → Bool) (i j : Nat) (v : Bool) : Nat → Nat → Bool := fun a c => if a = i ∧ c = j then v else T a c
theorem TabAt.store {w : World} {b n i j : Nat} {T : Nat → Nat → Bool} (h : TabAt w b n T) (hi : i < n) (hj : j < n) (v : Bool) : TabAt (w.setCell ⟨b, i * n + j, none⟩ (.bool v)) b n (updT T i j v) where
  cell a c ha hc := by
    unfold updT
    by_cases e : a = i ∧ c = j
    · rw [if_pos e, e.1, e.2]
      exact World.cell?_setCell_same' _ _ _ (by rw [h.cell i j hi hj]; rfl)
    · rw [if_neg e, World.cell?_setCell_other _ _ _ _ (fun h2 => e (by simp at h2; exact sq_inj hc hj h2.symm))]
      exact h.cell a c ha hc
  free o := by rw [World.frozen?_setCell]; exact h.free o
  lt := by
    have := h.lt
    simpa using this
theorem TabAt.made {w : World} {base b n m : Nat} (h : w.ownsRow base 4 1 (.slice (some ⟨b, 0, none⟩) (n * n) m) (n * n) (List.replicate (n * n) (Value.bool false))) : TabAt w b n fun _ _ => false where
  cell a c ha hc := by
    have h1 := World.ownsRow.cells h (g := b) rfl (a * n + c) (.bool false) (by rw [List.getElem?_replicate, if_pos (sq_lt ha hc)])
    rw [Addr.add_lit, Nat.zero_add] at h1
    exact h1
  free o := by
    rcases h.2 with ⟨hv, _⟩ | ⟨g', cap', cur, hv, h1, h2, _⟩
    · simp at hv
    · simp only [Value.slice.injEq, Option.some.injEq, Addr.mk.injEq] at hv
      obtain ⟨⟨rfl, -, -⟩, -, -⟩ := hv
      simp [World.frozen?, h2]
  lt := (World.ownsRow.lt h b rfl).2
end Go.Proofs.YtnenjgngahipdaaGreat
namespace Go.Proofs.YtnenjgngahipdaaGreat
open Go.RowKit Go.Maps Go.Sort
/-- The first place of a name; as many as there are: it isn't there. -/
def idxS (l : List Sh) (u : Us) : Nat := l.findIdx fun s => decide (s.u = u)
def findI (l : List Sh) (u : Us) : Int := if idxS l u < l.length then (idxS l u : Int) else -1
theorem idx_here {l : List Sh} {u : Us} {i : Nat} (hi : i < l.length) (hn : ∀ j (hj : j < l.length), j < i → l[j].u ≠ u) (h : l[i].u = u) : findI l u = (i : Int) := by
  have e : idxS l u = i := by
    unfold idxS
    rw [List.findIdx_eq hi]
    exact ⟨by simpa using h, fun j hj => by simpa using hn j (by omega) hj⟩
  unfold findI
  rw [e, if_pos hi]
theorem idx_none {l : List Sh} {u : Us} (hn : ∀ j (hj : j < l.length), l[j].u ≠ u) : findI l u = -1 := by
  have e : idxS l u = l.length := by
    unfold idxS
    rw [List.findIdx_eq_length]
    intro s hs
    obtain ⟨j, hj, rfl⟩ := List.getElem_of_mem hs
    simpa using hn j hj
  unfold findI
  rw [e, if_neg (Nat.lt_irrefl _)]
theorem tl_injE {s t : ByteArray} (h : s.toList = t.toList) : s = t := by
  rw [ByteArray.toList_eq, ByteArray.toList_eq] at h
  cases s; cases t
  congr 1
  exact Array.ext' h
set_option maxRecDepth 100000 in
set_option maxHeartbeats 1600000 in
theorem find_c (l : List Sh) (u : Us) (w : World) (r : Value) (hr : EsAt w r l) : Calls Tryz.prog 51 #[r, usV u] w fun e w' => e = .returned (.int .i64 (findI l u)) ∧ Low w w' := by
  obtain ⟨ao, c, rfl, ⟨hlc, hc9⟩, hx⟩ := hr
  have HX := Lib.hid hx
  clear hx
  unfold usV
  go_enter Tryz.func51, Tryz.ntmps51
  go_wp2_with fail
  go_loopg [5] l.length (fun gk vi wr => ∃ i : Nat, vi = .int .i64 (i : Int) ∧ i ≤ l.length ∧ l.length - i ≤ gk ∧ Hid (Low (w.alloc (.cells #[.string u.t, .string u.i] 23)) wr) ∧ Hid (∀ j (hj : j < l.length), j < i → l[j].u ≠ u))
  case atStart => exact ⟨0, rfl, Nat.zero_le _, Nat.le_refl _, Lib.hid (Low.refl _), Lib.hid fun j hj h => absurd h (Nat.not_lt_zero _)⟩
  case round =>
    obtain ⟨i, rfl, hi, hg, L, K⟩ := hrel
    have hLw := Lib.hid ((Gr.alloc (Gr.refl w) _).low.trans L.out)
    have f0 : wr.cell? ⟨w.heap.size, 0, none⟩ = some (.string u.t) := L.out.keep (by rw [World.cell?_alloc_mark]; rfl)
    have f1 : wr.cell? ⟨w.heap.size, 1, none⟩ = some (.string u.i) := L.out.keep (by rw [World.cell?_alloc_mark]; rfl)
    by_cases hlt : i < l.length
    · have zl : (i : Int) < (l.length : Int) := by omega
      obtain ⟨b, o, rfl, hcs⟩ := HX.out i hlt
      obtain ⟨e0, e1, -⟩ := cells11 (hLw.out.cells hcs)
      clear hcs
      obtain ⟨s, hs⟩ : ∃ s, Hid (s = l[i].u) := ⟨_, Lib.hid rfl⟩
      rw [← hs.out] at e0 e1
      by_cases hu : s = u
      · have hu1 : s.t = u.t := by rw [hu]
        have hu2 : s.i = u.i := by rw [hu]
        rw [hu1] at e0
        rw [hu2] at e1
        have HU := Lib.hid hu
        clear hu hu1 hu2
        go_wp2_with fail
        go_region
        all_goals
          go_wp2_with fail
          go_ret
          exact ⟨by rw [idx_here hlt (fun j hj h => K.out j hj h) (by rw [← hs.out]; exact HU.out)]; rfl, hLw.out.trans (Gr.drew (Gr.refl wr)).low⟩
      · have HU := Lib.hid hu
        have hne : ¬ (s.t = u.t ∧ s.i = u.i) := fun h => hu (Us.ext' h.1 h.2)
        clear hu
        by_cases ht : s.t = u.t
        · have hi2 : ¬ s.i = u.i := fun h => hne ⟨ht, h⟩
          rw [ht] at e0
          have hi3 : ¬ s.i.toList = u.i.toList := fun h => hi2 (tl_injE h)
          clear hne ht
          go_wp2_with fail
          go_region
          all_goals
            go_wp2_with fail
            go_roundg (l.length - (i + 1))
            case measure => omega
            case rel =>
              refine ⟨i + 1, by go_num, by omega, by omega, Lib.hid (L.out.trans (Gr.drew (Gr.refl wr)).low), Lib.hid fun j hj hji => ?_⟩
              rcases Nat.lt_succ_iff_lt_or_eq.1 hji with h | rfl
              · exact K.out j hj h
              · rw [← hs.out]; exact HU.out
        · have ht3 : ¬ s.t.toList = u.t.toList := fun h => ht (tl_injE h)
          clear hne
          go_wp2_with fail
          go_region
          all_goals
            go_wp2_with fail
            go_roundg (l.length - (i + 1))
            case measure => omega
            case rel =>
              refine ⟨i + 1, by go_num, by omega, by omega, Lib.hid (L.out.trans (Gr.drew (Gr.refl wr)).low), Lib.hid fun j hj hji => ?_⟩
              rcases Nat.lt_succ_iff_lt_or_eq.1 hji with h | rfl
              · exact K.out j hj h
              · rw [← hs.out]; exact HU.out
    · have zl : ¬ (i : Int) < (l.length : Int) := by omega
      go_wp2_with fail
      go_ret
      exact ⟨by rw [idx_none fun j hj => K.out j hj (by omega)]; rfl, hLw.out⟩
end Go.Proofs.YtnenjgngahipdaaGreat
namespace Go.Proofs.YtnenjgngahipdaaGreat
theorem Thru.within {S : Nat → Nat → Prop} {n k a b : Nat} (hS : ∀ a b, S a b → a < n ∧ b < n) (h : Thru S k a b) : a < n ∧ b < n := by
  induction h with
  | one s => exact hS _ _ s
  | more _ _ _ i1 i2 => exact ⟨i1.1, i2.2⟩
/-- Where the filling stands: with the first k names between all ways are in the table; what is in it goes by the first k + 1; the rows ahead of i, and row i up to j, are done for these. -/
structure War (S : Nat → Nat → Prop) (k i j : Nat) (T : Nat → Nat → Bool) : Prop where
  old : ∀ a b, Thru S k a b → T a b = true
  new : ∀ a b, T a b = true → Thru S (k + 1) a b
  done : ∀ a b, (a < i ∨ (a = i ∧ b < j)) → Thru S (k + 1) a b → T a b = true
theorem War.start {S : Nat → Nat → Prop} {T : Nat → Nat → Bool} (h : ∀ a b, T a b = true ↔ S a b) : War S 0 0 0 T where
  old := fun a b t => by
    cases t with
    | one s => exact (h a b).2 s
    | more _ hb _ => exact absurd hb (Nat.not_lt_zero _)
  new := fun a b t => .one ((h a b).1 t)
  done := fun a b hd _ => by omega
theorem War.step {S : Nat → Nat → Prop} {k i j : Nat} {T : Nat → Nat → Bool} (h : War S k i j T) (T' : Nat → Nat → Bool) (hT : ∀ a b, T' a b = if a = i ∧ b = j then (T i j || (T i k && T k j)) else T a b) : War S k i (j + 1) T' where
  old := fun a b t => by
    have := h.old a b t
    rw [hT]
    split
    · rename_i e
      rw [← e.1, ← e.2, this]; rfl
    · exact this
  new := fun a b t => by
    rw [hT] at t
    split at t
    · rename_i e
      obtain ⟨rfl, rfl⟩ := e
      rw [Bool.or_eq_true, Bool.and_eq_true] at t
      rcases t with t | ⟨t1, t2⟩
      · exact h.new _ _ t
      · exact .more (h.new _ _ t1) (Nat.lt_succ_self k) (h.new _ _ t2)
    · exact h.new _ _ t
  done := fun a b hd t => by
    rw [hT]
    split
    · rename_i e
      obtain ⟨rfl, rfl⟩ := e
      rcases t.split with t | ⟨t1, t2⟩
      · rw [h.old _ _ t]; rfl
      · rw [h.old _ _ t1, h.old _ _ t2]; simp
    · rename_i e
      refine h.done a b ?_ t
      rcases hd with hd | ⟨rfl, hb⟩
      · exact .inl hd
      · refine .inr ⟨rfl, ?_⟩
        rcases Nat.lt_or_ge b j with h1 | h1
        · exact h1
        · exact absurd ⟨rfl, by omega⟩ e
theorem War.row {S : Nat → Nat → Prop} {n k i j : Nat} {T : Nat → Nat → Bool} (hS : ∀ a b, S a b → a < n ∧ b < n) (h : War S k i j T) (hj : n ≤ j) : War S k (i + 1) 0 T where
  old := h.old
  new := h.new
  done := fun a b hd t => h.done a b (by
    have := (t.within hS).2
    rcases hd with hd | hd
    · rcases Nat.lt_or_ge a i with h1 | h1
      · exact .inl h1
      · exact .inr ⟨by omega, by omega⟩
    · omega) t
theorem War.next {S : Nat → Nat → Prop} {n k i j : Nat} {T : Nat → Nat → Bool} (hS : ∀ a b, S a b → a < n ∧ b < n) (h : War S k i j T) (hi : n ≤ i) : War S (k + 1) 0 0 T where
  old := fun a b t => h.done a b (.inl (by have := (t.within hS).1; omega)) t
  new := fun a b t => (h.new a b t).up (by omega)
  done := fun a b hd _ => by omega
theorem War.fin {S : Nat → Nat → Prop} {n k : Nat} {T : Nat → Nat → Bool} (hS : ∀ a b, S a b → a < n ∧ b < n) (h : War S k 0 0 T) (hk : n ≤ k) (a b : Nat) : T a b = true ↔ Way S a b :=
  ⟨fun t => (h.new a b t).way, fun w => h.old a b ((Thru.of_way hS w).up hk)⟩
end Go.Proofs.YtnenjgngahipdaaGreat
namespace Go.Proofs.YtnenjgngahipdaaGreat
open Go.RowKit Go.Maps Go.Sort
theorem b_info : (Tryz.prog.info? 4).map (fun i => (i.zero, i.size, i.bytes)) = some (some (.bool false), 1, 1) := by kernel_rfl
/-- A step from entity i to entity j: j is the first with the name of a parent of i. -/
def stepS (l : List Sh) (R : Nat → List Us) (i j : Nat) : Prop := i < l.length ∧ ∃ p ∈ R i, findI l p = (j : Int)
theorem Low.set {w a : World} (h : Low w a) (x : Addr) (v : Value) (hb : w.heap.size ≤ x.block) : Low w (a.setCell x v) :=
  ⟨by exact h.1, by exact h.2.1, by have := h.2.2.1; simpa using this, fun k hk => (Below.heap_setCell a x v k (by omega)).trans (h.2.2.2 k hk)⟩
/-- What Above answers. -/
def AboveP (l : List Sh) (R : Nat → List Us) (w : World) (e : Ending) (w' : World) : Prop := ∃ (b : Nat) (T : Nat → Nat → Bool), e = .returned (.slice (some ⟨b, 0, none⟩) (l.length * l.length) (l.length * l.length)) ∧ w.heap.size ≤ b ∧ TabAt w' b l.length T ∧ (∀ a c, T a c = true ↔ Way (stepS l R) a c) ∧ Low w w'
set_option maxRecDepth 100000 in
set_option maxHeartbeats 3200000 in
theorem above_cv (l : List Sh) (R : Nat → List Us) (hl : l.length ≤ 1000) (w : World) (r : Value) (hr : EsAt w r l) (hR : ∀ i (hi : i < l.length), UsAt w l[i].p (R i)) :
    Calls Tryz.prog 119 #[r] w (AboveP l R w) := by
  obtain ⟨ao, c, rfl, ⟨hlc, hc9⟩, hx⟩ := id hr
  have HX := Lib.hid hx
  have HE := Lib.hid hr
  have HR := Lib.hid hR
  clear hx hr hR
  obtain ⟨i0, hi, hz0, hz1, hz2⟩ := info_parts b_info
  obtain ⟨N, hN⟩ : ∃ N, Hid (N = l.length * l.length) := ⟨_, Lib.hid rfl⟩
  have hNb : N ≤ 1000000 := by rw [hN.out]; exact Nat.mul_le_mul hl hl
  have hNw : IntKind.wrap .i64 ((l.length : Int) * (l.length : Int)) = (N : Int) := by
    have : (l.length : Int) * (l.length : Int) = (N : Int) := by rw [hN.out]; simp
    rw [this, IntKind.wrap_i64]; omega
  go_enter Tryz.func119, Tryz.ntmps119
  go_wp2_with (at_make; go_loud (refine wpList_make_full _ rfl _ _ _ rfl w.heap.size 4 i0 (.bool false) 1 Tryz.underlying146 hi hz0 hz1 .i64 .i64 _ _ N rfl rfl rfl rfl (by rw [hz2]; omega) (by unfold maxLen; omega) (Nat.le_refl _) ?_); intro w1 O1 G1)
  have HT1 := Lib.hid (show TabAt w1 w.heap.size l.length fun _ _ => false from TabAt.made (base := w.heap.size) (m := N) (by
    rw [← hN.out]
    have e : (madeCells (Value.bool false).cells (N * 1)).toList = List.replicate N (Value.bool false) := by
      apply List.ext_getElem?
      intro j
      by_cases hj : j < N
      · simp [madeCells, Value.cells, hj, Nat.mod_one]
      · simp [madeCells, hj]
    rw [e] at O1
    exact O1))
  have HL1 := Lib.hid (show Low w w1 from ⟨G1.os, G1.output, G1.size, fun k hk => G1.block k hk (by simp)⟩)
  clear O1 G1 hz0 hz1 hz2 hi hNw
  go_loopg [5] l.length (fun gk vi wr => ∃ (i : Nat) (T : Nat → Nat → Bool), vi = .int .i64 (i : Int) ∧ i ≤ l.length ∧ l.length - i ≤ gk ∧ Hid (Low w wr) ∧ Hid (TabAt wr w.heap.size l.length T) ∧ Hid (∀ a c, T a c = true ↔ a < i ∧ stepS l R a c))
  case atStart => exact ⟨0, _, rfl, Nat.zero_le _, Nat.le_refl _, HL1, HT1, Lib.hid fun a c => by simp⟩
  case round =>
    clear HL1 HT1
    obtain ⟨i, T, rfl, hi, hg, L, TT, K⟩ := hrel
    by_cases hlt : i < l.length
    · have zl : (i : Int) < (l.length : Int) := by omega
      obtain ⟨b, o, rfl, hcs⟩ := HX.out i hlt
      have HC := Lib.hid hcs
      obtain ⟨-, -, e2, -⟩ := cells11 (L.out.cells hcs)
      clear hcs
      obtain ⟨ap, cp, hp, ⟨hp1, hp2⟩, hp3⟩ := HR.out i hlt
      have hp' : Value.slice l[i].ap l[i].np l[i].cp = .slice ap (R i).length cp := hp
      rw [hp'] at e2
      have HP3 := Lib.hid hp3
      have HP := Lib.hid hp'
      clear hp hp' hp3
      clear e2
      rename World => wo
      go_wp2_with fail
      go_loopg [6] (R i).length (fun gk vk wr => ∃ (k : Nat) (T' : Nat → Nat → Bool), vk = .int .i64 (k : Int) ∧ k ≤ (R i).length ∧ (R i).length - k ≤ gk ∧ Hid (Low w wr) ∧ Hid (TabAt wr w.heap.size l.length T') ∧ Hid (∀ a c, T' a c = true ↔ (a < i ∧ stepS l R a c) ∨ (a = i ∧ ∃ p ∈ (R i).take k, findI l p = (c : Int))))
      case atStart => exact ⟨0, T, rfl, Nat.zero_le _, Nat.le_refl _, L, TT, Lib.hid fun a c => by rw [K.out]; simp⟩
      case round =>
        clear L TT K
        obtain ⟨k, T', rfl, hk, hgk, L, TT, K⟩ := hrel
        obtain ⟨-, -, e2, -⟩ := cells11 (L.out.cells HC.out)
        rw [HP.out] at e2
        by_cases hkt : k < (R i).length
        · have zk : (k : Int) < ((R i).length : Int) := by omega
          obtain ⟨pb, po, rfl, hcs⟩ := HP3.out k hkt
          obtain ⟨d0, d1⟩ := cells2 (L.out.cells hcs)
          clear hcs
          obtain ⟨p, hp⟩ : ∃ p, Hid (p = (R i)[k]) := ⟨_, Lib.hid rfl⟩
          rw [← hp.out] at d0 d1
          have hf := find_c l p wr _ (HE.out.low L.out)
          unfold usV at hf
          have HF := Lib.hid hf
          clear hf
          go_wp2_with fail
          refine HF.out.mono ?_
          rintro e w2 ⟨rfl, L2⟩
          have HL2 := Lib.hid (L.out.trans L2)
          have HT2 := Lib.hid (TT.out.low L2)
          clear L2
          have HTK := Lib.hid (show (R i).take (k + 1) = (R i).take k ++ [p] by rw [hp.out, List.take_succ_eq_append_getElem hkt])
          by_cases hm : idxS l p < l.length
          · obtain ⟨m, hm2⟩ : ∃ m, Hid (m = idxS l p) := ⟨_, Lib.hid rfl⟩
            have hfi : findI l p = (m : Int) := by unfold findI; rw [if_pos hm, hm2.out]
            have HFI := Lib.hid hfi
            rw [hfi]
            rw [← hm2.out] at hm
            clear hfi
            obtain ⟨Q, hQ⟩ : ∃ Q, Hid (Q = i * l.length) := ⟨_, Lib.hid rfl⟩
            have hQm : Q + m < N := by rw [hQ.out, hN.out]; exact sq_lt hlt hm
            have hq1 : IntKind.wrap .i64 ((i : Int) * (l.length : Int)) = (Q : Int) := by
              have : (i : Int) * (l.length : Int) = (Q : Int) := by rw [hQ.out]; simp
              rw [this, IntKind.wrap_i64]; omega
            have hq2 : IntKind.wrap .i64 ((Q : Int) + (m : Int)) = (Q : Int) + (m : Int) := by rw [IntKind.wrap_i64]; omega
            have hq3 : (Q : Int) + (m : Int) < (N : Int) := by omega
            have hq4 : ((Q : Int) + (m : Int)).toNat = Q + m := by omega
            have t0 : w2.cell? ⟨w.heap.size, Q + m, none⟩ = some (.bool (T' i m)) := by rw [hQ.out]; exact HT2.out.cell i m hlt hm
            have t1 : w2.frozen? ⟨w.heap.size, Q + m, none⟩ = false := HT2.out.free _
            go_wp2_with fail
            go_roundg ((R i).length - (k + 1))
            case measure => omega
            case rel =>
              refine ⟨k + 1, updT T' i m true, by go_num, by omega, by omega, Lib.hid (HL2.out.set _ _ (Nat.le_refl _)), Lib.hid (by have := HT2.out.store hlt hm true; rw [← hQ.out] at this; exact this), Lib.hid fun a c => ?_⟩
              rw [HTK.out]
              unfold updT
              by_cases e : a = i ∧ c = m
              · rw [if_pos e]
                exact iff_of_true rfl (.inr ⟨e.1, p, by simp, by rw [HFI.out, e.2]⟩)
              · rw [if_neg e, K.out]
                constructor
                · rintro (h | ⟨h1, q, hq, h2⟩)
                  · exact .inl h
                  · exact .inr ⟨h1, q, List.mem_append_left _ hq, h2⟩
                · rintro (h | ⟨h1, q, hq, h2⟩)
                  · exact .inl h
                  · rcases List.mem_append.1 hq with hq | hq
                    · exact .inr ⟨h1, q, hq, h2⟩
                    · simp at hq
                      subst hq
                      exact absurd ⟨h1, by have := HFI.out; omega⟩ e
          · have hfi : findI l p = -1 := by unfold findI; rw [if_neg hm]
            have HFI := Lib.hid hfi
            rw [hfi]
            clear hfi
            go_wp2_with fail
            go_roundg ((R i).length - (k + 1))
            case measure => omega
            case rel =>
              refine ⟨k + 1, T', by go_num, by omega, by omega, HL2, HT2, Lib.hid fun a c => ?_⟩
              rw [HTK.out, K.out]
              constructor
              · rintro (h | ⟨h1, q, hq, h2⟩)
                · exact .inl h
                · exact .inr ⟨h1, q, List.mem_append_left _ hq, h2⟩
              · rintro (h | ⟨h1, q, hq, h2⟩)
                · exact .inl h
                · rcases List.mem_append.1 hq with hq | hq
                  · exact .inr ⟨h1, q, hq, h2⟩
                  · simp at hq
                    subst hq
                    have := HFI.out
                    omega
        · have zk : ¬ (k : Int) < ((R i).length : Int) := by omega
          go_wp2_with fail
          go_roundg (l.length - (i + 1))
          case measure => omega
          case rel =>
            refine ⟨i + 1, T', by go_num, by omega, by omega, L, TT, Lib.hid fun a c => ?_⟩
            rw [K.out, show k = (R i).length by omega, List.take_length]
            constructor
            · rintro (h | ⟨h1, q, hq, h2⟩)
              · exact ⟨by omega, h.2⟩
              · exact ⟨by omega, by rw [h1]; exact hlt, q, by rw [h1]; exact hq, h2⟩
            · rintro ⟨h, h1, q, hq, h2⟩
              by_cases e : a = i
              · exact .inr ⟨e, q, by rw [← e]; exact hq, h2⟩
              · exact .inl ⟨by omega, h1, q, hq, h2⟩
    · have zl : ¬ (i : Int) < (l.length : Int) := by omega
      go_wp2_with fail
      have hS : ∀ a c, stepS l R a c → a < l.length ∧ c < l.length := fun a c h => by
        obtain ⟨h1, p, hp, h2⟩ := h
        refine ⟨h1, ?_⟩
        unfold findI at h2
        split at h2
        · rename_i h3; omega
        · omega
      have HS := Lib.hid hS
      have HW := Lib.hid (show War (stepS l R) 0 0 0 T from War.start fun a c => by
        rw [K.out]
        exact ⟨fun h => h.2, fun h => ⟨by have := h.1; omega, h⟩⟩)
      clear hS K hg hi hlt zl
      go_loopg [8] l.length (fun gk vk wr => ∃ (k : Nat) (T : Nat → Nat → Bool), vk = .int .i64 (k : Int) ∧ k ≤ l.length ∧ l.length - k ≤ gk ∧ Hid (Low w wr) ∧ Hid (TabAt wr w.heap.size l.length T) ∧ Hid (War (stepS l R) k 0 0 T))
      case atStart => exact ⟨0, T, rfl, Nat.zero_le _, Nat.le_refl _, L, TT, HW⟩
      case round =>
        clear L TT HW
        obtain ⟨k, T, rfl, hk, hg, L, TT, K⟩ := hrel
        by_cases hkt : k < l.length
        · have zk : (k : Int) < (l.length : Int) := by omega
          rename World => wo
          go_wp2_with fail
          go_loopg [9] l.length (fun gi vi wr => ∃ (i : Nat) (T : Nat → Nat → Bool), vi = .int .i64 (i : Int) ∧ i ≤ l.length ∧ l.length - i ≤ gi ∧ Hid (Low w wr) ∧ Hid (TabAt wr w.heap.size l.length T) ∧ Hid (War (stepS l R) k i 0 T))
          case atStart => exact ⟨0, T, rfl, Nat.zero_le _, Nat.le_refl _, L, TT, K⟩
          case round =>
            clear L TT K
            obtain ⟨i, T, rfl, hi, hgi, L, TT, K⟩ := hrel
            by_cases hit : i < l.length
            · have zi : (i : Int) < (l.length : Int) := by omega
              rename World => wp
              go_wp2_with fail
              go_loopg [10] l.length (fun gj vj wr => ∃ (j : Nat) (T : Nat → Nat → Bool), vj = .int .i64 (j : Int) ∧ j ≤ l.length ∧ l.length - j ≤ gj ∧ Hid (Low w wr) ∧ Hid (TabAt wr w.heap.size l.length T) ∧ Hid (War (stepS l R) k i j T))
              case atStart => exact ⟨0, T, rfl, Nat.zero_le _, Nat.le_refl _, L, TT, K⟩
              case round =>
                clear L TT K
                obtain ⟨j, T, rfl, hj, hgj, L, TT, K⟩ := hrel
                by_cases hjt : j < l.length
                · have zj : (j : Int) < (l.length : Int) := by omega
                  obtain ⟨Q, hQ⟩ : ∃ Q, Hid (Q = i * l.length) := ⟨_, Lib.hid rfl⟩
                  obtain ⟨R2, hR2⟩ : ∃ Q, Hid (Q = k * l.length) := ⟨_, Lib.hid rfl⟩
                  have hQk : Q + k < N := by rw [hQ.out, hN.out]; exact sq_lt hit hkt
                  have hQj : Q + j < N := by rw [hQ.out, hN.out]; exact sq_lt hit hjt
                  have hRj : R2 + j < N := by rw [hR2.out, hN.out]; exact sq_lt hkt hjt
                  have q1 : IntKind.wrap .i64 ((i : Int) * (l.length : Int)) = (Q : Int) := by
                    have : (i : Int) * (l.length : Int) = (Q : Int) := by rw [hQ.out]; simp
                    rw [this, IntKind.wrap_i64]; omega
                  have q2 : IntKind.wrap .i64 ((k : Int) * (l.length : Int)) = (R2 : Int) := by
                    have : (k : Int) * (l.length : Int) = (R2 : Int) := by rw [hR2.out]; simp
                    rw [this, IntKind.wrap_i64]; omega
                  have q3 : IntKind.wrap .i64 ((Q : Int) + (k : Int)) = (Q : Int) + (k : Int) := by rw [IntKind.wrap_i64]; omega
                  have q4 : IntKind.wrap .i64 ((Q : Int) + (j : Int)) = (Q : Int) + (j : Int) := by rw [IntKind.wrap_i64]; omega
                  have q5 : IntKind.wrap .i64 ((R2 : Int) + (j : Int)) = (R2 : Int) + (j : Int) := by rw [IntKind.wrap_i64]; omega
                  have q6 : (Q : Int) + (k : Int) < (N : Int) := by omega
                  have q7 : (Q : Int) + (j : Int) < (N : Int) := by omega
                  have q8 : (R2 : Int) + (j : Int) < (N : Int) := by omega
                  have q9 : ((Q : Int) + (k : Int)).toNat = Q + k := by omega
                  have qa : ((Q : Int) + (j : Int)).toNat = Q + j := by omega
                  have qb : ((R2 : Int) + (j : Int)).toNat = R2 + j := by omega
                  have t0 : wr.cell? ⟨w.heap.size, Q + k, none⟩ = some (.bool (T i k)) := by rw [hQ.out]; exact TT.out.cell i k hit hkt
                  have t1 : wr.cell? ⟨w.heap.size, R2 + j, none⟩ = some (.bool (T k j)) := by rw [hR2.out]; exact TT.out.cell k j hkt hjt
                  have t2 : wr.cell? ⟨w.heap.size, Q + j, none⟩ = some (.bool (T i j)) := by rw [hQ.out]; exact TT.out.cell i j hit hjt
                  have t3 : wr.frozen? ⟨w.heap.size, Q + j, none⟩ = false := TT.out.free _
                  have KS := Lib.hid (K.out.step (fun a c => if a = i ∧ c = j then (T i j || (T i k && T k j)) else T a c) fun a c => rfl)
                  obtain ⟨x1, h1⟩ : ∃ x, Hid (x = T i k) := ⟨_, Lib.hid rfl⟩
                  obtain ⟨x2, h2⟩ : ∃ x, Hid (x = T k j) := ⟨_, Lib.hid rfl⟩
                  rw [← h1.out] at t0
                  rw [← h2.out] at t1
                  have stay : (x1 && x2) = false → (fun a c => if a = i ∧ c = j then (T i j || (T i k && T k j)) else T a c) = T := fun hx => by
                    funext a c
                    rw [← h1.out, ← h2.out, hx]
                    by_cases e : a = i ∧ c = j
                    · rw [if_pos e, e.1, e.2]; simp
                    · rw [if_neg e]
                  have turn : (x1 && x2) = true → (fun a c => if a = i ∧ c = j then (T i j || (T i k && T k j)) else T a c) = updT T i j true := fun hx => by
                    funext a c
                    rw [← h1.out, ← h2.out, hx]
                    unfold updT
                    by_cases e : a = i ∧ c = j
                    · rw [if_pos e, if_pos e]; simp
                    · rw [if_neg e, if_neg e]
                  have HST := Lib.hid stay
                  have HTU := Lib.hid turn
                  clear stay turn
                  cases x1 with
                  | false =>
                    go_wp2_with fail
                    go_roundg (l.length - (j + 1))
                    case measure => omega
                    case rel => exact ⟨j + 1, T, by go_num, by omega, by omega, L, TT, Lib.hid (by have := KS.out; rw [HST.out rfl] at this; exact this)⟩
                  | true =>
                    cases x2 with
                    | false =>
                      go_wp2_with fail
                      go_roundg (l.length - (j + 1))
                      case measure => omega
                      case rel => exact ⟨j + 1, T, by go_num, by omega, by omega, L, TT, Lib.hid (by have := KS.out; rw [HST.out rfl] at this; exact this)⟩
                    | true =>
                      go_wp2_with fail
                      go_roundg (l.length - (j + 1))
                      case measure => omega
                      case rel => exact ⟨j + 1, updT T i j true, by go_num, by omega, by omega, Lib.hid (L.out.set _ _ (Nat.le_refl _)), Lib.hid (by have := TT.out.store hit hjt true; rw [← hQ.out] at this; exact this), Lib.hid (by have := KS.out; rw [HTU.out rfl] at this; exact this)⟩
                · have zj : ¬ (j : Int) < (l.length : Int) := by omega
                  go_wp2_with fail
                  go_roundg (l.length - (i + 1))
                  case measure => omega
                  case rel => exact ⟨i + 1, T, by go_num, by omega, by omega, L, TT, Lib.hid (K.out.row HS.out (by omega))⟩
            · have zi : ¬ (i : Int) < (l.length : Int) := by omega
              go_wp2_with fail
              go_roundg (l.length - (k + 1))
              case measure => omega
              case rel => exact ⟨k + 1, T, by go_num, by omega, by omega, L, TT, Lib.hid (K.out.next HS.out (by omega))⟩
        · have zk : ¬ (k : Int) < (l.length : Int) := by omega
          go_wp2_with fail
          go_ret
          exact ⟨w.heap.size, T, by rw [← hN.out]; rfl, Nat.le_refl _, TT.out, K.out.fin HS.out (by omega), L.out⟩
end Go.Proofs.YtnenjgngahipdaaGreat
namespace Go.Proofs.YtnenjgngahipdaaGreat
open Go.RowKit Go.Maps Go.Sort
/-- What the reference's Round answers. -/
def RRoundP (l : List Sh) (R : Nat → List Us) (w : World) (e : Ending) (w' : World) : Prop := ∃ q : Bool, e = .returned (.bool q) ∧ (q = true ↔ ∃ i, ∃ hi : i < l.length, findI l l[i].u = (i : Int) ∧ Way (stepS l R) i i) ∧ Low w w'
set_option maxRecDepth 100000 in
set_option maxHeartbeats 3200000 in
theorem rRound_c (l : List Sh) (R : Nat → List Us) (hl : l.length ≤ 1000) (w : World) (r : Value) (hr : EsAt w r l) (hR : ∀ i (hi : i < l.length), UsAt w l[i].p (R i)) :
    Calls Tryz.prog 84 #[r] w (RRoundP l R w) := by
  have hab := above_cv l R hl w r hr hR
  obtain ⟨ao, c, rfl, ⟨hlc, hc9⟩, hx⟩ := id hr
  have HX := Lib.hid hx
  have HE := Lib.hid hr
  have HA := Lib.hid hab
  clear hx hr hR hab
  obtain ⟨N, hN⟩ : ∃ N, Hid (N = l.length * l.length) := ⟨_, Lib.hid rfl⟩
  have hNb : N ≤ 1000000 := by rw [hN.out]; exact Nat.mul_le_mul hl hl
  go_enter Tryz.func84, Tryz.ntmps84
  go_wp2_with fail
  refine HA.out.mono ?_
  rintro e w1 ⟨b, T, rfl, hb, TT, hT, L1⟩
  rw [← hN.out]
  have HT := Lib.hid hT
  have HTT := Lib.hid TT
  have HL1 := Lib.hid L1
  clear hT TT L1 HA
  go_wp2_with fail
  go_loopg [4] l.length (fun gk vi wr => ∃ i : Nat, vi = .int .i64 (i : Int) ∧ i ≤ l.length ∧ l.length - i ≤ gk ∧ Hid (Low w wr) ∧ Hid (TabAt wr b l.length T) ∧ Hid (∀ j (hj : j < l.length), j < i → ¬ (findI l l[j].u = (j : Int) ∧ T j j = true)))
  case atStart => exact ⟨0, rfl, Nat.zero_le _, Nat.le_refl _, HL1, HTT, Lib.hid fun j hj h => absurd h (Nat.not_lt_zero _)⟩
  case round =>
    clear HL1 HTT
    obtain ⟨i, rfl, hi, hg, L, TT, K⟩ := hrel
    by_cases hlt : i < l.length
    · have zl : (i : Int) < (l.length : Int) := by omega
      obtain ⟨pb, po, rfl, hcs⟩ := HX.out i hlt
      obtain ⟨e0, e1, -⟩ := cells11 (L.out.cells hcs)
      clear hcs
      obtain ⟨p, hp⟩ : ∃ p, Hid (p = l[i].u) := ⟨_, Lib.hid rfl⟩
      rw [← hp.out] at e0 e1
      have hf := find_c l p wr _ (HE.out.low L.out)
      unfold usV at hf
      have HF := Lib.hid hf
      clear hf
      obtain ⟨Q, hQ⟩ : ∃ Q, Hid (Q = i * l.length) := ⟨_, Lib.hid rfl⟩
      have hQi : Q + i < N := by rw [hQ.out, hN.out]; exact sq_lt hlt hlt
      have q1 : IntKind.wrap .i64 ((i : Int) * (l.length : Int)) = (Q : Int) := by
        have : (i : Int) * (l.length : Int) = (Q : Int) := by rw [hQ.out]; simp
        rw [this, IntKind.wrap_i64]; omega
      have q3 : IntKind.wrap .i64 ((Q : Int) + (i : Int)) = (Q : Int) + (i : Int) := by rw [IntKind.wrap_i64]; omega
      have q6 : (Q : Int) + (i : Int) < (N : Int) := by omega
      have q9 : ((Q : Int) + (i : Int)).toNat = Q + i := by omega
      go_wp2_with fail
      refine HF.out.mono ?_
      rintro e w2 ⟨rfl, L2⟩
      have HL2 := Lib.hid (L.out.trans L2)
      have HT2 := Lib.hid (TT.out.low L2)
      have t0 : w2.cell? ⟨b, Q + i, none⟩ = some (.bool (T i i)) := by rw [hQ.out]; exact (TT.out.low L2).cell i i hlt hlt
      clear L2
      obtain ⟨f, hff⟩ : ∃ f, Hid (f = findI l p) := ⟨_, Lib.hid rfl⟩
      rw [← hff.out]
      obtain ⟨x, hx⟩ : ∃ x, Hid (x = T i i) := ⟨_, Lib.hid rfl⟩
      rw [← hx.out] at t0
      have next : ¬ (f = (i : Int) ∧ x = true) → ∀ j (hj : j < l.length), j < i + 1 → ¬ (findI l l[j].u = (j : Int) ∧ T j j = true) := fun hn j hj hji => by
        rcases Nat.lt_succ_iff_lt_or_eq.1 hji with h | rfl
        · exact K.out j hj h
        · rw [← hp.out, ← hff.out, ← hx.out]; exact hn
      have HN := Lib.hid next
      clear next
      by_cases hfi : f = (i : Int)
      · have HFI := Lib.hid hfi
        rw [hfi]
        clear hfi
        cases x with
        | true =>
          go_wp2_with fail
          go_ret
          exact ⟨true, rfl, ⟨fun _ => ⟨i, hlt, by rw [← hp.out, ← hff.out]; exact HFI.out, (HT.out i i).1 hx.out.symm⟩, fun _ => rfl⟩, HL2.out⟩
        | false =>
          go_wp2_with fail
          go_roundg (l.length - (i + 1))
          case measure => omega
          case rel => exact ⟨i + 1, by go_num, by omega, by omega, HL2, HT2, Lib.hid (HN.out fun h => by simp at h)⟩
      · have HFI := Lib.hid hfi
        go_wp2_with fail
        go_roundg (l.length - (i + 1))
        case measure => omega
        case rel => exact ⟨i + 1, by go_num, by omega, by omega, HL2, HT2, Lib.hid (HN.out fun h => HFI.out h.1)⟩
    · have zl : ¬ (i : Int) < (l.length : Int) := by omega
      go_wp2_with fail
      go_ret
      refine ⟨false, rfl, ⟨fun h => by simp at h, fun ⟨j, hj, h1, h2⟩ => ?_⟩, L.out⟩
      exact absurd ⟨h1, (HT.out j j).2 h2⟩ (K.out j hj (by omega))
end Go.Proofs.YtnenjgngahipdaaGreat
namespace Go.Proofs.YtnenjgngahipdaaGreat
theorem idx_at {l : List Sh} {x : Us} (hi : idxS l x < l.length) : l[idxS l x].u = x := by
  have h : (fun s : Sh => decide (s.u = x)) (l[List.findIdx (fun s => decide (s.u = x)) l]'hi) = true := List.findIdx_getElem (w := hi)
  simp at h
  exact h
theorem idx_lt {l : List Sh} {x : Us} (h : (fS l x).isSome = true) : ∃ hi : idxS l x < l.length, l[idxS l x].u = x := by
  unfold fS at h
  simp at h
  obtain ⟨s, hs, he⟩ := h
  have hi : idxS l x < l.length := List.findIdx_lt_length_of_exists ⟨s, hs, by simpa using he⟩
  exact ⟨hi, idx_at hi⟩
theorem idx_some {l : List Sh} {i : Nat} (hi : i < l.length) : (fS l l[i].u).isSome = true := by
  unfold fS
  simp
  exact ⟨l[i], List.getElem_mem hi, rfl⟩
theorem findI_idx {l : List Sh} {x : Us} (h : (fS l x).isSome = true) : findI l x = (idxS l x : Int) := by
  obtain ⟨hi, _⟩ := idx_lt h
  unfold findI
  rw [if_pos hi]
theorem findI_nat {l : List Sh} {x : Us} {j : Nat} (h : findI l x = (j : Int)) : ∃ hj : j < l.length, l[j].u = x := by
  unfold findI at h
  split at h
  · rename_i h1
    obtain rfl : idxS l x = j := by omega
    exact ⟨h1, idx_at h1⟩
  · omega
def NameS (l : List Sh) (g : Us → List Us) (x y : Us) : Prop := (fS l x).isSome = true ∧ y ∈ g x ∧ (fS l y).isSome = true
theorem way_num {l : List Sh} {R : Nat → List Us} {g : Us → List Us} (hg : ∀ i (hi : i < l.length), findI l l[i].u = (i : Int) → g l[i].u = R i) {x y : Us} (h : Way (NameS l g) x y) : Way (stepS l R) (idxS l x) (idxS l y) := by
  have st : ∀ x y, NameS l g x y → stepS l R (idxS l x) (idxS l y) := fun x y h => by
    obtain ⟨hi, hu⟩ := idx_lt h.1
    refine ⟨hi, y, ?_, findI_idx h.2.2⟩
    rw [← hg _ hi (by rw [hu]; exact findI_idx h.1), hu]
    exact h.2.1
  induction h with
  | one s => exact .one (st _ _ s)
  | more _ s ih => exact .more ih (st _ _ s)
theorem way_name {l : List Sh} {R : Nat → List Us} {g : Us → List Us} (hg : ∀ i (hi : i < l.length), findI l l[i].u = (i : Int) → g l[i].u = R i) {i j : Nat} (h : Way (stepS l R) i j) :
    ∀ (hi : i < l.length), findI l l[i].u = (i : Int) → ∃ hj : j < l.length, findI l l[j].u = (j : Int) ∧ Way (NameS l g) l[i].u l[j].u := by
  have st : ∀ i j, stepS l R i j → ∀ (hi : i < l.length), findI l l[i].u = (i : Int) → ∃ hj : j < l.length, findI l l[j].u = (j : Int) ∧ NameS l g l[i].u l[j].u := fun i j h hi hf => by
    obtain ⟨_, p, hp, h2⟩ := h
    obtain ⟨hj, hu⟩ := findI_nat h2
    refine ⟨hj, by rw [hu]; exact h2, idx_some hi, ?_, idx_some hj⟩
    rw [hg i hi hf, hu]
    exact hp
  induction h with
  | one s =>
    intro hi hf
    obtain ⟨hj, h1, h2⟩ := st _ _ s hi hf
    exact ⟨hj, h1, .one h2⟩
  | more _ s ih =>
    intro hi hf
    obtain ⟨hj, h1, h2⟩ := ih hi hf
    obtain ⟨hk, h3, h4⟩ := st _ _ s hj h1
    exact ⟨hk, h3, .more h2 h4⟩
theorem rnd_same {l : List Sh} {R : Nat → List Us} {g : Us → List Us} (hg : ∀ i (hi : i < l.length), findI l l[i].u = (i : Int) → g l[i].u = R i) :
    (∃ a, Way (NameS l g) a a) ↔ ∃ i, ∃ hi : i < l.length, findI l l[i].u = (i : Int) ∧ Way (stepS l R) i i := by
  constructor
  · rintro ⟨a, h⟩
    have ha : (fS l a).isSome = true := by
      obtain ⟨_, s, _⟩ := h.first
      exact s.1
    obtain ⟨hi, hu⟩ := idx_lt ha
    exact ⟨idxS l a, hi, by rw [hu]; exact findI_idx ha, way_num hg h⟩
  · rintro ⟨i, hi, hf, h⟩
    obtain ⟨_, _, h2⟩ := way_name hg h hi hf
    exact ⟨_, h2⟩
end Go.Proofs.YtnenjgngahipdaaGreat
namespace Go.Proofs.YtnenjgngahipdaaGreat
/-- The reference's row with one name more: what comes of what is left; 'put': it was put. -/
def putS (u : Us) : List Us → Bool → List Us
  | [], put => if put = true then [] else [u]
  | x :: r, put => (if (!put && decide (0 ≤ cmpUs x u)) = true then [u] else []) ++ ((if x = u then [] else [x]) ++ putS u r (put || decide (0 ≤ cmpUs x u)))
theorem putS_true {u : Us} : ∀ {l : List Us}, u ∉ l → putS u l true = l
  | [], _ => rfl
  | x :: r, h => by
    have hx : x ≠ u := fun e => h (by simp [e])
    rw [putS, if_neg (by simp), if_neg hx, Bool.true_or, putS_true (fun hr => h (by simp [hr]))]
    rfl
theorem us_refl (u : Us) : cmpUs u u = 0 := good_us.refl trivial
theorem putS_ins {u : Us} : ∀ {l : List Us}, Rises cmpUs l → putS u l false = ins cmpUs u l
  | [], _ => rfl
  | x :: r, h => by
    have h1 : ∀ y ∈ r, cmpUs x y < 0 := (List.pairwise_cons.1 h).1
    have h2 : Rises cmpUs r := (List.pairwise_cons.1 h).2
    rw [putS, ins, Bool.false_or]
    by_cases hlt : cmpUs x u < 0
    · have hne : x ≠ u := fun e => by rw [e, us_refl] at hlt; omega
      have hd : decide (0 ≤ cmpUs x u) = false := by simp; omega
      rw [hd, if_neg (by simp), if_neg hne, if_pos hlt, putS_ins h2]; rfl
    · have hd : decide (0 ≤ cmpUs x u) = true := by simp; omega
      rw [hd, if_pos (by simp), if_neg hlt]
      by_cases h0 : cmpUs x u = 0
      · have hxu := us_zero h0
        subst hxu
        rw [if_pos rfl, if_pos h0, putS_true (fun hm => by have := h1 x hm; rw [us_refl] at this; omega)]; rfl
      · have hne : x ≠ u := fun e => h0 (by rw [e]; exact us_refl u)
        rw [if_neg hne, if_neg h0, putS_true (fun hm => ?_)]
        · rfl
        · have h3 := h1 u hm
          exact hlt h3
/-- Put in behind all that come first: where none is the same. -/
theorem insE_at {α : Type} {c : α → α → Int} {x : α} : ∀ {l : List α}, (∀ y ∈ l, c y x ≠ 0) → ∀ k, k ≤ l.length → (∀ i (h : i < l.length), i < k → c l[i] x < 0) → (∀ h : k < l.length, ¬ c l[k] x < 0) → ins c x l = l.take k ++ x :: l.drop k
  | [], _, k, hk, _, _ => by simp at hk; subst hk; rfl
  | y :: r, hn, 0, _, _, h0 => by
    have h1 : ¬ c y x < 0 := h0 (by simp)
    rw [ins, if_neg h1, if_neg (hn y (by simp))]; rfl
  | y :: r, hn, k + 1, hk, h1, h0 => by
    have hy : c y x < 0 := h1 0 (by simp) (by omega)
    rw [ins, if_pos hy, insE_at (fun z hz => hn z (by simp [hz])) k (by simpa using hk) (fun i h hi => by have := h1 (i + 1) (by simpa using h) (by omega); rwa [List.getElem_cons_succ] at this) (fun h => by have := h0 (by simpa using h); rwa [List.getElem_cons_succ] at this)]
    rfl
/-! ### Lists as they must be stay so, whatever their order -/
theorem names_perm {l m : List En} (h : l.Perm m) : (namesE l).Perm (namesE m) := h.map _
end Go.Proofs.YtnenjgngahipdaaGreat
namespace Go.Proofs.YtnenjgngahipdaaGreat
section
variable {c : V → Int × V}
/-- Lists with the same entities, but for the order of parents. -/
structure Sim (l m : List En) : Prop where
  u : (namesE l).Perm (namesE m)
  fw : ∀ e ∈ l, ∃ d ∈ m, d.u = e.u ∧ d.a = e.a ∧ ∀ z, z ∈ d.ps ↔ z ∈ e.ps
  bw : ∀ d ∈ m, ∃ e ∈ l, d.u = e.u ∧ d.a = e.a ∧ ∀ z, z ∈ d.ps ↔ z ∈ e.ps
theorem Sim.symm {l m : List En} (h : Sim l m) : Sim m l where
  u := h.u.symm
  fw := fun d hd => by obtain ⟨e, he, h1, h2, h3⟩ := h.bw d hd; exact ⟨e, he, h1.symm, h2.symm, fun z => (h3 z).symm⟩
  bw := fun e he => by obtain ⟨d, hd, h1, h2, h3⟩ := h.fw e he; exact ⟨d, hd, h1.symm, h2.symm, fun z => (h3 z).symm⟩
theorem names_one (l : List En) : namesE (l.map (oneE c)) = namesE l := by
  unfold namesE
  rw [List.map_map]; rfl
theorem same_name {l : List En} (hn : (namesE l).Nodup) {x y : En} (hx : x ∈ l) (hy : y ∈ l) (h : x.u = y.u) : x = y := by
  have h1 := fst_of hn hx
  have h2 := fst_of hn hy
  rw [h] at h1
  rw [h1] at h2
  simpa using h2
theorem en_zero {l : List En} (hn : (namesE l).Nodup) (y x : En) (hy : y ∈ l) (hx : x ∈ l) (h : cmpE y x = 0) : y = x := same_name hn hy hx (us_zero h)
theorem rise_en {l : List En} (hn : (namesE l).Nodup) : Rises cmpE (uniq cmpE l) := uniq_rises (S := fun e => e ∈ l) (good_en.mono fun _ _ => trivial) (fun y x hy hx h => en_zero hn y x hy hx h) (fun _ h => h)
theorem mem_en {l : List En} (hn : (namesE l).Nodup) {z : En} : z ∈ uniq cmpE l ↔ z ∈ l := mem_uniq (S := fun e => e ∈ l) (good_en.mono fun _ _ => trivial) (fun y x hy hx h => en_zero hn y x hy hx h) (fun _ h => h)
theorem en_unique {l m : List En} (hl : Rises cmpE l) (hm : Rises cmpE m) (h : ∀ z, z ∈ l ↔ z ∈ m) : l = m := rises_unique good_en (fun _ _ => trivial) (fun _ _ => trivial) hl hm h
end
end Go.Proofs.YtnenjgngahipdaaGreat
