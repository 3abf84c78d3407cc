/- The reference's entity as it must be. Condition: its rows are short. Plain: a store of entities as they must be: what is above a name; the names that a climb reaches. No condition. Pairs of names as keys of a map: how one is laid as a value, and what it reads as. No condition. A store of entities in memory: its names, its entities by their names, and what is above those names that were climbed. No condition. family.copied: an entity in new memory. Condition: its rows are short. family.Store.leads: whether a way is laid down. No condition. family.Store.Get: the entity of a name, in new memory; whether there is one. Condition: the store is of a list as it must be. family.Store.All: all entities, rising, in new memory. Condition: the store is of a list as it must be. entity.Canon: a list of entities as it must be, or refused. Condition: no more than 300 entities, of no more than 300 parents each. The document's examples of layer 5 hold: awake answers true. No condition. -/
import Derived.Test.YtnchohglplobeaaGreatZg10
import Derived.Deep.RegionLawGrows
import Derived.Deep.CutRange
set_option linter.unusedVariables false
set_option linter.unusedSimpArgs false
set_option linter.unnecessarySimpa false
namespace Go.Proofs.YtnchohglplobeaaGreat
open Go.RowKit Go.Sort Go.Maps
theorem BoxAtv.put {w : World} {n : Nat} {cs : List Value} (h : BoxAtv w n cs) (j : Nat) (v : Value) : BoxAtv (w.setCell ⟨n, j, none⟩ v) n (cs.set j v) where
 cells := fun k u hk => by
  rw [Nat.zero_add]
  have hlt : k < cs.length := by have := (List.getElem?_eq_some_iff.1 hk).1; rwa [List.length_set] at this
  by_cases e : k = j
  ·subst e
   rw [List.getElem?_set_self hlt] at hk
   simp at hk
   subst hk
   have h0 := h.at k _ (List.getElem?_eq_getElem hlt)
   exact World.cell?_setCell_same' _ _ _ (by rw [h0]; rfl)
  ·rw [List.getElem?_set_ne (Ne.symm e)] at hk
   rw [World.cell?_setCell_other _ _ _ _ (by intro h; injection h with _ h; exact e h.symm)]
   exact h.at k u hk
 open' := fun o => by
  rw [World.frozen?_setCell]
  exact h.open' o
 lt := by
  have := h.lt
  have hs : (w.setCell ⟨n, j, none⟩ v).heap.size = w.heap.size := by simp
  rw [hs]; exact this
end Go.Proofs.YtnchohglplobeaaGreat
namespace Go.Proofs.YtnchohglplobeaaGreat
def Closed (c : List En) : Prop := ∀ e ∈ c, ∀ p ∈ e.ps, p ∈ namesE c
theorem PE_mem {c : List En} {x y : Us} (h : y ∈ PE c x) : ∃ e ∈ c, e.u = x ∧ y ∈ e.ps := by
 unfold PE fstE at h
 cases e : c.find? (fun e => decide (e.u = x)) with
 | none => rw [e] at h; simp at h
 | some q =>
  rw [e] at h
  have h1 := List.find?_some e
  exact ⟨q, List.mem_of_find?_eq_some e, by simpa using h1, h⟩
theorem step_iff {c : List En} (hc : Closed c) {x y : Us} : stepE c x y ↔ y ∈ PE c x := by
 refine ⟨fun h => h.2.1, fun h => ?_⟩
 obtain ⟨e, he, rfl, hy⟩ := PE_mem h
 exact ⟨List.mem_map.2 ⟨e, he, rfl⟩, h, hc e he y hy⟩
theorem way_to {c : List En} {x y : Us} (h : Way (stepE c) x y) : y ∈ namesE c := by
 obtain ⟨b, h1, -⟩ := h.last
 exact h1.2.2
theorem way_from {c : List En} {x y : Us} (h : Way (stepE c) x y) : x ∈ namesE c := by
 obtain ⟨b, h1, -⟩ := h.first
 exact h1.1
structure Clo (c : List En) (u : Us) (Q R : List Us) : Prop where
 nd : Q.Nodup
 way : ∀ b ∈ Q, Way (stepE c) u b
 wait : ∀ x ∈ R, x = u ∨ x ∈ Q
 all : ∀ z, (z = u ∨ z ∈ Q) → z ∉ R → ∀ y ∈ PE c z, y ∈ Q
structure CloIn (c : List En) (u : Us) (Q R : List Us) (x : Us) (j : Nat) : Prop where
 nd : Q.Nodup
 way : ∀ b ∈ Q, Way (stepE c) u b
 wait : ∀ x ∈ R, x = u ∨ x ∈ Q
 at' : x = u ∨ x ∈ Q
 all : ∀ z, (z = u ∨ z ∈ Q) → z ∉ R → z ≠ x → ∀ y ∈ PE c z, y ∈ Q
 now : ∀ i (hi : i < (PE c x).length), i < j → (PE c x)[i] ∈ Q
theorem Clo.start (c : List En) (u : Us) : Clo c u [] [u] where
 nd := List.nodup_nil
 way := fun b hb => by simp at hb
 wait := fun x hx => by simp at hx; exact .inl hx
 all := fun z hz hn => by
  rcases hz with rfl | h
  ·simp at hn
  ·simp at h
theorem Clo.take {c : List En} {u : Us} {Q R : List Us} {x : Us} (h : Clo c u Q (R ++ [x])) : CloIn c u Q R x 0 where
 nd := h.nd
 way := h.way
 wait := fun y hy => h.wait y (by simp [hy])
 at' := h.wait x (by simp)
 all := fun z hz hn hne => h.all z hz (by simp [hn, hne])
 now := fun i hi h0 => absurd h0 (Nat.not_lt_zero _)
theorem CloIn.old {c : List En} {u : Us} {Q R : List Us} {x : Us} {j : Nat} (h : CloIn c u Q R x j) (hj : j < (PE c x).length) (hq : (PE c x)[j] ∈ Q) : CloIn c u Q R x (j + 1) where
 nd := h.nd
 way := h.way
 wait := h.wait
 at' := h.at'
 all := h.all
 now := fun i hi hij => by
  rcases Nat.lt_succ_iff_lt_or_eq.1 hij with h1 | rfl
  ·exact h.now i hi h1
  ·exact hq
theorem CloIn.new {c : List En} (hc : Closed c) {u : Us} {Q R : List Us} {x : Us} {j : Nat} (h : CloIn c u Q R x j) (hj : j < (PE c x).length) (hq : (PE c x)[j] ∉ Q) : CloIn c u (Q ++ [(PE c x)[j]]) (R ++ [(PE c x)[j]]) x (j + 1) where
 nd := by
  rw [List.nodup_append]
  refine ⟨h.nd, by simp, fun a ha b hb e => ?_⟩
  simp at hb
  rw [← hb, ← e] at hq
  exact hq ha
 way := fun b hb => by
  rcases List.mem_append.1 hb with hb | hb
  ·exact h.way b hb
  ·simp at hb
   have hs : stepE c x b := (step_iff hc).2 (by rw [hb]; exact List.getElem_mem hj)
   rcases h.at' with rfl | hx
   ·exact .one hs
   ·exact (h.way x hx).trans (.one hs)
 wait := fun y hy => by
  rcases List.mem_append.1 hy with hy | hy
  ·rcases h.wait y hy with h1 | h1
   ·exact .inl h1
   ·exact .inr (List.mem_append.2 (.inl h1))
  ·exact .inr (List.mem_append.2 (.inr hy))
 at' := by
  rcases h.at' with h1 | h1
  ·exact .inl h1
  ·exact .inr (List.mem_append.2 (.inl h1))
 all := fun z hz hn hne y hy => by
  refine List.mem_append.2 (.inl ?_)
  have hn1 : z ∉ R := fun h => hn (List.mem_append.2 (.inl h))
  have hn2 : ¬ z ∈ [(PE c x)[j]] := fun h => hn (List.mem_append.2 (.inr h))
  refine h.all z ?_ hn1 hne y hy
  rcases hz with h1 | h1
  ·exact .inl h1
  ·rcases List.mem_append.1 h1 with h1 | h1
   ·exact .inr h1
   ·exact absurd h1 hn2
 now := fun i hi hij => by
  rcases Nat.lt_succ_iff_lt_or_eq.1 hij with h1 | rfl
  ·exact List.mem_append.2 (.inl (h.now i hi h1))
  ·exact List.mem_append.2 (.inr (by simp))
theorem CloIn.done {c : List En} {u : Us} {Q R : List Us} {x : Us} {j : Nat} (h : CloIn c u Q R x j) (hj : (PE c x).length ≤ j) : Clo c u Q R where
 nd := h.nd
 way := h.way
 wait := h.wait
 all := fun z hz hn y hy => by
  by_cases e : z = x
  ·subst e
   obtain ⟨i, hi, rfl⟩ := List.getElem_of_mem hy
   exact h.now i hi (by omega)
  ·exact h.all z hz hn e y hy
theorem Clo.fin {c : List En} {u : Us} {Q : List Us} (h : Clo c u Q []) (b : Us) : b ∈ Q ↔ Way (stepE c) u b := by
 refine ⟨h.way b, fun hw => ?_⟩
 induction hw with
 | one hs => exact h.all _ (.inl rfl) (by simp) _ hs.2.1
 | more _ hs ih => exact h.all _ (.inr ih) (by simp) _ hs.2.1
def AbvOk (c : List En) (ks : List (Us × Us)) : Prop := ks.Nodup ∧ ∃ K : Us → Prop, ∀ a b, (a, b) ∈ ks ↔ K a ∧ Way (stepE c) a b
def AbvFor (c : List En) (ks : List (Us × Us)) (u : Us) : Prop := AbvOk c ks ∧ ∀ b, (u, b) ∈ ks ↔ Way (stepE c) u b
theorem AbvOk.nil (c : List En) : AbvOk c [] := ⟨List.nodup_nil, fun _ => False, fun a b => by simp⟩
theorem len_prod (ns : List Us) : (ns.flatMap fun a => ns.map fun b => (a, b)).length = ns.length * ns.length := by
 have : ∀ l : List Us, (l.flatMap fun a => ns.map fun b => (a, b)).length = l.length * ns.length := fun l => by
  induction l with
  | nil => simp
  | cons x r ih => rw [List.flatMap_cons, List.length_append, ih, List.length_map, List.length_cons, Nat.add_mul, Nat.one_mul, Nat.add_comm]
 exact this ns
theorem pairs_few {ns : List Us} {ks : List (Us × Us)} (hn : ks.Nodup) (h : ∀ p ∈ ks, p.1 ∈ ns ∧ p.2 ∈ ns) (h3 : ns.length ≤ 300) : ks.length ≤ 90000 := by
 have h1 := len_sub ks (ns.flatMap fun a => ns.map fun b => (a, b)) hn fun p hp => by
  obtain ⟨h1, h2⟩ := h p hp
  exact List.mem_flatMap.2 ⟨p.1, h1, List.mem_map.2 ⟨p.2, h2, rfl⟩⟩
 rw [len_prod] at h1
 have := Nat.mul_le_mul h3 h3
 omega
theorem AbvOk.in {c : List En} {ks : List (Us × Us)} (h : AbvOk c ks) : ∀ p ∈ ks, p.1 ∈ namesE c ∧ p.2 ∈ namesE c := fun p hp => by
 obtain ⟨-, K, hK⟩ := h
 have := ((hK p.1 p.2).1 hp).2
 exact ⟨way_from this, way_to this⟩
theorem AbvOk.climbed {c : List En} {ks ks' : List (Us × Us)} {u : Us} {Q : List Us} (h : AbvOk c ks) (hnd : ks'.Nodup) (hno : ∀ b, (u, b) ∉ ks) (hk : ∀ a b, (a, b) ∈ ks' ↔ (a, b) ∈ ks ∨ (a = u ∧ b ∈ Q)) (hQ : Clo c u Q []) : AbvFor c ks' u := by
 obtain ⟨-, K, hK⟩ := h
 have hu : ∀ b, (u, b) ∈ ks' ↔ Way (stepE c) u b := fun b => by
  rw [hk, ← hQ.fin]
  exact ⟨fun h => h.elim (fun h => absurd h (hno b)) (fun h => h.2), fun h => .inr ⟨rfl, h⟩⟩
 refine ⟨⟨hnd, fun a => K a ∨ a = u, fun a b => ?_⟩, hu⟩
 by_cases e : a = u
 ·subst e
  rw [hu]; simp
 ·rw [hk, hK]
  simp [e]
theorem AbvOk.none {c : List En} {ks : List (Us × Us)} {u : Us} (h : AbvOk c ks) (h0 : PE c u = []) : AbvFor c ks u := by
 refine ⟨h, fun b => ?_⟩
 have hno : ¬ Way (stepE c) u b := fun hw => by
  obtain ⟨y, h1, -⟩ := hw.first
  have := h1.2.1
  rw [h0] at this; simp at this
 obtain ⟨-, K, hK⟩ := h
 rw [hK]
 exact ⟨fun h => absurd h.2 hno, fun h => absurd h hno⟩
theorem AbvOk.again {c : List En} {ks : List (Us × Us)} {u b : Us} (h : AbvOk c ks) (hb : (u, b) ∈ ks) : AbvFor c ks u := by
 refine ⟨h, fun y => ?_⟩
 obtain ⟨-, K, hK⟩ := h
 have := ((hK u b).1 hb).1
 rw [hK]
 exact ⟨fun h => h.2, fun h => ⟨this, h⟩⟩
theorem AbvOk.fresh {c : List En} {ks : List (Us × Us)} {u p : Us} (hc : Closed c) (h : AbvOk c ks) (hp : p ∈ PE c u) (hn : (u, p) ∉ ks) : ∀ b, (u, b) ∉ ks := fun b hb => by
 obtain ⟨-, K, hK⟩ := h
 exact hn ((hK u p).2 ⟨((hK u b).1 hb).1, .one ((step_iff hc).2 hp)⟩)
end Go.Proofs.YtnchohglplobeaaGreat
namespace Go.Proofs.YtnchohglplobeaaGreat
open Go.RowKit Go.Maps
def uuV (p : Us × Us) : Value := .agg #[.string p.1.t, .string p.1.i, .string p.2.t, .string p.2.i]
def uuL (p : Us × Us) : Lit := .string (keyBytes [.string p.1.t.data.toList, .string p.1.i.data.toList, .string p.2.t.data.toList, .string p.2.i.data.toList])
theorem rowUU : 143 < Tryz.prog.types.size := of_decide_eq_true (by kernel_rfl)
theorem kt3UU : Tryz.prog.keyTypeAt 3 143 = true := by kernel_rfl
theorem lawUU : WideMaps.KeyLaw Tryz.prog 143 := deep_law_laid laidOutE (m := 3) (by omega) rowUU kt3UU (by rw [Tryz.underlying143])
theorem keyedUU : Keyed Tryz.prog 143 := Keyed.of_law lawUU
theorem cellsUU : Tryz.prog.cellsOf 143 = 4 := by kernel_rfl
theorem ktUU : Tryz.prog.keyType 143 = true := by kernel_rfl
theorem szP3 : ∃ D, Tryz.prog.types.size + 1 = D + 3 := ⟨Tryz.prog.types.size - 2, by
 have : 2 ≤ Tryz.prog.types.size := of_decide_eq_true (by kernel_rfl)
 omega⟩
theorem lits_us (D : Nat) (u : Us) : Tryz.prog.keyLits (D + 2) 23 [.string u.t, .string u.i] = some [.string u.t.data.toList, .string u.i.data.toList] := by
 have h1 := lits_text D u.t u.ht
 have h2 := lits_text D u.i u.hi
 have hc : Tryz.prog.cellsOf 9 = 1 := by kernel_rfl
 unfold Program.keyLits
 rw [Tryz.underlying23]
 simp [cellsUs, hc, h1, h2]
theorem uuOk (p : Us × Us) : keyOf Tryz.prog 143 (uuV p) = some (uuL p) := by
 have hf : (uuV p).formed Tryz.prog 143 = true := by simp [uuV, Value.formed, Tryz.underlying143, cellsUU]
 obtain ⟨D, hD⟩ := szP3
 have hl : Tryz.prog.keyLits (Tryz.prog.types.size + 1) 143 [.string p.1.t, .string p.1.i, .string p.2.t, .string p.2.i] = some [.string p.1.t.data.toList, .string p.1.i.data.toList, .string p.2.t.data.toList, .string p.2.i.data.toList] := by
  have h1 := lits_us D p.1
  have h2 := lits_us D p.2
  have hr : List.range 2 = [0, 1] := rfl
  rw [hD]
  unfold Program.keyLits
  rw [Tryz.underlying143]
  simp [cellsUs, cellsUU, hr, h1, h2]
 unfold keyOf
 rw [Tryz.underlying143]
 simp only [ktUU, hf, Bool.and_self, if_true]
 show ((Tryz.prog.keyLits (Tryz.prog.types.size + 1) 143 [.string p.1.t, .string p.1.i, .string p.2.t, .string p.2.i]).map fun ls => Lit.string (keyBytes ls)) = _
 rw [hl]
 rfl
theorem uuInj (a b : Us × Us) (h : uuV a = uuV b) : a = b := by
 unfold uuV at h
 injection h with h
 have h1 : ([.string a.1.t, .string a.1.i, .string a.2.t, .string a.2.i] : List Value) = [.string b.1.t, .string b.1.i, .string b.2.t, .string b.2.i] := by
  have := congrArg Array.toList h
  exact this
 simp at h1
 obtain ⟨e1, e2, e3, e4⟩ := h1
 exact Prod.ext (Us.ext' e1 e2) (Us.ext' e3 e4)
def keyUU : KeyF Tryz.prog 143 (Us × Us) := ⟨uuV, uuL, uuOk, uuInj⟩
def abF (ks : List (Us × Us)) (p : Us × Us) : Option Value := if p ∈ ks then some (.agg #[]) else none
theorem abF_more (ks : List (Us × Us)) (p : Us × Us) : abF (ks ++ [p]) = updF (abF ks) p (some (.agg #[])) := by
 funext x
 unfold updF abF
 by_cases e : x = p
 ·rw [if_pos e, if_pos (by rw [e]; simp)]
 ·rw [if_neg e]
  by_cases h : x ∈ ks
  ·rw [if_pos h, if_pos (by simp [h])]
  ·rw [if_neg h, if_neg (by simp [h, e])]
theorem abF_there (ks : List (Us × Us)) (p : Us × Us) : (abF ks p).isSome = decide (p ∈ ks) := by
 unfold abF
 by_cases h : p ∈ ks
 ·simp [h]
 ·simp [h]
end Go.Proofs.YtnchohglplobeaaGreat
namespace Go.Proofs.YtnchohglplobeaaGreat
open Go.RowKit Go.Sort Go.Maps
def Ee.val (q : Ee) : Value := .agg #[.string q.e.u.t, .string q.e.u.i, .slice q.ap q.e.ps.length q.cp, .int .i64 q.e.a.h.k, .bool q.e.a.h.b, .int .i64 q.e.a.h.n, .string q.e.a.h.s, .string q.e.a.h.t, .string q.e.a.h.i, .slice q.ai q.e.a.l.length q.ci, .slice q.an q.e.a.ns.length q.cn]
def eeNo : Ee := ⟨⟨⟨⟨#[]⟩, ⟨#[]⟩, Nat.zero_le _, Nat.zero_le _⟩, [], V0⟩, none, 0, none, 0, none, 0⟩
def fstQ (qs : List Ee) (x : Us) : Option Ee := qs.find? fun q => decide (q.e.u = x)
def enF (qs : List Ee) (x : Us) : Option Value := (fstQ qs x).map Ee.val
theorem enF_get (qs : List Ee) (x : Us) : (enF qs x).getD eeNo.val = ((fstQ qs x).getD eeNo).val := by
 unfold enF
 cases fstQ qs x <;> rfl
theorem fstQ_mem {qs : List Ee} {x : Us} {q : Ee} (h : fstQ qs x = some q) : q ∈ qs ∧ q.e.u = x := by
 refine ⟨List.mem_of_find?_eq_some h, ?_⟩
 have := List.find?_some h
 simpa using this
theorem fstQ_en (qs : List Ee) (x : Us) : fstE (ensOf qs) x = (fstQ qs x).map (·.e) := by
 unfold fstE fstQ ensOf
 rw [List.find?_map]; rfl
theorem fstQ_there (qs : List Ee) (x : Us) : (fstQ qs x).isSome = decide (x ∈ namesE (ensOf qs)) := by
 have := @fst_some (ensOf qs) x
 rw [fstQ_en] at this
 by_cases h : x ∈ namesE (ensOf qs)
 ·rw [decide_eq_true h]
  have := this.2 h
  simpa using this
 ·rw [decide_eq_false h]
  cases e : fstQ qs x with
  | none => rfl
  | some q => rw [e] at this; exact absurd (this.1 rfl) h
theorem enF_there (qs : List Ee) (x : Us) : (enF qs x).isSome = decide (x ∈ namesE (ensOf qs)) := by
 rw [← fstQ_there]
 unfold enF
 cases fstQ qs x <;> rfl
theorem fstQ_ps (qs : List Ee) (x : Us) : ((fstQ qs x).getD eeNo).e.ps = PE (ensOf qs) x := by
 unfold PE
 rw [fstQ_en]
 cases fstQ qs x <;> rfl
theorem fstQ_ok {A : Nat → Prop} {w : World} {qs : List Ee} (h : ∀ q ∈ qs, EeOk A w q) (x : Us) : EeOk A w ((fstQ qs x).getD eeNo) := by
 cases e : fstQ qs x with
 | some q => exact h q (fstQ_mem e).1
 | none => exact ⟨⟨none, 0, rfl, ⟨Nat.le_refl _, by decide⟩, fun j hj => absurd hj (Nat.not_lt_zero _)⟩, rep_V0 _ _⟩
structure St where
 p : Nat
 me : Nat
 ma : Nat
 ao : Option Addr
 c : Nat
def St.v (z : St) : Value := .pointer (some ⟨z.p, 0, none⟩)
structure StAt (w : World) (z : St) (qs : List Ee) (ks : List (Us × Us)) : Prop where
 c0 : w.cell? ⟨z.p, 0, none⟩ = some (.slice z.ao qs.length z.c)
 c1 : w.cell? ⟨z.p, 1, none⟩ = some (.map (some z.me))
 c2 : w.cell? ⟨z.p, 2, none⟩ = some (.map (some z.ma))
 names : UsAt w (.slice z.ao qs.length z.c) (namesE (ensOf qs))
 ents : MapAt keyUs w z.me qs.length (enF qs)
 abv : ∃ n, n ≤ ks.length ∧ MapAt keyUU w z.ma n (abF ks)
 ne : z.me ≠ z.ma
 ok : ∀ q ∈ qs, EeOk (fun _ => True) w q
theorem StAt.isMap {w : World} {z : St} {qs : List Ee} {ks : List (Us × Us)} (h : StAt w z qs ks) : IsMap w z.ma := by
 obtain ⟨n, -, h⟩ := h.abv
 exact h.isMap
theorem StAt.low {w w' : World} {z : St} {qs : List Ee} {ks : List (Us × Us)} (h : StAt w z qs ks) (l : Low w w') : StAt w' z qs ks where
 c0 := l.keep h.c0
 c1 := l.keep h.c1
 c2 := l.keep h.c2
 names := h.names.low l
 ents := h.ents.block (l.2.2.2 _ h.ents.lt)
 abv := by
  obtain ⟨n, h1, h2⟩ := h.abv
  exact ⟨n, h1, h2.block (l.2.2.2 _ h2.lt)⟩
 ne := h.ne
 ok := fun q hq => (h.ok q hq).low l
theorem StAt.turned {w w' : World} {z : St} {qs : List Ee} {ks ks' : List (Us × Us)} (h : StAt w z qs ks) (l : Lw z.ma w w') {n : Nat} (hn : n ≤ ks'.length) (hm : MapAt keyUU w' z.ma n (abF ks')) : StAt w' z qs ks' where
 c0 := l.keep h.c0
 c1 := l.keep h.c1
 c2 := l.keep h.c2
 names := h.names.lw l
 ents := h.ents.block (l.block _ h.ents.lt h.ne)
 abv := ⟨n, hn, hm⟩
 ne := h.ne
 ok := fun q hq => (h.ok q hq).lw l
def Sto (w : World) (z : St) (qs : List Ee) : Prop := ∃ ks, AbvOk (ensOf qs) ks ∧ StAt w z qs ks
theorem Sto.low {w w' : World} {z : St} {qs : List Ee} (h : Sto w z qs) (l : Low w w') : Sto w' z qs := by
 obtain ⟨ks, h1, h2⟩ := h
 exact ⟨ks, h1, h2.low l⟩
theorem Sto.isMap {w : World} {z : St} {qs : List Ee} (h : Sto w z qs) : IsMap w z.ma := by
 obtain ⟨ks, h1, h2⟩ := h
 exact h2.isMap
structure GoodC (c : List En) : Prop where
 closed : Closed c
 ring : ¬ RoundE c
 rises : Rises cmpE c
 len : c.length ≤ 300
 few : ∀ e ∈ c, e.ps.length ≤ 300
 sm : ∀ e ∈ c, Smv e.a
theorem GoodC.pe {c : List En} (h : GoodC c) (x : Us) : (PE c x).length ≤ 300 := by
 unfold PE
 cases e : fstE c x with
 | none => simp
 | some q => exact h.few q (List.mem_of_find?_eq_some e)
theorem names_len (c : List En) : (namesE c).length = c.length := by simp [namesE]
end Go.Proofs.YtnchohglplobeaaGreat
namespace Go.Proofs.YtnchohglplobeaaGreat
open Go.RowKit Go.Sort
structure FreshE (B : Nat) (w : World) (q : Ee) : Prop where
 ps : OwnU B w (.slice q.ap q.e.ps.length q.cp) q.e.ps
 a : FreshV B w ⟨q.e.a, q.ai, q.ci, q.an, q.cn⟩
theorem FreshE.ok {B : Nat} {w : World} {q : Ee} (h : FreshE B w q) : EeOk (fun b => B ≤ b) w q := ⟨OwnR.usIn h.ps fun g hg => (World.ownsRow.lt h.ps g hg).1, h.a.rep⟩
theorem FreshE.to {B : Nat} {w w' : World} {q : Ee} (h : FreshE B w q) (hb : ∀ b, B ≤ b → b < w.heap.size → w'.heap[b]? = w.heap[b]?) : FreshE B w' q :=
 ⟨h.ps.to fun g hg => hb g (World.ownsRow.lt h.ps g hg).1 (World.ownsRow.lt h.ps g hg).2, h.a.to hb⟩
theorem FreshE.low {B : Nat} {w w' : World} {q : Ee} (h : FreshE B w q) (l : Low w w') : FreshE B w' q := h.to fun b _ hlt => l.2.2.2 b hlt
theorem FreshV.base {B B' : Nat} {w : World} {p : El} (h : FreshV B w p) (hb : B' ≤ B) : FreshV B' w p where
 its := by
  obtain ⟨ps, h1, h2, h3⟩ := h.its
  exact ⟨ps, h1, OwnR.base h2 hb, fun x hx => Rep.to (fun b ha _ => ⟨⟨Nat.le_trans hb ha.1, ha.2⟩, rfl⟩) _ (h3 x hx)⟩
 nms := OwnR.base h.nms hb
 bh := h.bh
 sz := h.sz
theorem FreshE.base {B B' : Nat} {w : World} {q : Ee} (h : FreshE B w q) (hb : B' ≤ B) : FreshE B' w q := ⟨OwnR.base h.ps hb, h.a.base hb⟩
def CopP (q : Ee) (w : World) (e : Ending) (w' : World) : Prop := ∃ ap1 cp1 ai2 ci2 an2 cn2, e = .returned (.agg #[.string q.e.u.t, .string q.e.u.i, .slice ap1 q.e.ps.length cp1, .int .i64 q.e.a.h.k, .bool q.e.a.h.b, .int .i64 q.e.a.h.n, .string q.e.a.h.s, .string q.e.a.h.t, .string q.e.a.h.i, .slice ai2 q.e.a.l.length ci2, .slice an2 q.e.a.ns.length cn2]) ∧ FreshE w.heap.size w' ⟨q.e, ap1, cp1, ai2, ci2, an2, cn2⟩ ∧ Low w w'
set_option maxHeartbeats 8000000 in
set_option maxRecDepth 100000 in
theorem copied_c (q : Ee) (w : World) (hq : EeOk (fun _ => True) w q) (hs : Smv q.e.a) (hn : q.e.ps.length ≤ 70000) : Calls Tryz.prog 196 #[.agg #[.string q.e.u.t, .string q.e.u.i, .slice q.ap q.e.ps.length q.cp, .int .i64 q.e.a.h.k, .bool q.e.a.h.b, .int .i64 q.e.a.h.n, .string q.e.a.h.s, .string q.e.a.h.t, .string q.e.a.h.i, .slice q.ai q.e.a.l.length q.ci, .slice q.an q.e.a.ns.length q.cn]] w (CopP q w) := by
 obtain ⟨U0, hU0⟩ : ∃ W, W = ((w.alloc (.cells #[.string q.e.u.t, .string q.e.u.i, .slice q.ap q.e.ps.length q.cp, .int .i64 q.e.a.h.k, .bool q.e.a.h.b, .int .i64 q.e.a.h.n, .string q.e.a.h.s, .string q.e.a.h.t, .string q.e.a.h.i, .slice q.ai q.e.a.l.length q.ci, .slice q.an q.e.a.ns.length q.cn] 72)).alloc (.cells #[.string ⟨#[]⟩, .string ⟨#[]⟩, .slice none 0 0, .int .i64 0, .bool false, .int .i64 0, .string ⟨#[]⟩, .string ⟨#[]⟩, .string ⟨#[]⟩, .slice none 0 0, .slice none 0 0] 72)) := ⟨_, rfl⟩
 have HU0 := Lib.hid hU0
 have L0 := Lib.hid (show Low w U0 by rw [hU0]; exact Low.alloc (Low.alloc (Low.refl w) _) _)
 have HZ0 := Lib.hid (show U0.heap.size = w.heap.size + 1 + 1 by rw [hU0]; simp)
 have B0 := Lib.hid (show BoxAtv U0 w.heap.size [.string q.e.u.t, .string q.e.u.i, .slice q.ap q.e.ps.length q.cp, .int .i64 q.e.a.h.k, .bool q.e.a.h.b, .int .i64 q.e.a.h.n, .string q.e.a.h.s, .string q.e.a.h.t, .string q.e.a.h.i, .slice q.ai q.e.a.l.length q.ci, .slice q.an q.e.a.ns.length q.cn] from BoxAtv.low (BoxAtv.made (w := w) (W := (w.alloc (.cells #[.string q.e.u.t, .string q.e.u.i, .slice q.ap q.e.ps.length q.cp, .int .i64 q.e.a.h.k, .bool q.e.a.h.b, .int .i64 q.e.a.h.n, .string q.e.a.h.s, .string q.e.a.h.t, .string q.e.a.h.i, .slice q.ai q.e.a.l.length q.ci, .slice q.an q.e.a.ns.length q.cn] 72))) rfl rfl rfl) (show Low (w.alloc (.cells #[.string q.e.u.t, .string q.e.u.i, .slice q.ap q.e.ps.length q.cp, .int .i64 q.e.a.h.k, .bool q.e.a.h.b, .int .i64 q.e.a.h.n, .string q.e.a.h.s, .string q.e.a.h.t, .string q.e.a.h.i, .slice q.ai q.e.a.l.length q.ci, .slice q.an q.e.a.ns.length q.cn] 72)) U0 by rw [hU0]; exact Low.alloc (Low.refl _) _))
 have Z0 := Lib.hid (show BoxAtv U0 (w.heap.size + 1) [.string ⟨#[]⟩, .string ⟨#[]⟩, .slice none 0 0, .int .i64 0, .bool false, .int .i64 0, .string ⟨#[]⟩, .string ⟨#[]⟩, .string ⟨#[]⟩, .slice none 0 0, .slice none 0 0] from BoxAtv.made hU0 (by simp) rfl)
 have CU := Lib.hid (clone_cv q.e.ps U0 _ hn (hq.1.any.low L0.out))
 have HR := Lib.hid hq.2
 have HSM := Lib.hid hs
 clear hU0 hq hs hn
 go_enter Tryz.func196, Tryz.ntmps196
 go_upto_region 1 with fail
 rw [← HU0.out]
 clear HU0
 have e2 := B0.out.at 2 _ rfl
 unfold Ee.sh Sh.p at CU
 go_wp2_with fail
 refine CU.out.mono ?_
 rintro e w1 ⟨v1, rfl, O1, L1⟩
 obtain ⟨ap1, cp1, rfl, -, -, -⟩ := OwnR.shape O1
 have B1 := Lib.hid (B0.out.low L1)
 have Z1 := Lib.hid (Z0.out.low L1)
 have LL1 := Lib.hid (L0.out.trans L1)
 have HO1 := Lib.hid O1
 have HL1 := Lib.hid L1
 clear e2 CU O1 L1
 have e2 := B1.out.at 2 _ rfl
 have f2 := B1.out.open' 2
 obtain ⟨W1, hW1⟩ : ∃ W, W = w1.setCell ⟨w.heap.size, 2, none⟩ (.slice ap1 q.e.ps.length cp1) := ⟨_, rfl⟩
 have HW1 := Lib.hid hW1
 have K1 := Lib.hid (show KeptButv w1 W1 (some w.heap.size) from hW1 ▸ kept_setCellv _ _ _ _)
 have B2 := Lib.hid (show BoxAtv W1 w.heap.size [.string q.e.u.t, .string q.e.u.i, .slice ap1 q.e.ps.length cp1, .int .i64 q.e.a.h.k, .bool q.e.a.h.b, .int .i64 q.e.a.h.n, .string q.e.a.h.s, .string q.e.a.h.t, .string q.e.a.h.i, .slice q.ai q.e.a.l.length q.ci, .slice q.an q.e.a.ns.length q.cn] from hW1 ▸ B1.out.put 2 _)
 have Z2 := Lib.hid (Z1.out.kept K1.out (by simp))
 have L2 := Lib.hid (LL1.out.kept K1.out fun g hg => by simp at hg; omega)
 have O2 := Lib.hid (show OwnU U0.heap.size W1 (.slice ap1 q.e.ps.length cp1) q.e.ps from HO1.out.to fun g hg => K1.out.2.2.2 g (World.ownsRow.lt HO1.out g hg).2 (by have := (World.ownsRow.lt HO1.out g hg).1; have := HZ0.out; simp; omega))
 have CV := Lib.hid (cpyV_c (dep q.e.a) q.e.a W1 _ _ (Nat.le_refl _) (HR.out.low L2.out) HSM.out)
 have HSZ := Lib.hid (show w.heap.size + 1 < W1.heap.size from Z2.out.lt)
 unfold avv Ee.it Ee.nm at CV
 clear hW1 B1 Z1 LL1 K1 HO1
 go_upto_region 2 with fail
 rw [← HW1.out]
 clear HW1 e2 f2
 obtain ⟨d0, d1, d2, d3, d4, d5, d6, d7, d8, d9, d10⟩ := B2.out.at11
 go_wp2_with fail
 refine CV.out.mono ?_
 rintro e w2 ⟨ai2, ci2, an2, cn2, rfl, hfr, l2⟩
 have B3 := Lib.hid (B2.out.low l2)
 have Z3 := Lib.hid (Z2.out.low l2)
 have L3 := Lib.hid (L2.out.trans l2)
 have O3 := Lib.hid (OwnR.low O2.out l2)
 have HFR := Lib.hid hfr
 clear d0 d1 d2 d3 d4 d5 d6 d7 d8 d9 d10 CV hfr l2 B2 Z2 L2
 obtain ⟨d0, d1, d2, d3, d4, d5, d6, d7, d8, d9, d10⟩ := B3.out.at11
 obtain ⟨f0, f1, f2, f3, f4, f5, f6, f7, f8, f9, f10⟩ := B3.out.op11
 obtain ⟨W2, hW2⟩ : ∃ W, W = (((((((w2.setCell ⟨w.heap.size, 3, none⟩ (.int .i64 q.e.a.h.k)).setCell ⟨w.heap.size, 4, none⟩ (.bool q.e.a.h.b)).setCell ⟨w.heap.size, 5, none⟩ (.int .i64 q.e.a.h.n)).setCell ⟨w.heap.size, 6, none⟩ (.string q.e.a.h.s)).setCell ⟨w.heap.size, 7, none⟩ (.string q.e.a.h.t)).setCell ⟨w.heap.size, 8, none⟩ (.string q.e.a.h.i)).setCell ⟨w.heap.size, 9, none⟩ (.slice ai2 q.e.a.l.length ci2)).setCell ⟨w.heap.size, 10, none⟩ (.slice an2 q.e.a.ns.length cn2) := ⟨_, rfl⟩
 have HW2 := Lib.hid hW2
 have K2 := Lib.hid (show KeptButv w2 W2 (some w.heap.size) from hW2 ▸ ((kept_setCellv _ _ _ _).trans ((kept_setCellv _ _ _ _).trans ((kept_setCellv _ _ _ _).trans ((kept_setCellv _ _ _ _).trans ((kept_setCellv _ _ _ _).trans ((kept_setCellv _ _ _ _).trans ((kept_setCellv _ _ _ _).trans (kept_setCellv _ _ _ _)))))))))
 have B4 := Lib.hid (show BoxAtv W2 w.heap.size [.string q.e.u.t, .string q.e.u.i, .slice ap1 q.e.ps.length cp1, .int .i64 q.e.a.h.k, .bool q.e.a.h.b, .int .i64 q.e.a.h.n, .string q.e.a.h.s, .string q.e.a.h.t, .string q.e.a.h.i, .slice ai2 q.e.a.l.length ci2, .slice an2 q.e.a.ns.length cn2] from hW2 ▸ ((((((((B3.out.put 3 _).put 4 _).put 5 _).put 6 _).put 7 _).put 8 _).put 9 _).put 10 _))
 have Z4 := Lib.hid (Z3.out.kept K2.out (by simp))
 have L4 := Lib.hid (L3.out.kept K2.out fun g hg => by simp at hg; omega)
 have O4 := Lib.hid (show OwnU U0.heap.size W2 (.slice ap1 q.e.ps.length cp1) q.e.ps from O3.out.to fun g hg => K2.out.2.2.2 g (World.ownsRow.lt O3.out g hg).2 (by have := (World.ownsRow.lt O3.out g hg).1; have := HZ0.out; simp; omega))
 have F4 := Lib.hid (HFR.out.to (w' := W2) fun b hb hlt => K2.out.2.2.2 b hlt (by have := HSZ.out; simp; omega))
 clear hW2 B3 Z3 L3 O3 HFR K2
 go_upto_region 3 with fail
 rw [← HW2.out]
 clear HW2 d0 d1 d2 d3 d4 d5 d6 d7 d8 d9 d10 f0 f1 f2 f3 f4 f5 f6 f7 f8 f9 f10
 obtain ⟨d0, d1, d2, d3, d4, d5, d6, d7, d8, d9, d10⟩ := B4.out.at11
 obtain ⟨c0, c1, c2, c3, c4, c5, c6, c7, c8, c9, c10⟩ := Z4.out.at11
 obtain ⟨f0, f1, f2, f3, f4, f5, f6, f7, f8, f9, f10⟩ := Z4.out.op11
 go_wp2_with fail
 refine bodyPost_ret (v := .agg #[.string q.e.u.t, .string q.e.u.i, .slice ap1 q.e.ps.length cp1, .int .i64 q.e.a.h.k, .bool q.e.a.h.b, .int .i64 q.e.a.h.n, .string q.e.a.h.s, .string q.e.a.h.t, .string q.e.a.h.i, .slice ai2 q.e.a.l.length ci2, .slice an2 q.e.a.ns.length cn2]) (by simp [results, Tryz.results196, go_sem, World.cell?_setCell_same', c0, c1, c2, c3, c4, c5, c6, c7, c8, c9, c10]; try rfl) rfl ?_
 have K11 := kept11 W2 (w.heap.size + 1) (.string q.e.u.t) (.string q.e.u.i) (.slice ap1 q.e.ps.length cp1) (.int .i64 q.e.a.h.k) (.bool q.e.a.h.b) (.int .i64 q.e.a.h.n) (.string q.e.a.h.s) (.string q.e.a.h.t) (.string q.e.a.h.i) (.slice ai2 q.e.a.l.length ci2) (.slice an2 q.e.a.ns.length cn2)
 refine ⟨ap1, cp1, ai2, ci2, an2, cn2, rfl, ⟨?_, ?_⟩, low_allv L4.out (Nat.le_succ _) K11⟩
 ·exact OwnR.base (OwnR.to O4.out fun g hg => K11.2.2.2 g (World.ownsRow.lt O4.out g hg).2 (by have := (World.ownsRow.lt O4.out g hg).1; have := HZ0.out; simp; omega)) (by have := HZ0.out; omega)
 ·exact FreshV.base (F4.out.to fun b hb hlt => K11.2.2.2 b hlt (by have := HSZ.out; simp; omega)) (by have := HSZ.out; omega)
end Go.Proofs.YtnchohglplobeaaGreat
namespace Go.Proofs.YtnchohglplobeaaGreat
open Go.RowKit Go.Sort Go.Maps
theorem zeroSth (w : World) : (zeroValue 142).run Tryz.prog w = .ok (.agg #[]) w := by kernel_rfl
theorem zeroEn (w : World) : (zeroValue 72).run Tryz.prog w = .ok eeNo.val w := by kernel_rfl
theorem abF_get (ks : List (Us × Us)) (p : Us × Us) : (abF ks p).getD (.agg #[]) = .agg #[] := by
 unfold abF
 split <;> rfl
theorem look_ab {w : World} {z : St} {qs : List Ee} {ks : List (Us × Us)} (h : StAt w z qs ks) (a b : Us) :
  (Instr.lookup 68 (.map (some z.ma)) (.agg #[.string a.t, .string a.i, .string b.t, .string b.i]) true).run Tryz.prog w = .ok (.tuple #[.agg #[], .bool (decide ((a, b) ∈ ks))]) w := by
 obtain ⟨n, -, hm⟩ := h.abv
 have := hm.lookOk keyedUU Tryz.underlying68 (zeroSth _) (a, b)
 rw [abF_get, abF_there] at this
 exact this
theorem look_en {w : World} {z : St} {qs : List Ee} {ks : List (Us × Us)} (h : StAt w z qs ks) (x : Us) :
  (Instr.lookup 67 (.map (some z.me)) (.agg #[.string x.t, .string x.i]) false).run Tryz.prog w = .ok ((fstQ qs x).getD eeNo).val w := by
 have := h.ents.look keyedUs Tryz.underlying67 (zeroEn _) x
 rw [enF_get] at this
 exact this
theorem look_enOk {w : World} {z : St} {qs : List Ee} {ks : List (Us × Us)} (h : StAt w z qs ks) (x : Us) :
  (Instr.lookup 67 (.map (some z.me)) (.agg #[.string x.t, .string x.i]) true).run Tryz.prog w = .ok (.tuple #[((fstQ qs x).getD eeNo).val, .bool (decide (x ∈ namesE (ensOf qs)))]) w := by
 have := h.ents.lookOk keyedUs Tryz.underlying67 (zeroEn _) x
 rw [enF_get, enF_there] at this
 exact this
set_option maxHeartbeats 1600000 in
theorem leads_ch (w : World) (z : St) (qs : List Ee) (ks : List (Us × Us)) (h : StAt w z qs ks) (a b : Us) :
  Calls Tryz.prog 77 #[.pointer (some ⟨z.p, 0, none⟩), .agg #[.string a.t, .string a.i], .agg #[.string b.t, .string b.i]] w fun e w' => e = .returned (.bool (decide ((a, b) ∈ ks))) ∧ Gr w w' := by
 obtain ⟨W0, hW0⟩ : ∃ W, W = (w.alloc (.cells #[.string a.t, .string a.i] 23)).alloc (.cells #[.string b.t, .string b.i] 23) := ⟨_, rfl⟩
 have HW0 := Lib.hid hW0
 have G0 := Lib.hid (show Gr w W0 from hW0 ▸ (Gr.alloc (Gr.alloc (Gr.refl w) _) _))
 have hs := h.low (G0.out.drew).low
 have hsX := fun X => h.low ((G0.out.alloc X).drew).low
 have hl := look_ab hs a b
 have hlX := fun X => look_ab (hsX X) a b
 have c2 := (h.low G0.out.low).c2
 have c2X := fun X => (h.low (G0.out.alloc X).low).c2
 have BA := BoxAtv.new (C := #[.string a.t, .string a.i]) (cs := [.string a.t, .string a.i]) (t := 23) w.heap.size (show Low (w.alloc (.cells #[.string a.t, .string a.i] 23)) W0 from hW0 ▸ Low.alloc (Low.refl _) _) rfl rfl
 have BB := BoxAtv.new (C := #[.string b.t, .string b.i]) (cs := [.string b.t, .string b.i]) (t := 23) (w.heap.size + 1) (show Low ((w.alloc (.cells #[.string a.t, .string a.i] 23)).alloc (.cells #[.string b.t, .string b.i] 23)) W0 from hW0 ▸ Low.refl _) rfl (by simp)
 obtain ⟨a0, a1⟩ := BA.at2
 obtain ⟨b0, b1⟩ := BB.at2
 have a0X := fun X => (BA.low (Low.alloc (Low.refl W0) X)).at2.1
 have a1X := fun X => (BA.low (Low.alloc (Low.refl W0) X)).at2.2
 have b0X := fun X => (BB.low (Low.alloc (Low.refl W0) X)).at2.1
 have b1X := fun X => (BB.low (Low.alloc (Low.refl W0) X)).at2.2
 obtain ⟨q, hq⟩ : ∃ q, q = decide ((a, b) ∈ ks) := ⟨_, rfl⟩
 rw [← hq] at hl hlX ⊢
 clear hq hW0 hs hsX BA BB h
 go_enter Tryz.func77, Tryz.ntmps77
 go_upto_region 1 with fail
 rw [← HW0.out]
 clear HW0
 go_region
 all_goals
  go_wp2_with fail
  go_ret
  exact ⟨rfl, (G0.out.alloc _).drew⟩
end Go.Proofs.YtnchohglplobeaaGreat
namespace Go.Proofs.YtnchohglplobeaaGreat
open Go.RowKit Go.Sort Go.Maps
def GetP6 (qs : List Ee) (u : Us) (w : World) (e : Ending) (w' : World) : Prop := ∃ x : Ee, x.e = ((fstQ qs u).getD eeNo).e ∧ e = .returned (.tuple #[.agg #[.string x.e.u.t, .string x.e.u.i, .slice x.ap x.e.ps.length x.cp, .int .i64 x.e.a.h.k, .bool x.e.a.h.b, .int .i64 x.e.a.h.n, .string x.e.a.h.s, .string x.e.a.h.t, .string x.e.a.h.i, .slice x.ai x.e.a.l.length x.ci, .slice x.an x.e.a.ns.length x.cn], .bool (decide (u ∈ namesE (ensOf qs)))]) ∧ FreshE w.heap.size w' x ∧ Low w w'
theorem fst_few {qs : List Ee} (h : GoodC (ensOf qs)) (u : Us) : Smv ((fstQ qs u).getD eeNo).e.a ∧ ((fstQ qs u).getD eeNo).e.ps.length ≤ 300 := by
 cases e : fstQ qs u with
 | some q =>
  have hm : q.e ∈ ensOf qs := List.mem_map_of_mem (fstQ_mem e).1
  exact ⟨h.sm _ hm, h.few _ hm⟩
 | none => exact ⟨by simp [eeNo, V0, Smv, SmL], by simp [eeNo]⟩
set_option maxHeartbeats 8000000 in
set_option maxRecDepth 100000 in
theorem get6_c (w : World) (z : St) (qs : List Ee) (u : Us) (hS : Sto w z qs) (hg : GoodC (ensOf qs)) :
  Calls Tryz.prog 179 #[.pointer (some ⟨z.p, 0, none⟩), .agg #[.string u.t, .string u.i]] w (GetP6 qs u w) := by
 obtain ⟨ks, hab, hst⟩ := hS
 obtain ⟨U0, hU0⟩ : ∃ W, W = (w.alloc (.cells #[.string u.t, .string u.i] 23)).alloc (.cells #[.string ⟨#[]⟩, .string ⟨#[]⟩, .slice none 0 0, .int .i64 0, .bool false, .int .i64 0, .string ⟨#[]⟩, .string ⟨#[]⟩, .string ⟨#[]⟩, .slice none 0 0, .slice none 0 0] 72) := ⟨_, rfl⟩
 have HU0 := Lib.hid hU0
 have L0 := Lib.hid (show Low w U0 by rw [hU0]; exact Low.alloc (Low.alloc (Low.refl w) _) _)
 have BU := Lib.hid (show BoxAtv U0 w.heap.size [.string u.t, .string u.i] from BoxAtv.low (BoxAtv.made (w := w) (W := w.alloc (.cells #[.string u.t, .string u.i] 23)) rfl rfl rfl) (show Low (w.alloc (.cells #[.string u.t, .string u.i] 23)) U0 by rw [hU0]; exact Low.alloc (Low.refl _) _))
 have BZ := Lib.hid (show BoxAtv U0 (w.heap.size + 1) zE from BoxAtv.made hU0 (by simp) rfl)
 have S0 := Lib.hid (hst.low L0.out)
 have HG := Lib.hid hg
 obtain ⟨x, hx⟩ : ∃ x, (fstQ qs u).getD eeNo = x := ⟨_, rfl⟩
 have hsD := S0.out.low (Gr.refl U0).drew.low
 have hsX := fun X => S0.out.low ((Gr.alloc (Gr.refl U0) X).drew).low
 have hl := look_enOk hsD u
 have hlX := fun X => look_enOk (hsX X) u
 rw [hx] at hl
 simp only [hx] at hlX
 have HXE := Lib.hid (show ((fstQ qs u).getD eeNo).e = x.e by rw [hx])
 have HOK := Lib.hid (show EeOk (fun _ => True) U0 x by rw [← hx]; exact fstQ_ok S0.out.ok u)
 have HFW := Lib.hid (show Smv x.e.a ∧ x.e.ps.length ≤ 300 by rw [← hx]; exact fst_few hg u)
 have c1 := S0.out.c1
 have c1X := fun X => (S0.out.low (Low.alloc (Low.refl U0) X)).c1
 obtain ⟨a0, a1⟩ := BU.out.at2
 have a0X := fun X => (BU.out.low (Low.alloc (Low.refl U0) X)).at2.1
 have a1X := fun X => (BU.out.low (Low.alloc (Low.refl U0) X)).at2.2
 obtain ⟨t, ht⟩ : ∃ t, t = decide (u ∈ namesE (ensOf qs)) := ⟨_, rfl⟩
 rw [← ht] at hl
 simp only [← ht] at hlX
 unfold GetP6
 rw [← ht]
 unfold Ee.val at hl hlX
 clear hU0 hab hst hg hx hsD hsX ht
 go_enter Tryz.func179, Tryz.ntmps179
 go_upto_region 1 with fail
 rw [← HU0.out]
 clear HU0
 go_wp2_with fail
 go_region
 clear hl hlX c1 c1X a0 a1 a0X a1X
 obtain ⟨W1, hW1⟩ : ∃ W, W = (U0.alloc (.cells #[.string x.e.u.t, .string x.e.u.i, .slice x.ap x.e.ps.length x.cp, .int .i64 x.e.a.h.k, .bool x.e.a.h.b, .int .i64 x.e.a.h.n, .string x.e.a.h.s, .string x.e.a.h.t, .string x.e.a.h.i, .slice x.ai x.e.a.l.length x.ci, .slice x.an x.e.a.ns.length x.cn] 72)).drew := ⟨_, rfl⟩
 rw [← hW1]
 have L1 := Lib.hid (show Low U0 W1 by rw [hW1]; exact (Low.alloc (Low.refl U0) _).trans (Gr.refl _).drew.low)
 have BX := Lib.hid (show BoxAtv W1 U0.heap.size [.string x.e.u.t, .string x.e.u.i, .slice x.ap x.e.ps.length x.cp, .int .i64 x.e.a.h.k, .bool x.e.a.h.b, .int .i64 x.e.a.h.n, .string x.e.a.h.s, .string x.e.a.h.t, .string x.e.a.h.i, .slice x.ai x.e.a.l.length x.ci, .slice x.an x.e.a.ns.length x.cn] from BoxAtv.low (BoxAtv.made (w := U0) (W := U0.alloc (.cells #[.string x.e.u.t, .string x.e.u.i, .slice x.ap x.e.ps.length x.cp, .int .i64 x.e.a.h.k, .bool x.e.a.h.b, .int .i64 x.e.a.h.n, .string x.e.a.h.s, .string x.e.a.h.t, .string x.e.a.h.i, .slice x.ai x.e.a.l.length x.ci, .slice x.an x.e.a.ns.length x.cn] 72)) rfl rfl rfl) (by rw [hW1]; exact (Gr.refl _).drew.low))
 have BZ1 := Lib.hid (BZ.out.low L1.out)
 have HC := Lib.hid (copied_c x W1 (HOK.out.low L1.out) HFW.out.1 (by have := HFW.out.2; omega))
 have HSZ := Lib.hid (show w.heap.size ≤ W1.heap.size from (L0.out.trans L1.out).size)
 clear hW1
 obtain ⟨d0, d1, d2, d3, d4, d5, d6, d7, d8, d9, d10⟩ := BX.out.at11
 go_wp2_with fail
 refine HC.out.mono ?_
 rintro e w2 ⟨ap1, cp1, ai2, ci2, an2, cn2, rfl, hfr, l2⟩
 have HFR := Lib.hid hfr
 have L2 := Lib.hid ((L0.out.trans L1.out).trans l2)
 have BZ2 := Lib.hid (BZ1.out.low l2)
 have HZL := Lib.hid (show w.heap.size + 1 < W1.heap.size from BZ1.out.lt)
 clear hfr l2 d0 d1 d2 d3 d4 d5 d6 d7 d8 d9 d10 HC
 obtain ⟨c0, c1, c2, c3, c4, c5, c6, c7, c8, c9, c10⟩ := BZ2.out.at11
 obtain ⟨f0, f1, f2, f3, f4, f5, f6, f7, f8, f9, f10⟩ := BZ2.out.op11
 go_wp2_with fail
 refine bodyPost_ret (v := .tuple #[.agg #[.string x.e.u.t, .string x.e.u.i, .slice ap1 x.e.ps.length cp1, .int .i64 x.e.a.h.k, .bool x.e.a.h.b, .int .i64 x.e.a.h.n, .string x.e.a.h.s, .string x.e.a.h.t, .string x.e.a.h.i, .slice ai2 x.e.a.l.length ci2, .slice an2 x.e.a.ns.length cn2], .bool t]) (by simp [results, Tryz.results179, go_sem, World.cell?_setCell_same', c0, c1, c2, c3, c4, c5, c6, c7, c8, c9, c10]; try rfl) rfl ?_
 have K11 := kept11 w2 (w.heap.size + 1) (.string x.e.u.t) (.string x.e.u.i) (.slice ap1 x.e.ps.length cp1) (.int .i64 x.e.a.h.k) (.bool x.e.a.h.b) (.int .i64 x.e.a.h.n) (.string x.e.a.h.s) (.string x.e.a.h.t) (.string x.e.a.h.i) (.slice ai2 x.e.a.l.length ci2) (.slice an2 x.e.a.ns.length cn2)
 exact ⟨⟨x.e, ap1, cp1, ai2, ci2, an2, cn2⟩, HXE.out.symm, rfl, FreshE.base (HFR.out.to fun b hb hlt => K11.2.2.2 b hlt (by have := HZL.out; simp; omega)) HSZ.out, low_allv L2.out (Nat.le_succ _) K11⟩
end Go.Proofs.YtnchohglplobeaaGreat
namespace Go.Proofs.YtnchohglplobeaaGreat
open Go.RowKit Go.Sort Go.Maps
structure WrE (B : Nat) (w : World) (v : Value) (q : Ee) : Prop where
 ps : OwnU B w (.slice q.ap q.e.ps.length q.cp) q.e.ps
 its : ∃ els : List El, els.length = q.e.a.l.length ∧ OwnVv B w (.slice q.ai q.e.a.l.length q.ci) els
 nms : OwnR 9 1 encN B w (.slice q.an q.e.a.ns.length q.cn) q.e.a.ns
 ap : ∀ g, v.ownBlock = some g → (Value.slice q.ap q.e.ps.length q.cp).ownBlock ≠ some g ∧ (Value.slice q.ai q.e.a.l.length q.ci).ownBlock ≠ some g ∧ (Value.slice q.an q.e.a.ns.length q.cn).ownBlock ≠ some g
theorem FreshE.wr {B : Nat} {w : World} {q : Ee} (h : FreshE B w q) {v : Value} (hv : ∀ g, v.ownBlock = some g → g < B ∨ w.heap.size ≤ g) : WrE B w v q := by
 obtain ⟨els, h1, h2, -⟩ := h.a.its
 refine ⟨h.ps, ⟨els, by rw [← List.length_map (f := (·.v)), h1], h2⟩, h.a.nms, fun g hg => ⟨fun e => ?_, fun e => ?_, fun e => ?_⟩⟩
 ·have := World.ownsRow.lt h.ps g e
  have := hv g hg
  omega
 ·have := World.ownsRow.lt h2 g e
  have := hv g hg
  omega
 ·have := World.ownsRow.lt h.a.nms g e
  have := hv g hg
  omega
theorem WrE.to {B : Nat} {w w' : World} {v v' : Value} {q : Ee} (h : WrE B w v q) (hb : ∀ b, b < w.heap.size → some b ≠ v.ownBlock → w'.heap[b]? = w.heap[b]?) (hv : v'.ownBlock = v.ownBlock ∨ ∀ g, v'.ownBlock = some g → w.heap.size ≤ g) : WrE B w' v' q := by
 obtain ⟨els, h1, h2⟩ := h.its
 refine ⟨h.ps.to fun g hg => hb g (World.ownsRow.lt h.ps g hg).2 fun e => (h.ap g e.symm).1 hg, ⟨els, h1, OwnR.to h2 fun g hg => hb g (World.ownsRow.lt h2 g hg).2 fun e => (h.ap g e.symm).2.1 hg⟩, h.nms.to fun g hg => hb g (World.ownsRow.lt h.nms g hg).2 fun e => (h.ap g e.symm).2.2 hg, fun g hg => ?_⟩
 rcases hv with e | e
 ·exact h.ap g (e ▸ hg)
 ·have := e g hg
  exact ⟨fun k => by have := (World.ownsRow.lt h.ps g k).2; omega, fun k => by have := (World.ownsRow.lt h2 g k).2; omega, fun k => by have := (World.ownsRow.lt h.nms g k).2; omega⟩
theorem WrE.base {B B' : Nat} {w : World} {v : Value} {q : Ee} (h : WrE B w v q) (hb : B' ≤ B) : WrE B' w v q := by
 obtain ⟨els, h1, h2⟩ := h.its
 exact ⟨OwnR.base h.ps hb, ⟨els, h1, OwnR.base h2 hb⟩, OwnR.base h.nms hb, h.ap⟩
end Go.Proofs.YtnchohglplobeaaGreat
namespace Go.Proofs.YtnchohglplobeaaGreat
open Go.RowKit Go.Sort Go.Maps
theorem et_nil (w : World) : EtAt w (.slice none 0 0) [] := ⟨⟨none, 0, rfl, ⟨by simp, by simp⟩, fun j hj => by simp at hj⟩, fun q hq => by simp at hq⟩
end Go.Proofs.YtnchohglplobeaaGreat
namespace Go.Proofs.YtnchohglplobeaaGreat
open Go.RowKit Go.Sort
def r0 : V := .mk { hd0 with k := 6 } [] []
end Go.Proofs.YtnchohglplobeaaGreat
