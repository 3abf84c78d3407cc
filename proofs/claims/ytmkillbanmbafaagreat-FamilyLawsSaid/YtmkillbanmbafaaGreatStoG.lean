/- Memory in which one map's block may have turned, and no other: what lies in cells is read as it was. No condition. Plain: a store of entities as they must be: what is above a name; the names that a climb reaches. No condition. Pairs of names as keys of a map: how one is laid as a value, and what it reads as. No condition. A store of entities in memory: its names, its entities by their names, and what is above those names that were climbed. No condition. -/
import Derived.Test.YtmkillbanmbafaaGreatOwnS
import Derived.Test.YtmkillbanmbafaaGreatEnts
import Derived.Test.YtmkillbanmbafaaGreatParX
namespace Go.Proofs.YtmkillbanmbafaaGreat
open Go.RowKit Go.Sort Go.Maps
def IsMap (w : World) (m : Nat) : Prop := ∃ es cl, w.heap[m]? = some (.map es cl)
theorem MapAt.isMap {P : Program} {k : TypeId} {α : Type} {F : KeyF P k α} {w : World} {b n : Nat} {f : α → Option Value} (h : MapAt F w b n f) : IsMap w b := by
  obtain ⟨D, h⟩ := h
  obtain ⟨es, clock, hb, -⟩ := h.owns
  exact ⟨es, clock, hb⟩
theorem cell_noMap {w : World} {m : Nat} (hm : IsMap w m) {p : Addr} {v : Value} (h : w.cell? p = some v) : p.block ≠ m := by
  obtain ⟨es, cl, hm⟩ := hm
  intro e
  cases p with
  | mk b o f =>
    simp only at e
    subst e
    simp [World.cell?, hm] at h
/-- All blocks but m are as they were, and the streams. -/
structure Lw (m : Nat) (w w' : World) : Prop where
  os : w'.os = w.os
  out : w'.output = w.output
  size : w.heap.size ≤ w'.heap.size
  block : ∀ k, k < w.heap.size → k ≠ m → w'.heap[k]? = w.heap[k]?
  map : IsMap w m
  map' : IsMap w' m
theorem Lw.refl {m : Nat} {w : World} (h : IsMap w m) : Lw m w w := ⟨rfl, rfl, Nat.le_refl _, fun _ _ _ => rfl, h, h⟩
theorem Lw.trans {m : Nat} {a b c : World} (h : Lw m a b) (k : Lw m b c) : Lw m a c :=
  ⟨k.os.trans h.os, k.out.trans h.out, Nat.le_trans h.size k.size, fun i hi hne => (k.block i (Nat.lt_of_lt_of_le hi h.size) hne).trans (h.block i hi hne), h.map, k.map'⟩
theorem IsMap.lt {w : World} {m : Nat} (h : IsMap w m) : m < w.heap.size := by
  obtain ⟨es, cl, h⟩ := h
  exact (Array.getElem?_eq_some_iff.1 h).1
theorem IsMap.low {w w' : World} {m : Nat} (h : IsMap w m) (l : Low w w') : IsMap w' m := by
  have := h.lt
  obtain ⟨es, cl, h⟩ := h
  exact ⟨es, cl, (l.2.2.2 m this).trans h⟩
theorem Lw.of_low {m : Nat} {w w' : World} (h : Low w w') (hm : IsMap w m) : Lw m w w' := ⟨h.1, h.2.1, h.2.2.1, fun k hk _ => h.2.2.2 k hk, hm, hm.low h⟩
theorem Lw.low {m : Nat} {w a b : World} (h : Low w a) (k : Lw m a b) (hm : w.heap.size ≤ m) : Low w b :=
  ⟨k.os.trans h.1, k.out.trans h.2.1, Nat.le_trans h.2.2.1 k.size, fun i hi => (k.block i (Nat.lt_of_lt_of_le hi h.2.2.1) (by omega)).trans (h.2.2.2 i hi)⟩
theorem Lw.turned {m : Nat} {w a b : World} (h : Lw m w a) (ht : a.mapTurned b m) (hb : IsMap b m) : Lw m w b := by
  obtain ⟨es, cl, es', cl', hb', rfl⟩ := ht
  refine ⟨h.os, h.out, ?_, fun j hj hne => ?_, h.map, hb⟩
  · have := h.size
    simp [ChangeMaps.setBlock]
    exact this
  · rw [← h.block j hj hne]
    exact ChangeMaps.heap_setBlock_other hb' _ hne
theorem Lw.keep {m : Nat} {w w' : World} (h : Lw m w w') {p : Addr} {v : Value} (hc : w.cell? p = some v) : w'.cell? p = some v := by
  rw [World.cell?_of_block (w := w) (h.block p.block (cell_lt hc) (cell_noMap h.map hc))]; exact hc
theorem Lw.cells {m : Nat} {w w' : World} (h : Lw m w w') {b o : Nat} {cs : List Value} (hc : CellsAt w b o cs) : CellsAt w' b o cs := fun j v hv => h.keep (hc j v hv)
/-! ### What lies in cells -/
theorem NamesAt.noMap {A : Nat → Prop} {w : World} {m : Nat} (hm : IsMap w m) {ns : List ByteArray} {nm : Value} (hn : NamesAt A w ns nm) : NamesAt (fun b => A b ∧ b ≠ m) w ns nm := by
  obtain ⟨ao, cap, rfl, hl, hs, hn⟩ := hn
  refine ⟨ao, cap, rfl, hl, hs, ?_⟩
  rcases hn with h0 | ⟨b, o, rfl, ha, hc⟩
  · exact .inl h0
  · cases ns with
    | nil => exact .inl rfl
    | cons x ns => exact .inr ⟨b, o, rfl, ⟨ha, cell_noMap hm (hc 0 (by simp))⟩, hc⟩
mutual
theorem Rep.noMap {A : Nat → Prop} {w : World} {m : Nat} (hm : IsMap w m) : ∀ (v : V) {it nm : Value}, Rep A w v it nm → Rep (fun b => A b ∧ b ≠ m) w v it nm
  | .mk hd l ns, it, nm, hr => by
    rw [Rep] at hr ⊢
    obtain ⟨hb, hn, ao, cap, rfl, hl, hr⟩ := hr
    refine ⟨hb, hn.noMap hm, ao, cap, rfl, hl, ?_⟩
    rcases hr with h0 | ⟨b, o, rfl, ha, hf⟩
    · exact .inl h0
    · cases hl0 : l with
      | nil => exact .inl rfl
      | cons x l' =>
        have hx := hf
        rw [hl0, RepF] at hx
        obtain ⟨⟨it, nm, hc, _⟩, _⟩ := hx
        have hne := cell_noMap hm (hc 0 _ rfl)
        rw [← hl0]
        exact .inr ⟨b, o, rfl, ⟨ha, hne⟩, RepF.noMap hm l hf⟩
theorem RepF.noMap {A : Nat → Prop} {w : World} {b m : Nat} (hm : IsMap w m) : ∀ (l : List V) {o : Nat}, RepF A w b o l → RepF (fun b => A b ∧ b ≠ m) w b o l
  | [], _, _ => by rw [RepF]; trivial
  | x :: l, o, hf => by
    rw [RepF] at hf ⊢
    obtain ⟨⟨it, nm, hc, hr⟩, hf⟩ := hf
    exact ⟨⟨it, nm, hc, Rep.noMap hm x hr⟩, RepF.noMap hm l hf⟩
end
theorem UsIn.noMap {A : Nat → Prop} {w : World} {m : Nat} (hm : IsMap w m) {r : Value} {l : List Us} (hu : UsIn A w r l) : UsIn (fun b => A b ∧ b ≠ m) w r l := by
  obtain ⟨ao, c, rfl, hc, hx⟩ := hu
  refine ⟨ao, c, rfl, hc, fun j hj => ?_⟩
  obtain ⟨b, o, rfl, ha, hs⟩ := hx j hj
  exact ⟨b, o, rfl, ⟨ha, cell_noMap hm (hs 0 _ rfl)⟩, hs⟩
theorem Rep.lw {A : Nat → Prop} {m : Nat} {w w' : World} (h : Lw m w w') {v : V} {it nm : Value} (hr : Rep A w v it nm) : Rep A w' v it nm := Rep.to (fun b ha hb => ⟨ha.1, h.block b hb ha.2⟩) v (Rep.noMap h.map v hr)
theorem UsIn.lw {A : Nat → Prop} {m : Nat} {w w' : World} (h : Lw m w w') {r : Value} {l : List Us} (hr : UsIn A w r l) : UsIn A w' r l := UsIn.to (fun b ha hb => ⟨ha.1, h.block b hb ha.2⟩) (hr.noMap h.map)
theorem UsAt.lw {m : Nat} {w w' : World} (h : Lw m w w') {r : Value} {l : List Us} (hu : UsAt w r l) : UsAt w' r l := by
  obtain ⟨ao, c, rfl, hc, hx⟩ := hu
  refine ⟨ao, c, rfl, hc, fun j hj => ?_⟩
  obtain ⟨b, o, rfl, hs⟩ := hx j hj
  exact ⟨b, o, rfl, h.cells hs⟩
theorem EsAt.lw {m : Nat} {w w' : World} (h : Lw m w w') {r : Value} {l : List Sh} (hu : EsAt w r l) : EsAt w' r l := by
  obtain ⟨ao, c, rfl, hc, hx⟩ := hu
  refine ⟨ao, c, rfl, hc, fun j hj => ?_⟩
  obtain ⟨b, o, rfl, hs⟩ := hx j hj
  exact ⟨b, o, rfl, h.cells hs⟩
theorem EeOk.lw {A : Nat → Prop} {m : Nat} {w w' : World} (h : Lw m w w') {q : Ee} (hq : EeOk A w q) : EeOk A w' q := ⟨hq.1.lw h, hq.2.lw h⟩
theorem EtAt.lw {m : Nat} {w w' : World} (h : Lw m w w') {r : Value} {qs : List Ee} (hq : EtAt w r qs) : EtAt w' r qs := ⟨hq.1.lw h, fun q k => (hq.2 q k).lw h⟩
theorem BoxAt.set {w : World} {n : Nat} {cs : List Value} (h : BoxAt w n cs) (j : Nat) (v : Value) : BoxAt (w.setCell ⟨n, j, none⟩ v) n (cs.set j v) where
  cells := fun k u hk => by
    rw [Nat.zero_add]
    have hlt : k < cs.length := by have := (List.getElem?_eq_some_iff.1 hk).1; rwa [List.length_set] at this
    by_cases e : k = j
    · subst e
      rw [List.getElem?_set_self hlt] at hk
      simp at hk
      subst hk
      have h0 := h.at k _ (List.getElem?_eq_getElem hlt)
      exact World.cell?_setCell_same' _ _ _ (by rw [h0]; rfl)
    · rw [List.getElem?_set_ne (Ne.symm e)] at hk
      rw [World.cell?_setCell_other _ _ _ _ (by intro h; injection h with _ h; exact e h.symm)]
      exact h.at k u hk
  open' := fun o => by
    rw [World.frozen?_setCell]
    exact h.open' o
  lt := by
    have := h.lt
    have hs : (w.setCell ⟨n, j, none⟩ v).heap.size = w.heap.size := by simp
    rw [hs]; exact this
theorem BoxAt.made {w W : World} {n : Nat} {cs : List Value} {C : Array Value} {t : TypeId} (h : W = w.alloc (.cells C t)) (hn : w.heap.size = n) (hC : C = cs.toArray) : BoxAt W n cs := BoxAt.new (C := C) (t := t) n (by rw [h]; exact Low.refl _) hC hn
theorem IsMap.block {w w' : World} {m : Nat} (h : IsMap w m) (e : w'.heap[m]? = w.heap[m]?) : IsMap w' m := by
  obtain ⟨es, cl, h⟩ := h
  exact ⟨es, cl, e.trans h⟩
theorem Lw.below {m B : Nat} {w a b : World} (h : Lw m w a) (k : RowKit.Below B a b) (hB : w.heap.size ≤ B) (hm : m < B) : Lw m w b :=
  ⟨k.os.trans h.os, k.output.trans h.out, Nat.le_trans h.size k.size, fun i hi hne => (k.block i (Nat.lt_of_lt_of_le hi hB)).trans (h.block i hi hne), h.map, h.map'.block (k.block m hm)⟩
theorem BoxAt.below {w w' : World} {n B : Nat} {cs : List Value} (h : BoxAt w n cs) (k : RowKit.Below B w w') (hn : n < B) : BoxAt w' n cs where
  cells := fun j v hj => by
    have := h.cells j v hj
    rw [World.cell?_of_block (w := w) (w' := w') (a := ⟨n, 0 + j, none⟩) (k.block n hn)]
    exact this
  open' := fun o => by
    rw [World.frozen?_of_block (w := w) (w' := w') (a := ⟨n, o, none⟩) (k.block n hn)]
    exact h.open' o
  lt := Nat.lt_of_lt_of_le h.lt k.size
end Go.Proofs.YtmkillbanmbafaaGreat
namespace Go.Proofs.YtmkillbanmbafaaGreat
/-- Each parent is there. -/
def Closed (c : List En) : Prop := ∀ e ∈ c, ∀ p ∈ e.ps, p ∈ namesE c
theorem PE_mem {c : List En} {x y : Us} (h : y ∈ PE c x) : ∃ e ∈ c, e.u = x ∧ y ∈ e.ps := by
  unfold PE fstE at h
  cases e : c.find? (fun e => decide (e.u = x)) with
  | none => rw [e] at h; simp at h
  | some q =>
    rw [e] at h
    have h1 := List.find?_some e
    exact ⟨q, List.mem_of_find?_eq_some e, by simpa using h1, h⟩
theorem step_iff {c : List En} (hc : Closed c) {x y : Us} : stepE c x y ↔ y ∈ PE c x := by
  refine ⟨fun h => h.2.1, fun h => ?_⟩
  obtain ⟨e, he, rfl, hy⟩ := PE_mem h
  exact ⟨List.mem_map.2 ⟨e, he, rfl⟩, h, hc e he y hy⟩
theorem way_to {c : List En} {x y : Us} (h : Way (stepE c) x y) : y ∈ namesE c := by
  obtain ⟨b, h1, -⟩ := h.last
  exact h1.2.2
theorem way_from {c : List En} {x y : Us} (h : Way (stepE c) x y) : x ∈ namesE c := by
  obtain ⟨b, h1, -⟩ := h.first
  exact h1.1
/-- Of a climb: those reached, and those that wait. -/
structure Clo (c : List En) (u : Us) (Q R : List Us) : Prop where
  nd : Q.Nodup
  way : ∀ b ∈ Q, Way (stepE c) u b
  wait : ∀ x ∈ R, x = u ∨ x ∈ Q
  all : ∀ z, (z = u ∨ z ∈ Q) → z ∉ R → ∀ y ∈ PE c z, y ∈ Q
structure CloIn (c : List En) (u : Us) (Q R : List Us) (x : Us) (j : Nat) : Prop where
  nd : Q.Nodup
  way : ∀ b ∈ Q, Way (stepE c) u b
  wait : ∀ x ∈ R, x = u ∨ x ∈ Q
  at' : x = u ∨ x ∈ Q
  all : ∀ z, (z = u ∨ z ∈ Q) → z ∉ R → z ≠ x → ∀ y ∈ PE c z, y ∈ Q
  now : ∀ i (hi : i < (PE c x).length), i < j → (PE c x)[i] ∈ Q
theorem Clo.start (c : List En) (u : Us) : Clo c u [] [u] where
  nd := List.nodup_nil
  way := fun b hb => by simp at hb
  wait := fun x hx => by simp at hx; exact .inl hx
  all := fun z hz hn => by
    rcases hz with rfl | h
    · simp at hn
    · simp at h
theorem Clo.take {c : List En} {u : Us} {Q R : List Us} {x : Us} (h : Clo c u Q (R ++ [x])) : CloIn c u Q R x 0 where
  nd := h.nd
  way := h.way
  wait := fun y hy => h.wait y (by simp [hy])
  at' := h.wait x (by simp)
  all := fun z hz hn hne => h.all z hz (by simp [hn, hne])
  now := fun i hi h0 => absurd h0 (Nat.not_lt_zero _)
theorem CloIn.old {c : List En} {u : Us} {Q R : List Us} {x : Us} {j : Nat} (h : CloIn c u Q R x j) (hj : j < (PE c x).length) (hq : (PE c x)[j] ∈ Q) : CloIn c u Q R x (j + 1) where
  nd := h.nd
  way := h.way
  wait := h.wait
  at' := h.at'
  all := h.all
  now := fun i hi hij => by
    rcases Nat.lt_succ_iff_lt_or_eq.1 hij with h1 | rfl
    · exact h.now i hi h1
    · exact hq
theorem CloIn.new {c : List En} (hc : Closed c) {u : Us} {Q R : List Us} {x : Us} {j : Nat} (h : CloIn c u Q R x j) (hj : j < (PE c x).length) (hq : (PE c x)[j] ∉ Q) : CloIn c u (Q ++ [(PE c x)[j]]) (R ++ [(PE c x)[j]]) x (j + 1) where
  nd := by
    rw [List.nodup_append]
    refine ⟨h.nd, by simp, fun a ha b hb e => ?_⟩
    simp at hb
    rw [← hb, ← e] at hq
    exact hq ha
  way := fun b hb => by
    rcases List.mem_append.1 hb with hb | hb
    · exact h.way b hb
    · simp at hb
      have hs : stepE c x b := (step_iff hc).2 (by rw [hb]; exact List.getElem_mem hj)
      rcases h.at' with rfl | hx
      · exact .one hs
      · exact (h.way x hx).trans (.one hs)
  wait := fun y hy => by
    rcases List.mem_append.1 hy with hy | hy
    · rcases h.wait y hy with h1 | h1
      · exact .inl h1
      · exact .inr (List.mem_append.2 (.inl h1))
    · exact .inr (List.mem_append.2 (.inr hy))
  at' := by
    rcases h.at' with h1 | h1
    · exact .inl h1
    · exact .inr (List.mem_append.2 (.inl h1))
  all := fun z hz hn hne y hy => by
    refine List.mem_append.2 (.inl ?_)
    have hn1 : z ∉ R := fun h => hn (List.mem_append.2 (.inl h))
    have hn2 : ¬ z ∈ [(PE c x)[j]] := fun h => hn (List.mem_append.2 (.inr h))
    refine h.all z ?_ hn1 hne y hy
    rcases hz with h1 | h1
    · exact .inl h1
    · rcases List.mem_append.1 h1 with h1 | h1
      · exact .inr h1
      · exact absurd h1 hn2
  now := fun i hi hij => by
    rcases Nat.lt_succ_iff_lt_or_eq.1 hij with h1 | rfl
    · exact List.mem_append.2 (.inl (h.now i hi h1))
    · exact List.mem_append.2 (.inr (by simp))
theorem CloIn.done {c : List En} {u : Us} {Q R : List Us} {x : Us} {j : Nat} (h : CloIn c u Q R x j) (hj : (PE c x).length ≤ j) : Clo c u Q R where
  nd := h.nd
  way := h.way
  wait := h.wait
  all := fun z hz hn y hy => by
    by_cases e : z = x
    · subst e
      obtain ⟨i, hi, rfl⟩ := List.getElem_of_mem hy
      exact h.now i hi (by omega)
    · exact h.all z hz hn e y hy
theorem Clo.fin {c : List En} {u : Us} {Q : List Us} (h : Clo c u Q []) (b : Us) : b ∈ Q ↔ Way (stepE c) u b := by
  refine ⟨h.way b, fun hw => ?_⟩
  induction hw with
  | one hs => exact h.all _ (.inl rfl) (by simp) _ hs.2.1
  | more _ hs ih => exact h.all _ (.inr ih) (by simp) _ hs.2.1
/-- Those keys that may be: each is of a name that was climbed, and one above it. -/
def AbvOk (c : List En) (ks : List (Us × Us)) : Prop := ks.Nodup ∧ ∃ K : Us → Prop, ∀ a b, (a, b) ∈ ks ↔ K a ∧ Way (stepE c) a b
/-- .. and this name was. -/
def AbvFor (c : List En) (ks : List (Us × Us)) (u : Us) : Prop := AbvOk c ks ∧ ∀ b, (u, b) ∈ ks ↔ Way (stepE c) u b
theorem AbvOk.nil (c : List En) : AbvOk c [] := ⟨List.nodup_nil, fun _ => False, fun a b => by simp⟩
theorem len_prod (ns : List Us) : (ns.flatMap fun a => ns.map fun b => (a, b)).length = ns.length * ns.length := by
  have : ∀ l : List Us, (l.flatMap fun a => ns.map fun b => (a, b)).length = l.length * ns.length := fun l => by
    induction l with
    | nil => simp
    | cons x r ih => rw [List.flatMap_cons, List.length_append, ih, List.length_map, List.length_cons, Nat.add_mul, Nat.one_mul, Nat.add_comm]
  exact this ns
theorem pairs_few {ns : List Us} {ks : List (Us × Us)} (hn : ks.Nodup) (h : ∀ p ∈ ks, p.1 ∈ ns ∧ p.2 ∈ ns) (h3 : ns.length ≤ 300) : ks.length ≤ 90000 := by
  have h1 := len_sub ks (ns.flatMap fun a => ns.map fun b => (a, b)) hn fun p hp => by
    obtain ⟨h1, h2⟩ := h p hp
    exact List.mem_flatMap.2 ⟨p.1, h1, List.mem_map.2 ⟨p.2, h2, rfl⟩⟩
  rw [len_prod] at h1
  have := Nat.mul_le_mul h3 h3
  omega
theorem AbvOk.in {c : List En} {ks : List (Us × Us)} (h : AbvOk c ks) : ∀ p ∈ ks, p.1 ∈ namesE c ∧ p.2 ∈ namesE c := fun p hp => by
  obtain ⟨-, K, hK⟩ := h
  have := ((hK p.1 p.2).1 hp).2
  exact ⟨way_from this, way_to this⟩
/-- A climb of a name that was not climbed. -/
theorem AbvOk.climbed {c : List En} {ks ks' : List (Us × Us)} {u : Us} {Q : List Us} (h : AbvOk c ks) (hnd : ks'.Nodup) (hno : ∀ b, (u, b) ∉ ks) (hk : ∀ a b, (a, b) ∈ ks' ↔ (a, b) ∈ ks ∨ (a = u ∧ b ∈ Q)) (hQ : Clo c u Q []) : AbvFor c ks' u := by
  obtain ⟨-, K, hK⟩ := h
  have hu : ∀ b, (u, b) ∈ ks' ↔ Way (stepE c) u b := fun b => by
    rw [hk, ← hQ.fin]
    exact ⟨fun h => h.elim (fun h => absurd h (hno b)) (fun h => h.2), fun h => .inr ⟨rfl, h⟩⟩
  refine ⟨⟨hnd, fun a => K a ∨ a = u, fun a b => ?_⟩, hu⟩
  by_cases e : a = u
  · subst e
    rw [hu]; simp
  · rw [hk, hK]
    simp [e]
/-- A name above which nothing is. -/
theorem AbvOk.none {c : List En} {ks : List (Us × Us)} {u : Us} (h : AbvOk c ks) (h0 : PE c u = []) : AbvFor c ks u := by
  refine ⟨h, fun b => ?_⟩
  have hno : ¬ Way (stepE c) u b := fun hw => by
    obtain ⟨y, h1, -⟩ := hw.first
    have := h1.2.1
    rw [h0] at this; simp at this
  obtain ⟨-, K, hK⟩ := h
  rw [hK]
  exact ⟨fun h => absurd h.2 hno, fun h => absurd h hno⟩
/-- A name that was climbed. -/
theorem AbvOk.again {c : List En} {ks : List (Us × Us)} {u b : Us} (h : AbvOk c ks) (hb : (u, b) ∈ ks) : AbvFor c ks u := by
  refine ⟨h, fun y => ?_⟩
  obtain ⟨-, K, hK⟩ := h
  have := ((hK u b).1 hb).1
  rw [hK]
  exact ⟨fun h => h.2, fun h => ⟨this, h⟩⟩
/-- A name that has parents, the first of which is not laid down: it was not climbed. -/
theorem AbvOk.fresh {c : List En} {ks : List (Us × Us)} {u p : Us} (hc : Closed c) (h : AbvOk c ks) (hp : p ∈ PE c u) (hn : (u, p) ∉ ks) : ∀ b, (u, b) ∉ ks := fun b hb => by
  obtain ⟨-, K, hK⟩ := h
  exact hn ((hK u p).2 ⟨((hK u b).1 hb).1, .one ((step_iff hc).2 hp)⟩)
/-- A canonical list is closed, and no way goes round. -/
theorem canE_closed {f : V → Int × V} {l : List En} (h : (canE f l).1 = 0) : Closed (canE f l).2 ∧ ¬ RoundE (canE f l).2 ∧ Rises cmpE (canE f l).2 := by
  obtain ⟨-, hn, he, hr⟩ := canE_ok.1 h
  rw [canE_val h]
  have hn' : (namesE (l.map (oneE f))).Nodup := by rw [names_one]; exact hn
  have hmem : ∀ z, z ∈ uniq cmpE (l.map (oneE f)) ↔ z ∈ l.map (oneE f) := fun z => mem_en hn'
  have hnm : ∀ x, x ∈ namesE (uniq cmpE (l.map (oneE f))) ↔ x ∈ namesE l := fun x => by
    rw [← names_one (c := f) l]
    unfold namesE
    simp only [List.mem_map]
    constructor
    · rintro ⟨z, hz, rfl⟩
      obtain ⟨e, he, rfl⟩ := List.mem_map.1 ((hmem z).1 hz)
      exact ⟨_, ⟨e, he, rfl⟩, rfl⟩
    · rintro ⟨z, ⟨e, he, rfl⟩, rfl⟩
      exact ⟨_, (hmem _).2 (List.mem_map.2 ⟨e, he, rfl⟩), rfl⟩
  refine ⟨fun e hz p hp => ?_, fun ⟨x, hx⟩ => hr ⟨x, hx.mono fun a b hs => ?_⟩, rise_en hn'⟩
  · obtain ⟨d, hd, rfl⟩ := List.mem_map.1 ((hmem e).1 hz)
    have hp2 : p ∈ d.ps := mem_canU.1 hp
    have h0 := he d hd
    unfold errE at h0
    by_cases k1 : d.a.h.k ≠ 6
    · rw [if_pos k1] at h0; exact absurd h0 (by decide)
    · rw [if_neg k1] at h0
      by_cases k2 : (f d.a).1 ≠ 0
      · rw [if_pos k2] at h0; exact absurd h0 k2
      · rw [if_neg k2] at h0
        by_cases k3 : d.ps.all (fun p => decide (p ∈ namesE l)) = true
        · rw [List.all_eq_true] at k3
          have := k3 p hp2
          simp at this
          exact (hnm p).2 this
        · rw [if_neg k3] at h0; exact absurd h0 (by decide)
  · obtain ⟨h1, h2, h3⟩ := hs
    obtain ⟨e, hz, rfl, hy⟩ := PE_mem h2
    obtain ⟨d, hd, rfl⟩ := List.mem_map.1 ((hmem e).1 hz)
    refine ⟨(hnm _).1 h1, ?_, (hnm _).1 h3⟩
    show b ∈ PE l d.u
    rw [PE_of hn hd]
    exact mem_canU.1 hy
end Go.Proofs.YtmkillbanmbafaaGreat
namespace Go.Proofs.YtmkillbanmbafaaGreat
open Go.RowKit Go.Maps
def uuV (p : Us × Us) : Value := .agg #[.string p.1.t, .string p.1.i, .string p.2.t, .string p.2.i]
def uuL (p : Us × Us) : Lit := .string (keyBytes [.string p.1.t.data.toList, .string p.1.i.data.toList, .string p.2.t.data.toList, .string p.2.i.data.toList])
theorem rowUU : 79 < Tryz.prog.types.size := of_decide_eq_true (by kernel_rfl)
theorem kt3UU : Tryz.prog.keyTypeAt 3 79 = true := by kernel_rfl
theorem lawUU : WideMaps.KeyLaw Tryz.prog 79 := deep_law_laid laidOutE (m := 3) (by omega) rowUU kt3UU (by rw [Tryz.underlying79])
theorem keyedUU : Keyed Tryz.prog 79 := Keyed.of_law lawUU
theorem cellsUU : Tryz.prog.cellsOf 79 = 4 := by kernel_rfl
theorem ktUU : Tryz.prog.keyType 79 = true := by kernel_rfl
theorem szP3 : ∃ D, Tryz.prog.types.size + 1 = D + 3 := ⟨Tryz.prog.types.size - 2, by
  have : 2 ≤ Tryz.prog.types.size := of_decide_eq_true (by kernel_rfl)
  omega⟩
theorem lits_us (D : Nat) (u : Us) : Tryz.prog.keyLits (D + 2) 24 [.string u.t, .string u.i] = some [.string u.t.data.toList, .string u.i.data.toList] := by
  have h1 := lits_text D u.t u.ht
  have h2 := lits_text D u.i u.hi
  have hc : Tryz.prog.cellsOf 9 = 1 := by kernel_rfl
  unfold Program.keyLits
  rw [Tryz.underlying24]
  simp [cellsUs, hc, h1, h2]
theorem uuOk (p : Us × Us) : keyOf Tryz.prog 79 (uuV p) = some (uuL p) := by
  have hf : (uuV p).formed Tryz.prog 79 = true := by simp [uuV, Value.formed, Tryz.underlying79, cellsUU]
  obtain ⟨D, hD⟩ := szP3
  have hl : Tryz.prog.keyLits (Tryz.prog.types.size + 1) 79 [.string p.1.t, .string p.1.i, .string p.2.t, .string p.2.i] = some [.string p.1.t.data.toList, .string p.1.i.data.toList, .string p.2.t.data.toList, .string p.2.i.data.toList] := by
    have h1 := lits_us D p.1
    have h2 := lits_us D p.2
    have hr : List.range 2 = [0, 1] := rfl
    rw [hD]
    unfold Program.keyLits
    rw [Tryz.underlying79]
    simp [cellsUs, cellsUU, hr, h1, h2]
  unfold keyOf
  rw [Tryz.underlying79]
  simp only [ktUU, hf, Bool.and_self, if_true]
  show ((Tryz.prog.keyLits (Tryz.prog.types.size + 1) 79 [.string p.1.t, .string p.1.i, .string p.2.t, .string p.2.i]).map fun ls => Lit.string (keyBytes ls)) = _
  rw [hl]
  rfl
theorem uuInj (a b : Us × Us) (h : uuV a = uuV b) : a = b := by
  unfold uuV at h
  injection h with h
  have h1 : ([.string a.1.t, .string a.1.i, .string a.2.t, .string a.2.i] : List Value) = [.string b.1.t, .string b.1.i, .string b.2.t, .string b.2.i] := by
    have := congrArg Array.toList h
    exact this
  simp at h1
  obtain ⟨e1, e2, e3, e4⟩ := h1
  exact Prod.ext (Us.ext' e1 e2) (Us.ext' e3 e4)
def keyUU : KeyF Tryz.prog 79 (Us × Us) := ⟨uuV, uuL, uuOk, uuInj⟩
/-- The keys of a row. -/
def abF (ks : List (Us × Us)) (p : Us × Us) : Option Value := if p ∈ ks then some (.agg #[]) else none
theorem abF_more (ks : List (Us × Us)) (p : Us × Us) : abF (ks ++ [p]) = updF (abF ks) p (some (.agg #[])) := by
  funext x
  unfold updF abF
  by_cases e : x = p
  · rw [if_pos e, if_pos (by rw [e]; simp)]
  · rw [if_neg e]
    by_cases h : x ∈ ks
    · rw [if_pos h, if_pos (by simp [h])]
    · rw [if_neg h, if_neg (by simp [h, e])]
theorem abF_there (ks : List (Us × Us)) (p : Us × Us) : (abF ks p).isSome = decide (p ∈ ks) := by
  unfold abF
  by_cases h : p ∈ ks
  · simp [h]
  · simp [h]
theorem abF_nil : abF [] = fun _ => none := by
  funext x
  simp [abF]
end Go.Proofs.YtmkillbanmbafaaGreat
namespace Go.Proofs.YtmkillbanmbafaaGreat
open Go.RowKit Go.Sort Go.Maps
/-- An entity's cells as one value. -/
def Ee.val (q : Ee) : Value := .agg #[.string q.e.u.t, .string q.e.u.i, .slice q.ap q.e.ps.length q.cp, .int .i64 q.e.a.h.k, .bool q.e.a.h.b, .int .i64 q.e.a.h.n, .string q.e.a.h.s, .string q.e.a.h.t, .string q.e.a.h.i, .slice q.ai q.e.a.l.length q.ci, .slice q.an q.e.a.ns.length q.cn]
/-- No entity. -/
def eeNo : Ee := ⟨⟨⟨⟨#[]⟩, ⟨#[]⟩, Nat.zero_le _, Nat.zero_le _⟩, [], V0⟩, none, 0, none, 0, none, 0⟩
def fstQ (qs : List Ee) (x : Us) : Option Ee := qs.find? fun q => decide (q.e.u = x)
def enF (qs : List Ee) (x : Us) : Option Value := (fstQ qs x).map Ee.val
theorem enF_get (qs : List Ee) (x : Us) : (enF qs x).getD eeNo.val = ((fstQ qs x).getD eeNo).val := by
  unfold enF
  cases fstQ qs x <;> rfl
theorem fstQ_mem {qs : List Ee} {x : Us} {q : Ee} (h : fstQ qs x = some q) : q ∈ qs ∧ q.e.u = x := by
  refine ⟨List.mem_of_find?_eq_some h, ?_⟩
  have := List.find?_some h
  simpa using this
theorem fstQ_en (qs : List Ee) (x : Us) : fstE (ensOf qs) x = (fstQ qs x).map (·.e) := by
  unfold fstE fstQ ensOf
  rw [List.find?_map]; rfl
theorem fstQ_there (qs : List Ee) (x : Us) : (fstQ qs x).isSome = decide (x ∈ namesE (ensOf qs)) := by
  have := @fst_some (ensOf qs) x
  rw [fstQ_en] at this
  by_cases h : x ∈ namesE (ensOf qs)
  · rw [decide_eq_true h]
    have := this.2 h
    simpa using this
  · rw [decide_eq_false h]
    cases e : fstQ qs x with
    | none => rfl
    | some q => rw [e] at this; exact absurd (this.1 rfl) h
theorem enF_there (qs : List Ee) (x : Us) : (enF qs x).isSome = decide (x ∈ namesE (ensOf qs)) := by
  rw [← fstQ_there]
  unfold enF
  cases fstQ qs x <;> rfl
theorem fstQ_ps (qs : List Ee) (x : Us) : ((fstQ qs x).getD eeNo).e.ps = PE (ensOf qs) x := by
  unfold PE
  rw [fstQ_en]
  cases fstQ qs x <;> rfl
theorem fstQ_ok {A : Nat → Prop} {w : World} {qs : List Ee} (h : ∀ q ∈ qs, EeOk A w q) (x : Us) : EeOk A w ((fstQ qs x).getD eeNo) := by
  cases e : fstQ qs x with
  | some q => exact h q (fstQ_mem e).1
  | none => exact ⟨⟨none, 0, rfl, ⟨Nat.le_refl _, by decide⟩, fun j hj => absurd hj (Nat.not_lt_zero _)⟩, rep_V0 _ _⟩
theorem enF_more {qs : List Ee} {q : Ee} (h : q.e.u ∉ namesE (ensOf qs)) : enF (qs ++ [q]) = updF (enF qs) q.e.u (some q.val) := by
  have h0 : fstQ qs q.e.u = none := by
    have := fstQ_there qs q.e.u
    rw [decide_eq_false h] at this
    cases e : fstQ qs q.e.u with
    | none => rfl
    | some z => rw [e] at this; simp at this
  funext x
  unfold updF enF fstQ
  rw [List.find?_append]
  by_cases e : x = q.e.u
  · subst e
    unfold fstQ at h0
    rw [if_pos rfl, h0]; simp
  · rw [if_neg e]
    cases qs.find? (fun q => decide (q.e.u = x)) with
    | some z => simp
    | none => simp [Ne.symm e]
/-- Where a store lies. -/
structure St where
  p : Nat
  me : Nat
  ma : Nat
  ao : Option Addr
  c : Nat
def St.v (z : St) : Value := .pointer (some ⟨z.p, 0, none⟩)
structure StAt (w : World) (z : St) (qs : List Ee) (ks : List (Us × Us)) : Prop where
  c0 : w.cell? ⟨z.p, 0, none⟩ = some (.slice z.ao qs.length z.c)
  c1 : w.cell? ⟨z.p, 1, none⟩ = some (.map (some z.me))
  c2 : w.cell? ⟨z.p, 2, none⟩ = some (.map (some z.ma))
  names : UsAt w (.slice z.ao qs.length z.c) (namesE (ensOf qs))
  ents : MapAt keyUs w z.me qs.length (enF qs)
  abv : ∃ n, n ≤ ks.length ∧ MapAt keyUU w z.ma n (abF ks)
  ne : z.me ≠ z.ma
  ok : ∀ q ∈ qs, EeOk (fun _ => True) w q
theorem StAt.isMap {w : World} {z : St} {qs : List Ee} {ks : List (Us × Us)} (h : StAt w z qs ks) : IsMap w z.ma := by
  obtain ⟨n, -, h⟩ := h.abv
  exact h.isMap
theorem StAt.low {w w' : World} {z : St} {qs : List Ee} {ks : List (Us × Us)} (h : StAt w z qs ks) (l : Low w w') : StAt w' z qs ks where
  c0 := l.keep h.c0
  c1 := l.keep h.c1
  c2 := l.keep h.c2
  names := h.names.low l
  ents := h.ents.block (l.2.2.2 _ h.ents.lt)
  abv := by
    obtain ⟨n, h1, h2⟩ := h.abv
    exact ⟨n, h1, h2.block (l.2.2.2 _ h2.lt)⟩
  ne := h.ne
  ok := fun q hq => (h.ok q hq).low l
/-- .. with the map of those above turned. -/
theorem StAt.turned {w w' : World} {z : St} {qs : List Ee} {ks ks' : List (Us × Us)} (h : StAt w z qs ks) (l : Lw z.ma w w') {n : Nat} (hn : n ≤ ks'.length) (hm : MapAt keyUU w' z.ma n (abF ks')) : StAt w' z qs ks' where
  c0 := l.keep h.c0
  c1 := l.keep h.c1
  c2 := l.keep h.c2
  names := h.names.lw l
  ents := h.ents.block (l.block _ h.ents.lt h.ne)
  abv := ⟨n, hn, hm⟩
  ne := h.ne
  ok := fun q hq => (h.ok q hq).lw l
/-- A store as it may be; one in which a name was climbed. -/
def Sto (w : World) (z : St) (qs : List Ee) : Prop := ∃ ks, AbvOk (ensOf qs) ks ∧ StAt w z qs ks
theorem Sto.low {w w' : World} {z : St} {qs : List Ee} (h : Sto w z qs) (l : Low w w') : Sto w' z qs := by
  obtain ⟨ks, h1, h2⟩ := h
  exact ⟨ks, h1, h2.low l⟩
theorem Sto.isMap {w : World} {z : St} {qs : List Ee} (h : Sto w z qs) : IsMap w z.ma := by
  obtain ⟨ks, h1, h2⟩ := h
  exact h2.isMap
/-- A list as a store has it. -/
structure GoodC (c : List En) : Prop where
  closed : Closed c
  ring : ¬ RoundE c
  rises : Rises cmpE c
  len : c.length ≤ 300
  few : ∀ e ∈ c, e.ps.length ≤ 300
  sm : ∀ e ∈ c, Sm e.a
theorem GoodC.pe {c : List En} (h : GoodC c) (x : Us) : (PE c x).length ≤ 300 := by
  unfold PE
  cases e : fstE c x with
  | none => simp
  | some q => exact h.few q (List.mem_of_find?_eq_some e)
theorem names_len (c : List En) : (namesE c).length = c.length := by simp [namesE]
end Go.Proofs.YtmkillbanmbafaaGreat
