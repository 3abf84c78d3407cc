/- Memory in which one map's block may have turned, and no other: what lies in cells is read as it was. No condition. slices.Clone at texts and at values: the same row in new memory. Condition: not too many. family.copiedValue: a value in new memory. Condition: its rows are short. What a value as it must be keeps: its depth; a value in sets of one member each. No condition. What the order and the form of values keep: how great an answer is; what is as it must be stays so; sets with the same members. No condition. The box in which the reference lays its answer down. No condition. -/
import Derived.Test.YtnchohglplobeaaGreatZCanEq12
set_option linter.unusedVariables false
set_option linter.unusedSimpArgs false
set_option linter.unnecessarySimpa false
namespace Go.Proofs.YtnchohglplobeaaGreat
open Go.RowKit Go.Sort Go.Maps
def IsMap (w : World) (m : Nat) : Prop := ∃ es cl, w.heap[m]? = some (.map es cl)
theorem MapAt.isMap {P : Program} {k : TypeId} {α : Type} {F : KeyF P k α} {w : World} {b n : Nat} {f : α → Option Value} (h : MapAt F w b n f) : IsMap w b := by
 obtain ⟨D, h⟩ := h
 obtain ⟨es, clock, hb, -⟩ := h.owns
 exact ⟨es, clock, hb⟩
theorem cell_noMap {w : World} {m : Nat} (hm : IsMap w m) {p : Addr} {v : Value} (h : w.cell? p = some v) : p.block ≠ m := by
 obtain ⟨es, cl, hm⟩ := hm
 intro e
 cases p with
 | mk b o f =>
  simp only at e
  subst e
  simp [World.cell?, hm] at h
structure Lw (m : Nat) (w w' : World) : Prop where
 os : w'.os = w.os
 out : w'.output = w.output
 size : w.heap.size ≤ w'.heap.size
 block : ∀ k, k < w.heap.size → k ≠ m → w'.heap[k]? = w.heap[k]?
 map : IsMap w m
 map' : IsMap w' m
theorem Lw.refl {m : Nat} {w : World} (h : IsMap w m) : Lw m w w := ⟨rfl, rfl, Nat.le_refl _, fun _ _ _ => rfl, h, h⟩
theorem Lw.trans {m : Nat} {a b c : World} (h : Lw m a b) (k : Lw m b c) : Lw m a c :=
 ⟨k.os.trans h.os, k.out.trans h.out, Nat.le_trans h.size k.size, fun i hi hne => (k.block i (Nat.lt_of_lt_of_le hi h.size) hne).trans (h.block i hi hne), h.map, k.map'⟩
theorem IsMap.lt {w : World} {m : Nat} (h : IsMap w m) : m < w.heap.size := by
 obtain ⟨es, cl, h⟩ := h
 exact (Array.getElem?_eq_some_iff.1 h).1
theorem IsMap.low {w w' : World} {m : Nat} (h : IsMap w m) (l : Low w w') : IsMap w' m := by
 have := h.lt
 obtain ⟨es, cl, h⟩ := h
 exact ⟨es, cl, (l.2.2.2 m this).trans h⟩
theorem Lw.of_low {m : Nat} {w w' : World} (h : Low w w') (hm : IsMap w m) : Lw m w w' := ⟨h.1, h.2.1, h.2.2.1, fun k hk _ => h.2.2.2 k hk, hm, hm.low h⟩
theorem Lw.low {m : Nat} {w a b : World} (h : Low w a) (k : Lw m a b) (hm : w.heap.size ≤ m) : Low w b :=
 ⟨k.os.trans h.1, k.out.trans h.2.1, Nat.le_trans h.2.2.1 k.size, fun i hi => (k.block i (Nat.lt_of_lt_of_le hi h.2.2.1) (by omega)).trans (h.2.2.2 i hi)⟩
theorem Lw.turned {m : Nat} {w a b : World} (h : Lw m w a) (ht : a.mapTurned b m) (hb : IsMap b m) : Lw m w b := by
 obtain ⟨es, cl, es', cl', hb', rfl⟩ := ht
 refine ⟨h.os, h.out, ?_, fun j hj hne => ?_, h.map, hb⟩
 ·have := h.size
  simp [ChangeMaps.setBlock]
  exact this
 ·rw [← h.block j hj hne]
  exact ChangeMaps.heap_setBlock_other hb' _ hne
theorem Lw.keep {m : Nat} {w w' : World} (h : Lw m w w') {p : Addr} {v : Value} (hc : w.cell? p = some v) : w'.cell? p = some v := by
 rw [World.cell?_of_block (w := w) (h.block p.block (cell_lt hc) (cell_noMap h.map hc))]; exact hc
theorem Lw.cells {m : Nat} {w w' : World} (h : Lw m w w') {b o : Nat} {cs : List Value} (hc : CellsAtv w b o cs) : CellsAtv w' b o cs := fun j v hv => h.keep (hc j v hv)
theorem NamesAt.noMap {A : Nat → Prop} {w : World} {m : Nat} (hm : IsMap w m) {ns : List ByteArray} {nm : Value} (hn : NamesAt A w ns nm) : NamesAt (fun b => A b ∧ b ≠ m) w ns nm := by
 obtain ⟨ao, cap, rfl, hl, hs, hn⟩ := hn
 refine ⟨ao, cap, rfl, hl, hs, ?_⟩
 rcases hn with h0 | ⟨b, o, rfl, ha, hc⟩
 ·exact .inl h0
 ·cases ns with
  | nil => exact .inl rfl
  | cons x ns => exact .inr ⟨b, o, rfl, ⟨ha, cell_noMap hm (hc 0 (by simp))⟩, hc⟩
mutual
theorem Rep.noMap {A : Nat → Prop} {w : World} {m : Nat} (hm : IsMap w m) : ∀ (v : V) {it nm : Value}, Rep A w v it nm → Rep (fun b => A b ∧ b ≠ m) w v it nm
 | .mk hd l ns, it, nm, hr => by
  rw [Rep] at hr ⊢
  obtain ⟨hb, hn, ao, cap, rfl, hl, hr⟩ := hr
  refine ⟨hb, hn.noMap hm, ao, cap, rfl, hl, ?_⟩
  rcases hr with h0 | ⟨b, o, rfl, ha, hf⟩
  ·exact .inl h0
  ·cases hl0 : l with
   | nil => exact .inl rfl
   | cons x l' =>
    have hx := hf
    rw [hl0, RepF] at hx
    obtain ⟨⟨it, nm, hc, _⟩, _⟩ := hx
    have hne := cell_noMap hm (hc 0 _ rfl)
    rw [← hl0]
    exact .inr ⟨b, o, rfl, ⟨ha, hne⟩, RepF.noMap hm l hf⟩
theorem RepF.noMap {A : Nat → Prop} {w : World} {b m : Nat} (hm : IsMap w m) : ∀ (l : List V) {o : Nat}, RepF A w b o l → RepF (fun b => A b ∧ b ≠ m) w b o l
 | [], _, _ => by rw [RepF]; trivial
 | x :: l, o, hf => by
  rw [RepF] at hf ⊢
  obtain ⟨⟨it, nm, hc, hr⟩, hf⟩ := hf
  exact ⟨⟨it, nm, hc, Rep.noMap hm x hr⟩, RepF.noMap hm l hf⟩
end
theorem UsIn.noMap {A : Nat → Prop} {w : World} {m : Nat} (hm : IsMap w m) {r : Value} {l : List Us} (hu : UsIn A w r l) : UsIn (fun b => A b ∧ b ≠ m) w r l := by
 obtain ⟨ao, c, rfl, hc, hx⟩ := hu
 refine ⟨ao, c, rfl, hc, fun j hj => ?_⟩
 obtain ⟨b, o, rfl, ha, hs⟩ := hx j hj
 exact ⟨b, o, rfl, ⟨ha, cell_noMap hm (hs 0 _ rfl)⟩, hs⟩
theorem Rep.lw {A : Nat → Prop} {m : Nat} {w w' : World} (h : Lw m w w') {v : V} {it nm : Value} (hr : Rep A w v it nm) : Rep A w' v it nm := Rep.to (fun b ha hb => ⟨ha.1, h.block b hb ha.2⟩) v (Rep.noMap h.map v hr)
theorem UsIn.lw {A : Nat → Prop} {m : Nat} {w w' : World} (h : Lw m w w') {r : Value} {l : List Us} (hr : UsIn A w r l) : UsIn A w' r l := UsIn.to (fun b ha hb => ⟨ha.1, h.block b hb ha.2⟩) (hr.noMap h.map)
theorem UsAt.lw {m : Nat} {w w' : World} (h : Lw m w w') {r : Value} {l : List Us} (hu : UsAt w r l) : UsAt w' r l := by
 obtain ⟨ao, c, rfl, hc, hx⟩ := hu
 refine ⟨ao, c, rfl, hc, fun j hj => ?_⟩
 obtain ⟨b, o, rfl, hs⟩ := hx j hj
 exact ⟨b, o, rfl, h.cells hs⟩
theorem EsAt.lw {m : Nat} {w w' : World} (h : Lw m w w') {r : Value} {l : List Sh} (hu : EsAt w r l) : EsAt w' r l := by
 obtain ⟨ao, c, rfl, hc, hx⟩ := hu
 refine ⟨ao, c, rfl, hc, fun j hj => ?_⟩
 obtain ⟨b, o, rfl, hs⟩ := hx j hj
 exact ⟨b, o, rfl, h.cells hs⟩
theorem EeOk.lw {A : Nat → Prop} {m : Nat} {w w' : World} (h : Lw m w w') {q : Ee} (hq : EeOk A w q) : EeOk A w' q := ⟨hq.1.lw h, hq.2.lw h⟩
theorem EtAt.lw {m : Nat} {w w' : World} (h : Lw m w w') {r : Value} {qs : List Ee} (hq : EtAt w r qs) : EtAt w' r qs := ⟨hq.1.lw h, fun q k => (hq.2 q k).lw h⟩
theorem BoxAtv.set {w : World} {n : Nat} {cs : List Value} (h : BoxAtv w n cs) (j : Nat) (v : Value) : BoxAtv (w.setCell ⟨n, j, none⟩ v) n (cs.set j v) where
 cells := fun k u hk => by
  rw [Nat.zero_add]
  have hlt : k < cs.length := by have := (List.getElem?_eq_some_iff.1 hk).1; rwa [List.length_set] at this
  by_cases e : k = j
  ·subst e
   rw [List.getElem?_set_self hlt] at hk
   simp at hk
   subst hk
   have h0 := h.at k _ (List.getElem?_eq_getElem hlt)
   exact World.cell?_setCell_same' _ _ _ (by rw [h0]; rfl)
  ·rw [List.getElem?_set_ne (Ne.symm e)] at hk
   rw [World.cell?_setCell_other _ _ _ _ (by intro h; injection h with _ h; exact e h.symm)]
   exact h.at k u hk
 open' := fun o => by
  rw [World.frozen?_setCell]
  exact h.open' o
 lt := by
  have := h.lt
  have hs : (w.setCell ⟨n, j, none⟩ v).heap.size = w.heap.size := by simp
  rw [hs]; exact this
theorem BoxAtv.made {w W : World} {n : Nat} {cs : List Value} {C : Array Value} {t : TypeId} (h : W = w.alloc (.cells C t)) (hn : w.heap.size = n) (hC : C = cs.toArray) : BoxAtv W n cs := BoxAtv.new (C := C) (t := t) n (by rw [h]; exact Low.refl _) hC hn
theorem IsMap.block {w w' : World} {m : Nat} (h : IsMap w m) (e : w'.heap[m]? = w.heap[m]?) : IsMap w' m := by
 obtain ⟨es, cl, h⟩ := h
 exact ⟨es, cl, e.trans h⟩
theorem Lw.below {m B : Nat} {w a b : World} (h : Lw m w a) (k : RowKit.Below B a b) (hB : w.heap.size ≤ B) (hm : m < B) : Lw m w b :=
 ⟨k.os.trans h.os, k.output.trans h.out, Nat.le_trans h.size k.size, fun i hi hne => (k.block i (Nat.lt_of_lt_of_le hi hB)).trans (h.block i hi hne), h.map, h.map'.block (k.block m hm)⟩
theorem BoxAtv.below {w w' : World} {n B : Nat} {cs : List Value} (h : BoxAtv w n cs) (k : RowKit.Below B w w') (hn : n < B) : BoxAtv w' n cs where
 cells := fun j v hj => by
  have := h.cells j v hj
  rw [World.cell?_of_block (w := w) (w' := w') (a := ⟨n, 0 + j, none⟩) (k.block n hn)]
  exact this
 open' := fun o => by
  rw [World.frozen?_of_block (w := w) (w' := w') (a := ⟨n, o, none⟩) (k.block n hn)]
  exact h.open' o
 lt := Nat.lt_of_lt_of_le h.lt k.size
end Go.Proofs.YtnchohglplobeaaGreat
namespace Go.Proofs.YtnchohglplobeaaGreat
open Go.RowKit Go.Sort
theorem ownN_names {A : Nat → Prop} {B : Nat} {w : World} {v : Value} {l : List ByteArray} (h : OwnR 9 1 encN B w v l) (hs : ∀ x ∈ l, x.size ≤ 9223372036854775807) (hA : ∀ g, v.ownBlock = some g → A g) : NamesAt A w l v := by
 obtain ⟨ao, cap, rfl, h1, h2, h3⟩ := h.shape
 refine ⟨ao, cap, rfl, by omega, hs, ?_⟩
 rcases h3 with h0 | ⟨g, rfl, -, -⟩
 ·exact .inl h0
 ·refine .inr ⟨g, 0, rfl, hA g rfl, fun j hj => ?_⟩
  have := OwnR.cell encN_len h j 0 hj (by decide)
  rw [Nat.mul_one, Nat.add_zero] at this
  rw [Nat.zero_add, this]; rfl
theorem repF_elz {A : Nat → Prop} {w : World} {b : Nat} : ∀ {l : List V} {o : Nat}, RepF A w b o l → ∃ ps : List El, ps.map (·.v) = l ∧ (∀ p ∈ ps, ElOk A w p) ∧ ∀ j (hj : j < ps.length), CellsAtv w b (o + j * 8) (encVv ps[j])
 | [], _, _ => ⟨[], rfl, (fun p hp => by simp at hp), fun j hj => absurd hj (Nat.not_lt_zero _)⟩
 | x :: l, o, h => by
  rw [RepF] at h
  obtain ⟨⟨it, nm, hc, hr⟩, hf⟩ := h
  obtain ⟨ps, h1, h2, h3⟩ := repF_elz hf
  obtain ⟨ai, ci, an, cn, rfl, rfl⟩ := r_slices hr.any
  refine ⟨⟨x, ai, ci, an, cn⟩ :: ps, by rw [List.map_cons, h1], fun p hp => ?_, fun j hj => ?_⟩
  ·rcases List.mem_cons.1 hp with rfl | hp
   ·exact hr
   ·exact h2 p hp
  ·match j, hj with
   | 0, _ => rw [Nat.zero_mul, Nat.add_zero]; exact hc
   | j + 1, hj =>
    have := h3 j (by simpa using hj)
    rw [show o + (j + 1) * 8 = o + 8 + j * 8 by omega]; exact this
theorem flatV_holds {w : World} {b o : Nat} {l : List El} (h : ∀ j (hj : j < l.length), CellsAtv w b (o + j * 8) (encVv l[j])) (j : Nat) (u : Value) (hu : (l.flatMap encVv)[j]? = some u) : w.cell? ⟨b, o + j, none⟩ = some u := by
 have hj : j < l.length * 8 := by have := (List.getElem?_eq_some_iff.1 hu).1; rwa [flat_len encV_lenv] at this
 have hd : j / 8 < l.length := by omega
 have hm : j % 8 < 8 := Nat.mod_lt _ (by decide)
 have := flat_at encV_lenv l (j / 8) (j % 8) hd hm
 rw [show j / 8 * 8 + j % 8 = j by omega] at this
 rw [this] at hu
 have := h (j / 8) hd (j % 8) u hu
 rwa [show o + j / 8 * 8 + j % 8 = o + j by omega] at this
theorem flatN_holds {w : World} {b o : Nat} {l : List ByteArray} (h : ∀ j (hj : j < l.length), w.cell? ⟨b, o + j, none⟩ = some (.string l[j])) (j : Nat) (u : Value) (hu : (l.flatMap encN)[j]? = some u) : w.cell? ⟨b, o + j, none⟩ = some u := by
 have hj : j < l.length * 1 := by have := (List.getElem?_eq_some_iff.1 hu).1; rwa [flat_len encN_len] at this
 have := flat_at encN_len l j 0 (by omega) (by decide)
 rw [Nat.mul_one, Nat.add_zero] at this
 rw [this] at hu
 simp [encN] at hu
 rw [← hu]; exact h j (by omega)
theorem flat_onesh {α : Type} {enc : α → List Value} (h : ∀ x, ∀ u ∈ enc x, u.oneCell' = true) (l : List α) : ∀ u ∈ l.flatMap enc, u.oneCell' = true := fun u hu => by
 obtain ⟨x, _, hx⟩ := List.mem_flatMap.1 hu
 exact h x u hx
set_option maxRecDepth 100000 in
theorem cloneS_c (l : List ByteArray) (w : World) (v : Value) (hn : l.length ≤ 70000) (h : NamesAt (fun _ => True) w l v) : Calls Tryz.prog 219 #[v] w fun e w' => ∃ v', e = .returned v' ∧ OwnR 9 1 encN w.heap.size w' v' l ∧ Low w w' := by
 obtain ⟨ao, c, rfl, h1, h2, h3⟩ := h
 rcases Nat.eq_zero_or_pos l.length with h0 | h0
 ·obtain rfl := List.eq_nil_of_length_eq_zero h0
  clear h3
  simp only [List.length_nil]
  have q22 : ∀ (w : World) (a : Option Addr) (n c n' c' : Nat), (binOp .eql 25 (.slice a n c) (.slice none n' c')).run Tryz.prog w = .ok (.bool a.isNone) w := fun w a n c n' c' => Lib.run_eql_slice_nil w _ _ a n c n' c' Tryz.underlying25
  cases ao with
  | none =>
   go_enter Tryz.func219, Tryz.ntmps219
   go_wp2_with fail
   go_ret
   exact ⟨_, rfl, OwnR.nil _ _ _ _ _, Low.refl _⟩
  | some a =>
   go_enter Tryz.func219, Tryz.ntmps219
   go_wp2_with fail
   go_ret
   exact ⟨_, rfl, World.ownsRow_made w #[] 0 (Nat.le_refl _) (Nat.zero_le _) (by simp), (Low.alloc (Low.refl w) _)⟩
 ·rcases h3 with h3 | ⟨b, o, rfl, -, hc⟩
  ·rw [h3] at h0; exact absurd h0 (Nat.lt_irrefl _)
  obtain ⟨i0, hi, hz0, hz1, hz2⟩ := info_parts n_info
  have hcon := AnyE.slices_Clone Tryz.cloneS i0 _ 1 16 hi hz0 hz1 hz2 rfl (by decide) Tryz.sizeOf9 b o l.length c (l.flatMap encN) w (flat_len encN_len l) (by unfold maxLen; omega) (by omega) (fun j u hu => flatN_holds hc j u hu) (flat_onesh encN_one l)
  change Calls Tryz.prog 219 _ _ _ at hcon
  refine hcon.mono ?_
  rintro e w' ⟨v', rfl, hO, -, hB⟩
  exact ⟨_, rfl, hO, Low.of_below hB⟩
set_option maxRecDepth 100000 in
theorem cloneV_c {A : Nat → Prop} (l : List V) (w : World) (v : Value) (hn : l.length ≤ 70000) (h : RowAt A w l v) : Calls Tryz.prog 220 #[v] w fun e w' => ∃ v' ps, e = .returned v' ∧ ps.map (·.v) = l ∧ (∀ p ∈ ps, ElOk A w p) ∧ OwnVv w.heap.size w' v' ps ∧ Low w w' := by
 obtain ⟨ao, c, rfl, ⟨h1, h2⟩, h3⟩ := h
 rcases Nat.eq_zero_or_pos l.length with h0 | h0
 ·obtain rfl := List.eq_nil_of_length_eq_zero h0
  clear h3
  simp only [List.length_nil]
  have q22 : ∀ (w : World) (a : Option Addr) (n c n' c' : Nat), (binOp .eql 24 (.slice a n c) (.slice none n' c')).run Tryz.prog w = .ok (.bool a.isNone) w := fun w a n c n' c' => Lib.run_eql_slice_nil w _ _ a n c n' c' Tryz.underlying24
  cases ao with
  | none =>
   go_enter Tryz.func220, Tryz.ntmps220
   go_wp2_with fail
   go_ret
   exact ⟨_, [], rfl, rfl, (fun p hp => by simp at hp), OwnR.nil _ _ _ _ _, Low.refl _⟩
  | some a =>
   go_enter Tryz.func220, Tryz.ntmps220
   go_wp2_with fail
   go_ret
   exact ⟨_, [], rfl, rfl, (fun p hp => by simp at hp), World.ownsRow_made w #[] 0 (Nat.le_refl _) (Nat.zero_le _) (by simp), (Low.alloc (Low.refl w) _)⟩
 ·rcases h3 with h3 | ⟨b, o, rfl, -, hf⟩
  ·rw [h3] at h0; exact absurd h0 (Nat.lt_irrefl _)
  obtain ⟨ps, hp1, hp2, hp3⟩ := repF_elz hf
  have hl : ps.length = l.length := by rw [← hp1, List.length_map]
  obtain ⟨i0, hi, hz0, hz1, hz2⟩ := info_parts v_infov
  have hcon := AnyE.slices_Clone Tryz.cloneV i0 _ 8 120 hi hz0 hz1 hz2 rfl (by decide) Tryz.sizeOf27 b o l.length c (ps.flatMap encVv) w (by rw [flat_len encV_lenv, hl]) (by unfold maxLen; omega) (by omega) (fun j u hu => flatV_holds hp3 j u hu) (flat_onesh encV_onev ps)
  change Calls Tryz.prog 220 _ _ _ at hcon
  refine hcon.mono ?_
  rintro e w' ⟨v', rfl, hO, -, hB⟩
  rw [← hl] at hO
  exact ⟨_, ps, rfl, hp1, hp2, hO, Low.of_below hB⟩
end Go.Proofs.YtnchohglplobeaaGreat
namespace Go.Proofs.YtnchohglplobeaaGreat
open Go.RowKit Go.Sort
structure FreshV (B : Nat) (w : World) (p : El) : Prop where
 its : ∃ ps : List El, ps.map (·.v) = p.v.l ∧ OwnVv B w p.it ps ∧ ∀ x ∈ ps, ElOk (fun b => B ≤ b ∧ some b ≠ p.it.ownBlock) w x
 nms : OwnR 9 1 encN B w p.nm p.v.ns
 bh : Bh p.v.h
 sz : ∀ x ∈ p.v.ns, x.size ≤ 9223372036854775807
theorem FreshV.rep {B : Nat} {w : World} {p : El} (h : FreshV B w p) : ElOk (fun b => B ≤ b) w p := by
 refine rep_v.2 ⟨h.bh, ownN_names h.nms h.sz (fun g hg => (World.ownsRow.lt h.nms g hg).1), ?_⟩
 obtain ⟨ps, h1, h2, h3⟩ := h.its
 have := ownV_row (A' := fun b => B ≤ b) h2 h3 (fun b hb => hb.1) (fun g hg => (World.ownsRow.lt h2 g hg).1)
 rwa [h1] at this
theorem FreshV.to {B : Nat} {w w' : World} {p : El} (h : FreshV B w p) (hb : ∀ b, B ≤ b → b < w.heap.size → w'.heap[b]? = w.heap[b]?) : FreshV B w' p where
 its := by
  obtain ⟨ps, h1, h2, h3⟩ := h.its
  exact ⟨ps, h1, OwnR.to h2 fun g hg => hb g (World.ownsRow.lt h2 g hg).1 (World.ownsRow.lt h2 g hg).2, fun x hx => Rep.to (fun b ha hlt => ⟨ha, hb b ha.1 hlt⟩) _ (h3 x hx)⟩
 nms := h.nms.to fun g hg => hb g (World.ownsRow.lt h.nms g hg).1 (World.ownsRow.lt h.nms g hg).2
 bh := h.bh
 sz := h.sz
theorem FreshV.low {B : Nat} {w w' : World} {p : El} (h : FreshV B w p) (l : Low w w') : FreshV B w' p := h.to fun b _ hlt => l.2.2.2 b hlt
def CpyP (v : V) (w : World) (e : Ending) (w' : World) : Prop := ∃ ai ci an cn, e = .returned (.agg #[.int .i64 v.h.k, .bool v.h.b, .int .i64 v.h.n, .string v.h.s, .string v.h.t, .string v.h.i, .slice ai v.l.length ci, .slice an v.ns.length cn]) ∧ FreshV w.heap.size w' ⟨v, ai, ci, an, cn⟩ ∧ Low w w'
theorem BoxAtv.op8 {w : World} {n : Nat} {cs : List Value} (h : BoxAtv w n cs) :
  w.frozen? ⟨n, 0, none⟩ = false ∧ w.frozen? ⟨n, 1, none⟩ = false ∧ w.frozen? ⟨n, 2, none⟩ = false ∧ w.frozen? ⟨n, 3, none⟩ = false ∧ w.frozen? ⟨n, 4, none⟩ = false ∧ w.frozen? ⟨n, 5, none⟩ = false ∧ w.frozen? ⟨n, 6, none⟩ = false ∧ w.frozen? ⟨n, 7, none⟩ = false :=
 ⟨h.open' 0, h.open' 1, h.open' 2, h.open' 3, h.open' 4, h.open' 5, h.open' 6, h.open' 7⟩
set_option maxHeartbeats 4000000 in
set_option maxRecDepth 100000 in
theorem cpyV_c (n : Nat) : ∀ (v : V) (w : World) (it nm : Value), dep v ≤ n → R w v it nm → Smv v → Calls Tryz.prog 207 #[avv v.h it nm] w (CpyP v w) := by
 induction n with
 | zero => intro v w it nm h; rw [dep_v] at h; omega
 | succ n ih =>
  intro v w it nm hd hr hsm
  obtain ⟨ai, ci, an, cn, rfl, rfl⟩ := r_slices hr
  obtain ⟨hbh, hns, hrw⟩ := rep_v.1 hr
  obtain ⟨sm1, sm2, sm3⟩ := (sm_v v).1 hsm
  obtain ⟨U0, hU0⟩ : ∃ W, W = ((w.alloc (.cells #[.int .i64 v.h.k, .bool v.h.b, .int .i64 v.h.n, .string v.h.s, .string v.h.t, .string v.h.i, .slice ai v.l.length ci, .slice an v.ns.length cn] 27)).alloc (.cells #[.int .i64 0, .bool false, .int .i64 0, .string ⟨#[]⟩, .string ⟨#[]⟩, .string ⟨#[]⟩, .slice none 0 0, .slice none 0 0] 27)) := ⟨_, rfl⟩
  have HU0 := Lib.hid hU0
  have L0 := Lib.hid (show Low w U0 by rw [hU0]; exact Low.alloc (Low.alloc (Low.refl w) _) _)
  have HZ0 := Lib.hid (show U0.heap.size = w.heap.size + 1 + 1 by rw [hU0]; simp)
  have B0 := Lib.hid (show BoxAtv U0 w.heap.size [.int .i64 v.h.k, .bool v.h.b, .int .i64 v.h.n, .string v.h.s, .string v.h.t, .string v.h.i, .slice ai v.l.length ci, .slice an v.ns.length cn] from BoxAtv.low (BoxAtv.made (w := w) (W := (w.alloc (.cells #[.int .i64 v.h.k, .bool v.h.b, .int .i64 v.h.n, .string v.h.s, .string v.h.t, .string v.h.i, .slice ai v.l.length ci, .slice an v.ns.length cn] 27))) rfl rfl rfl) (show Low (w.alloc (.cells #[.int .i64 v.h.k, .bool v.h.b, .int .i64 v.h.n, .string v.h.s, .string v.h.t, .string v.h.i, .slice ai v.l.length ci, .slice an v.ns.length cn] 27)) U0 by rw [hU0]; exact Low.alloc (Low.refl _) _))
  have Z0 := Lib.hid (show BoxAtv U0 (w.heap.size + 1) [.int .i64 0, .bool false, .int .i64 0, .string ⟨#[]⟩, .string ⟨#[]⟩, .string ⟨#[]⟩, .slice none 0 0, .slice none 0 0] from BoxAtv.made hU0 (by simp) rfl)
  have CS := Lib.hid (cloneS_c v.ns U0 _ sm2 (hns.low L0.out))
  have HR := Lib.hid hrw
  have HI := Lib.hid ih
  have HD := Lib.hid hd
  have HSM := Lib.hid sm3
  have HBH := Lib.hid (And.intro hbh hns)
  clear hU0 hd hr hns hrw sm2 sm3 ih hsm hbh
  unfold avv
  go_enter Tryz.func207, Tryz.ntmps207
  go_upto_region 1 with fail
  rw [← HU0.out]
  have e6 := B0.out.at 7 _ rfl
  clear HU0
  go_wp2_with fail
  refine CS.out.mono ?_
  rintro e w1 ⟨v1, rfl, O1, L1⟩
  obtain ⟨an1, cn1, rfl, hc1, hc2, -⟩ := OwnR.shape O1
  have B1 := Lib.hid (B0.out.low L1)
  have Z1 := Lib.hid (Z0.out.low L1)
  have LL1 := Lib.hid (L0.out.trans L1)
  have HO1 := Lib.hid O1
  have HL1 := Lib.hid L1
  clear e6 CS O1 L1 hc1 hc2
  have e7 := B1.out.at 7 _ rfl
  have f7 := B1.out.open' 7
  obtain ⟨W1, hW1⟩ : ∃ W, W = w1.setCell ⟨w.heap.size, 7, none⟩ (.slice an1 v.ns.length cn1) := ⟨_, rfl⟩
  have HW1 := Lib.hid hW1
  have K1 := Lib.hid (show KeptButv w1 W1 (some w.heap.size) from hW1 ▸ kept_setCellv _ _ _ _)
  have B2 := Lib.hid (show BoxAtv W1 w.heap.size [.int .i64 v.h.k, .bool v.h.b, .int .i64 v.h.n, .string v.h.s, .string v.h.t, .string v.h.i, .slice ai v.l.length ci, .slice an1 v.ns.length cn1] from hW1 ▸ B1.out.set 7 _)
  have Z2 := Lib.hid (Z1.out.kept K1.out (by simp))
  have L2 := Lib.hid (LL1.out.kept K1.out fun g hg => by simp at hg; omega)
  have HS1 := Lib.hid (show w.heap.size + 1 + 1 ≤ W1.heap.size from by have h1 := HZ0.out; have h2 := HL1.out.size; have h3 := K1.out.2.2.1; omega)
  have HN1 := Lib.hid (show OwnR 9 1 encN U0.heap.size W1 (.slice an1 v.ns.length cn1) v.ns from HO1.out.to fun g hg => K1.out.2.2.2 g (World.ownsRow.lt HO1.out g hg).2 (by have := (World.ownsRow.lt HO1.out g hg).1; have := HZ0.out; simp; omega))
  have CV := Lib.hid (cloneV_c (A := fun b => b < w.heap.size) v.l W1 _ sm1 (RowAt.to (fun b _ hb => ⟨hb, L2.out.2.2.2 b hb⟩) HR.out))
  clear hW1 B1 Z1 LL1 K1
  go_upto_region 2 with fail
  rw [← HW1.out]
  clear HW1 e7 f7
  have e6 := B2.out.at 6 _ rfl
  go_wp2_with fail
  refine CV.out.mono ?_
  rintro e w2 ⟨v2, ps, rfl, hps, hok, O2, l2⟩
  have hpl : ps.length = v.l.length := by rw [← hps, List.length_map]
  obtain ⟨ai2, ci2, rfl, hc1, hc2, hg2⟩ := OwnR.shape O2
  rw [hpl] at O2 hc1 ⊢
  have B3 := Lib.hid (B2.out.low l2)
  have Z3 := Lib.hid (Z2.out.low l2)
  have LL3 := Lib.hid (L2.out.trans l2)
  have HO3 := Lib.hid O2
  have HN3 := Lib.hid (HN1.out.low l2)
  have HL3 := Lib.hid l2
  have HOK := Lib.hid (show ∀ p ∈ ps, ElOk (fun b => b < w.heap.size) w p from fun p hp => Rep.to (fun b ha _ => ⟨ha, (L2.out.2.2.2 b ha).symm⟩) _ (hok p hp))
  have HPS := Lib.hid hps
  clear e6 CV O2 l2 hok hps B2 Z2 L2
  have e6 := B3.out.at 6 _ rfl
  have f6 := B3.out.open' 6
  obtain ⟨W2, hW2⟩ : ∃ W, W = w2.setCell ⟨w.heap.size, 6, none⟩ (.slice ai2 v.l.length ci2) := ⟨_, rfl⟩
  have HW2 := Lib.hid hW2
  have K2 := Lib.hid (show KeptButv w2 W2 (some w.heap.size) from hW2 ▸ kept_setCellv _ _ _ _)
  have B4 := Lib.hid (show BoxAtv W2 w.heap.size [.int .i64 v.h.k, .bool v.h.b, .int .i64 v.h.n, .string v.h.s, .string v.h.t, .string v.h.i, .slice ai2 v.l.length ci2, .slice an1 v.ns.length cn1] from hW2 ▸ B3.out.set 6 _)
  have Z4 := Lib.hid (Z3.out.kept K2.out (by simp))
  have L4 := Lib.hid (LL3.out.kept K2.out fun g hg => by simp at hg; omega)
  have HOV := Lib.hid (show OwnVv w.heap.size W2 (.slice ai2 v.l.length ci2) ps from OwnR.base (OwnR.to HO3.out fun g hg => K2.out.2.2.2 g (World.ownsRow.lt HO3.out g hg).2 (by have := (World.ownsRow.lt HO3.out g hg).1; have := HS1.out; simp; omega)) (by have := HS1.out; omega))
  have HON := Lib.hid (show OwnR 9 1 encN (w.heap.size + 2) W2 (.slice an1 v.ns.length cn1) v.ns from OwnR.base (OwnR.to HN3.out fun g hg => K2.out.2.2.2 g (World.ownsRow.lt HN3.out g hg).2 (by have := (World.ownsRow.lt HN3.out g hg).1; have := HZ0.out; simp; omega)) (by have := HZ0.out; omega))
  have HG := Lib.hid (show ∀ g, (Value.slice ai2 v.l.length ci2).ownBlock = some g → w.heap.size + 1 < g ∧ (Value.slice an1 v.ns.length cn1).ownBlock ≠ some g from fun g hg => by
   have h1 := (World.ownsRow.lt HO3.out g hg).1
   refine ⟨by have := HS1.out; omega, fun e => ?_⟩
   have := (World.ownsRow.lt HN1.out g e).2
   omega)
  clear hW2 B3 Z3 LL3 K2 HO3 HN3 HN1 hg2
  go_upto_region 3 with fail
  rw [← HW2.out]
  clear HW2 e6 f6
  obtain ⟨N, hN⟩ : ∃ N, N = v.l.length := ⟨_, rfl⟩
  rw [← hN] at hpl B4 HOV HG hc1 ⊢
  have HNN := Lib.hid hN
  clear hN
  have e6 := B4.out.at 6 _ rfl
  go_wp2_with fail
  clear e6
  go_loopg [16] N (fun gk vi wr => ∃ (j : Nat) (cs : List El), vi = .int .i64 (j : Int) ∧ j ≤ N ∧ N - j ≤ gk ∧ cs.length = N ∧ Hid (Low w wr) ∧ Hid (BoxAtv wr w.heap.size [.int .i64 v.h.k, .bool v.h.b, .int .i64 v.h.n, .string v.h.s, .string v.h.t, .string v.h.i, .slice ai2 N ci2, .slice an1 v.ns.length cn1]) ∧ Hid (BoxAtv wr (w.heap.size + 1) [.int .i64 0, .bool false, .int .i64 0, .string ⟨#[]⟩, .string ⟨#[]⟩, .string ⟨#[]⟩, .slice none 0 0, .slice none 0 0]) ∧ Hid (OwnVv w.heap.size wr (.slice ai2 N ci2) cs) ∧ Hid (OwnR 9 1 encN (w.heap.size + 2) wr (.slice an1 v.ns.length cn1) v.ns) ∧ Hid (∀ k (hk : k < cs.length), k < j → ElOk (fun b => w.heap.size + 2 ≤ b ∧ some b ≠ (Value.slice ai2 N ci2).ownBlock) wr cs[k]) ∧ Hid (∀ k (hk : k < cs.length) (hk2 : k < ps.length), j ≤ k → cs[k] = ps[k]) ∧ Hid (cs.map (·.v) = v.l))
  case atStart => exact ⟨0, ps, rfl, Nat.zero_le _, Nat.le_refl _, hpl, L4, B4, Z4, HOV, HON, Lib.hid fun k hk h => absurd h (Nat.not_lt_zero _), Lib.hid fun k hk hk2 _ => rfl, HPS⟩
  case round =>
   clear L4 B4 Z4 HOV HON
   obtain ⟨j, cs, rfl, hj, hg, hcl, G, GB, GZ, O, ON, E, Q, M⟩ := hrel
   have e6 := GB.out.at 6 _ rfl
   by_cases hlt : j < N
   ·have zl : (j : Int) < (N : Int) := by omega
    obtain ⟨aox, cpx, hvx, -, -, hox⟩ := OwnR.shape O.out
    simp only [Value.slice.injEq] at hvx
    obtain ⟨rfl, -, rfl⟩ := hvx
    rcases hox with h0 | ⟨g, rfl, hgB, hgs⟩
    ·rw [h0] at hcl; simp at hcl; omega
    have hjc : j < cs.length := by omega
    have hjp : j < ps.length := by omega
    have hqe : cs[j] = ps[j] := Q.out j hjc hjp (Nat.le_refl _)
    obtain ⟨q, hq⟩ : ∃ q, q = cs[j] := ⟨_, rfl⟩
    have hcs : CellsAtv wr g (j * 8) (hdc q.v.h (.slice q.ai q.v.l.length q.ci) (.slice q.an q.v.ns.length q.cn)) := by rw [hq]; exact ownV_cells O.out hjc
    obtain ⟨d0, d1, d2, d3, d4, d5, d6, d7⟩ := cells8 hcs
    have hqm : q.v = v.l[j]'(by rw [← HNN.out]; exact hlt) := by
     have h1 : (cs.map (·.v))[j]? = v.l[j]? := by rw [M.out]
     have h2 : j < v.l.length := by rw [← HNN.out]; exact hlt
     simp [hjc, h2] at h1
     rw [hq]; exact h1
    have hqv : q.v ∈ v.l := by rw [hqm]; exact List.getElem_mem _
    have hqok : R wr q.v q.it q.nm := by
     rw [hq, hqe]
     exact (Rep.low (HOK.out ps[j] (List.getElem_mem hjp)) G.out).any
    obtain ⟨W5, hW5⟩ : ∃ W, W = wr.alloc (.cells #[.int .i64 q.v.h.k, .bool q.v.h.b, .int .i64 q.v.h.n, .string q.v.h.s, .string q.v.h.t, .string q.v.h.i, .slice q.ai q.v.l.length q.ci, .slice q.an q.v.ns.length q.cn] 27) := ⟨_, rfl⟩
    have HW5 := Lib.hid hW5
    have L5 := Lib.hid (show Low wr W5.drew by rw [hW5]; exact (Low.alloc (Low.refl wr) _).trans (Low.drewN _ 1))
    have BI := Lib.hid (show BoxAtv W5.drew wr.heap.size [.int .i64 q.v.h.k, .bool q.v.h.b, .int .i64 q.v.h.n, .string q.v.h.s, .string q.v.h.t, .string q.v.h.i, .slice q.ai q.v.l.length q.ci, .slice q.an q.v.ns.length q.cn] from BoxAtv.low (BoxAtv.made hW5 rfl rfl) (Low.drewN _ 1))
    have h2 : j < v.l.length := by rw [← HNN.out]; exact hlt
    have hdq : dep q.v ≤ n := by have h1 := HD.out; have h3 := dep_item h2; rw [← hqm] at h3; omega
    have hcon := HI.out q.v W5.drew q.it q.nm hdq (hqok.low L5.out) (HSM.out q.v hqv)
    have HC := Lib.hid hcon
    have HQM := Lib.hid hqm
    clear hcon hqm hqok hq hqe hqv hcs hW5 h2 hdq
    unfold avv El.it El.nm at HC
    go_upto_region 6 with fail
    rw [← HW5.out]
    clear HW5 e6 d0 d1 d2 d3 d4 d5 d6 d7
    have e6 := (GB.out.low L5.out).at 6 _ rfl
    obtain ⟨b0, b1, b2, b3, b4, b5, b6, b7⟩ := BI.out.at8
    go_wp2_with fail
    go_region_with (go_at_call 207; refine HC.out.mono ?_; rintro e w6 ⟨ai3, ci3, an3, cn3, rfl, hfr, l6⟩; have L6 := Lib.hid (L5.out.trans l6); have HFR := Lib.hid hfr; have GB6 := Lib.hid (GB.out.low L6.out); have O6 := Lib.hid (OwnR.low O.out L6.out); have e6 := GB6.out.at 6 _ rfl; obtain ⟨s0, s1, s2, s3, s4, s5, s6, s7⟩ := cells8 (show CellsAtv w6 g (j * 8) (hdc cs[j].v.h (.slice cs[j].ai cs[j].v.l.length cs[j].ci) (.slice cs[j].an cs[j].v.ns.length cs[j].cn)) from ownV_cells O6.out hjc); have f0 := OwnR.frozen O6.out (j * 8); have f1 := OwnR.frozen O6.out (j * 8 + 1); have f2 := OwnR.frozen O6.out (j * 8 + 2); have f3 := OwnR.frozen O6.out (j * 8 + 3); have f4 := OwnR.frozen O6.out (j * 8 + 4); have f5 := OwnR.frozen O6.out (j * 8 + 5); have f6 := OwnR.frozen O6.out (j * 8 + 6); have f7 := OwnR.frozen O6.out (j * 8 + 7); clear hfr l6 b0 b1 b2 b3 b4 b5 b6 b7)
    all_goals
     obtain ⟨O7, K7⟩ := stored8 (⟨q.v, ai3, ci3, an3, cn3⟩ : El) (show OwnVv w.heap.size w6 (.slice (some ⟨g, 0, none⟩) N ci2) cs from O6.out) hjc hcl.symm
     have HO7 := Lib.hid O7
     have HK7 := Lib.hid K7
     clear O7 K7 s0 s1 s2 s3 s4 s5 s6 s7 f0 f1 f2 f3 f4 f5 f6 f7 e6
     go_wp2_with fail
     go_roundg (N - (j + 1))
     case measure => omega
     case rel =>
      have hg1 := (HG.out g rfl).1
      have hg2 := (HG.out g rfl).2
      have hL := L5.out.size
      refine ⟨j + 1, cs.set j ⟨q.v, ai3, ci3, an3, cn3⟩, by go_num, by omega, by omega, by rw [List.length_set]; exact hcl, Lib.hid ((G.out.trans L6.out).kept HK7.out fun g' hg' => by simp at hg'; omega), Lib.hid (GB6.out.kept HK7.out (by simp; omega)), Lib.hid ((GZ.out.low L6.out).kept HK7.out (by simp; omega)), HO7, Lib.hid (OwnR.to (OwnR.low ON.out L6.out) fun h hh => HK7.out.2.2.2 h (World.ownsRow.lt (OwnR.low ON.out L6.out) h hh).2 (fun e => hg2 (by rw [hh]; exact e))), Lib.hid fun k hk hkj => ?_, Lib.hid fun k hk hk2 hjk => ?_, Lib.hid ?_⟩
      ·have hk' : k < cs.length := by rwa [List.length_set] at hk
       by_cases e : k = j
       ·subst e
        rw [List.getElem_set_self]
        exact Rep.to (fun b hb hlt => ⟨⟨by have := GZ.out.lt; omega, by simp [Value.ownBlock]; omega⟩, HK7.out.2.2.2 b hlt (by simp; omega)⟩) _ HFR.out.rep
       ·rw [List.getElem_set_ne (Ne.symm e)]
        exact Rep.to (fun b hb hlt => ⟨hb, HK7.out.2.2.2 b hlt hb.2⟩) _ (Rep.low (E.out k hk' (by omega)) L6.out)
      ·rw [List.getElem_set_ne (by omega)]
       exact Q.out k (by rwa [List.length_set] at hk) hk2 (by omega)
      ·rw [List.map_set, M.out, HQM.out, List.set_getElem_self]
   ·have zl : ¬ (j : Int) < (N : Int) := by omega
    obtain rfl : j = N := by omega
    obtain ⟨b0, b1, b2, b3, b4, b5, b6, b7⟩ := GB.out.at8
    obtain ⟨c0, c1, c2, c3, c4, c5, c6, c7⟩ := GZ.out.at8
    obtain ⟨f0, f1, f2, f3, f4, f5, f6, f7⟩ := GZ.out.op8
    clear e6
    go_wp2_with fail
    have hNN := HNN.out
    refine bodyPost_ret (v := .agg #[.int .i64 v.h.k, .bool v.h.b, .int .i64 v.h.n, .string v.h.s, .string v.h.t, .string v.h.i, .slice ai2 v.l.length ci2, .slice an1 v.ns.length cn1]) (by rw [← hNN]; simp [results, Tryz.results207, go_sem, World.cell?_setCell_same', c0, c1, c2, c3, c4, c5, c6, c7]; try rfl) rfl ?_
    have K8 := kept8 wr (w.heap.size + 1) (.int .i64 v.h.k) (.bool v.h.b) (.int .i64 v.h.n) (.string v.h.s) (.string v.h.t) (.string v.h.i) (.slice ai2 j ci2) (.slice an1 v.ns.length cn1)
    refine ⟨ai2, ci2, an1, cn1, rfl, ⟨⟨cs, M.out, ?_, fun x hx => ?_⟩, ?_, HBH.out.1, HBH.out.2.choose_spec.choose_spec.2.2.1⟩, low_allv G.out (Nat.le_succ _) K8⟩
    ·show OwnVv _ _ (.slice ai2 v.l.length ci2) cs
     rw [← hNN]
     exact OwnR.to O.out fun g hg => K8.2.2.2 g (World.ownsRow.lt O.out g hg).2 (by have := (HG.out g hg).1; simp; omega)
    ·obtain ⟨k, hk, rfl⟩ := List.getElem_of_mem hx
     show ElOk (fun b => w.heap.size ≤ b ∧ some b ≠ (Value.slice ai2 v.l.length ci2).ownBlock) _ _
     rw [← hNN]
     exact Rep.to (fun b hb hlt => ⟨⟨by omega, hb.2⟩, K8.2.2.2 b hlt (by simp; omega)⟩) _ (E.out k hk (by omega))
    ·exact OwnR.base (OwnR.to ON.out fun g hg => K8.2.2.2 g (World.ownsRow.lt ON.out g hg).2 (by have := (World.ownsRow.lt ON.out g hg).1; simp; omega)) (Nat.le_add_right _ 2)
end Go.Proofs.YtnchohglplobeaaGreat
namespace Go.Proofs.YtnchohglplobeaaGreat
theorem dptL_same {l m : List V} (h : ∀ z, z ∈ l ↔ z ∈ m) : dptL l = dptL m :=
 Nat.le_antisymm (dptL_le.2 fun x hx => (dptL_le.1 (Nat.le_refl _)) x ((h x).1 hx)) (dptL_le.2 fun x hx => (dptL_le.1 (Nat.le_refl _)) x ((h x).2 hx))
theorem dptL_map {f : V → V} : ∀ {l : List V}, (∀ x ∈ l, dptv (f x) = dptv x) → dptL (l.map f) = dptL l
 | [], _ => rfl
 | x :: l, h => by rw [List.map_cons, dptL, dptL, h x (by simp), dptL_map fun y hy => h y (by simp [hy])]
theorem dpt_one {k : Int} {h : Hd} (hk : h.k = k) (h5 : k ≠ 5) (h6 : k ≠ 6) (l : List V) (ns : List ByteArray) : dptv (.mk h l ns) = 1 := by
 rw [dptv, if_neg (by omega)]
theorem dpt_up {h : Hd} (hk : h.k = 5 ∨ h.k = 6) (l : List V) (ns : List ByteArray) : dptv (.mk h l ns) = dptL l + 1 := by
 rw [dptv, if_pos hk]
theorem zip_only {ns : List ByteArray} {m : List V} (hn : ns.Nodup) {y x : ByteArray × V} (hy : y ∈ ns.zip m) (hx : x ∈ ns.zip m) (h : cmpP y x = 0) : y = x := by
 have h1 : y.1 = x.1 := cmpT_zero h
 obtain ⟨i, hi, rfl⟩ := List.getElem_of_mem hy
 obtain ⟨j, hj, rfl⟩ := List.getElem_of_mem hx
 simp only [List.getElem_zip] at h1 ⊢
 have hi' : i < ns.length := by simp at hi; omega
 have hj' : j < ns.length := by simp at hj; omega
 have hij : i = j := (List.getElem_inj (h₀ := hi') (h₁ := hj') hn).1 h1
 subst hij
 rfl
theorem recC_mem {ns : List ByteArray} {m : List V} (hn : ns.Nodup) (z : ByteArray × V) : z ∈ uniq cmpP (ns.zip m) ↔ z ∈ ns.zip m :=
 mem_uniq (S := fun p => p ∈ ns.zip m) (good_pair.mono fun _ _ => trivial) (fun _ _ hy hx h => zip_only hn hy hx h) fun _ h => h
theorem recC_items {ns : List ByteArray} {m : List V} (hn : ns.Nodup) (hl : ns.length = m.length) (z : V) : z ∈ (uniq cmpP (ns.zip m)).map (·.2) ↔ z ∈ m := by
 rw [List.mem_map]
 constructor
 ·rintro ⟨p, hp, rfl⟩
  exact mem_zip_snd ((recC_mem hn p).1 hp)
 ·intro hz
  obtain ⟨i, hi, rfl⟩ := List.getElem_of_mem hz
  refine ⟨(ns[i]'(by omega), m[i]), (recC_mem hn _).2 ?_, rfl⟩
  rw [List.mem_iff_getElem]
  exact ⟨i, by simp; omega, by simp⟩
theorem dpt_can_n (n : Nat) : ∀ v : V, dep v ≤ n → (can v).1 = 0 → dptv (can v).2 = dptv v := by
 induction n with
 | zero => intro v h; rw [dep_v] at h; omega
 | succ n ih =>
  intro v hd h
  have hI : (canL v.l).1 = 0 → dptL (canL v.l).2 = dptL v.l ∧ ∀ x ∈ (canL v.l).2, Cn x := fun h0 => by
   obtain ⟨h1, h2⟩ := canL_ok h0
   rw [h2]
   refine ⟨dptL_map fun x hx => ih x (by have := dep_mem hx; rw [dep_v] at hd; omega) (h1 x hx), fun x hx => ?_⟩
   obtain ⟨y, hy, rfl⟩ := List.mem_map.1 hx
   exact can_cn (h1 y hy)
  have up : v.h.k = 5 ∨ v.h.k = 6 → dptv v = dptL v.l + 1 := fun h => by rw [dpt_v]; unfold V.nest; rw [if_pos h]
  have one : ∀ k : Int, v.h.k = k → k ≠ 5 → k ≠ 6 → dptv v = 1 := fun k hk h5 h6 => by rw [v.eta]; exact dpt_one hk h5 h6 _ _
  rw [can_v] at h ⊢
  by_cases k1 : v.h.k = 1
  ·rw [if_pos k1, one 1 k1 (by decide) (by decide), dpt_one (k := 1) rfl (by decide) (by decide)]
  rw [if_neg k1] at h ⊢
  by_cases k2 : v.h.k = 2
  ·rw [if_pos k2, one 2 k2 (by decide) (by decide), dpt_one (k := 2) rfl (by decide) (by decide)]
  rw [if_neg k2] at h ⊢
  by_cases k3 : v.h.k = 3
  ·rw [if_pos k3, one 3 k3 (by decide) (by decide), dpt_one (k := 3) rfl (by decide) (by decide)]
  rw [if_neg k3] at h ⊢
  by_cases k4 : v.h.k = 4
  ·rw [if_pos k4, one 4 k4 (by decide) (by decide), dpt_one (k := 4) rfl (by decide) (by decide)]
  rw [if_neg k4] at h ⊢
  by_cases k5 : v.h.k = 5
  ·rw [if_pos k5] at h ⊢
   by_cases h0 : (canL v.l).1 = 0
   ·obtain ⟨e1, e2⟩ := hI h0
    rw [if_pos h0, up (.inl k5)]
    rw [dpt_up (.inl rfl)]
    rw [dptL_same fun z => mem_uniq good_cn (fun y x hy hx h => ord_zero hy hx h) e2]
    rw [e1]
   ·rw [if_neg h0] at h; exact absurd h h0
  rw [if_neg k5] at h ⊢
  by_cases k6 : v.h.k = 6
  ·rw [if_pos k6] at h ⊢
   by_cases hl : v.ns.length = v.l.length
   ·rw [if_pos hl] at h ⊢
    by_cases h0 : (canL v.l).1 = 0
    ·obtain ⟨e1, e2⟩ := hI h0
     rw [if_pos h0] at h ⊢
     unfold recC at h ⊢
     by_cases hn : v.ns.Nodup
     ·rw [if_pos hn, up (.inr k6)]
      rw [dpt_up (.inr rfl)]
      rw [dptL_same fun z => recC_items hn (by have := canL_len h0; omega) z]
      rw [e1]
     ·rw [if_neg hn] at h; simp at h
    ·rw [if_neg h0] at h; exact absurd h h0
   ·rw [if_neg hl] at h; simp at h
  ·rw [if_neg k6] at h; simp at h
theorem dpt_can {v : V} (h : (can v).1 = 0) : dptv (can v).2 = dptv v := dpt_can_n (dep v) v (Nat.le_refl _) h
end Go.Proofs.YtnchohglplobeaaGreat
namespace Go.Proofs.YtnchohglplobeaaGreat
def B1 (x : Int) : Prop := x = -1 ∨ x = 0 ∨ x = 1
theorem ins_len {α : Type} {c : α → α → Int} {x : α} : ∀ l : List α, (ins c x l).length ≤ l.length + 1
 | [] => by simp [ins]
 | y :: l => by
  have := ins_len (c := c) (x := x) l
  rw [ins]
  split
  ·simp only [List.length_cons]; omega
  ·split
   ·simp only [List.length_cons]; omega
   ·simp
theorem uniq_len {α : Type} {c : α → α → Int} (l : List α) : (uniq c l).length ≤ l.length := by
 have gen : ∀ (l acc : List α), (l.foldl (fun acc x => ins c x acc) acc).length ≤ l.length + acc.length := by
  intro l
  induction l with
  | nil => intro acc; simp
  | cons x l ih =>
   intro acc
   have h1 := ih (ins c x acc)
   have h2 := ins_len (c := c) (x := x) acc
   simp only [List.foldl_cons, List.length_cons]
   omega
 have h := gen l []
 rw [List.length_nil, Nat.add_zero] at h
 exact h
theorem uniq_self {α : Type} {c : α → α → Int} {S : α → Prop} (g : Good c S) (hE : ∀ y x, S y → S x → c y x = 0 → y = x) {l : List α} (h : ∀ x ∈ l, S x) (hr : Rises c l) : uniq c l = l :=
 rises_unique g (fun x hx => h x ((mem_uniq g hE h).1 hx)) h (uniq_rises g hE h) hr fun _ => mem_uniq g hE h
theorem cn_only : ∀ y x : V, Cn y → Cn x → ord y x = 0 → y = x := fun _ _ hy hx h => ord_zero hy hx h
theorem can_set {h : Hd} (hk : h.k = 5) {l : List V} {ns : List ByteArray} (hn : l.length ≤ 4096) (hl : ∀ x ∈ l, (can x).1 = 0) : can (.mk h l ns) = (0, .mk { hd0 with k := 5 } (uniq ord (l.map fun x => (can x).2)) []) := by
 have e : (V.mk h l ns).h.k = 5 := hk
 have el : (V.mk h l ns).l = l := rfl
 rw [can_v, e, el, if_neg (by decide), if_neg (by decide), if_neg (by decide), if_neg (by decide), if_pos rfl, canL_of hn hl, if_pos rfl]
theorem can_twice_n (n : Nat) : ∀ v : V, dep v ≤ n → (can v).1 = 0 → can (can v).2 = (0, (can v).2) ∧ (Smv v → Smv (can v).2) := by
 induction n with
 | zero => intro v h; rw [dep_v] at h; omega
 | succ n ih =>
  intro v hd h
  have hI : (canL v.l).1 = 0 → (∀ x ∈ (canL v.l).2, Cn x ∧ can x = (0, x)) ∧ ((∀ x ∈ v.l, Smv x) → ∀ x ∈ (canL v.l).2, Smv x) := fun h0 => by
   obtain ⟨h1, h2⟩ := canL_ok h0
   rw [h2]
   have key : ∀ y ∈ v.l, can (can y).2 = (0, (can y).2) ∧ (Smv y → Smv (can y).2) := fun y hy => ih y (by have := dep_mem hy; rw [dep_v] at hd; omega) (h1 y hy)
   refine ⟨fun x hx => ?_, fun hs x hx => ?_⟩
   ·obtain ⟨y, hy, rfl⟩ := List.mem_map.1 hx
    exact ⟨can_cn (h1 y hy), (key y hy).1⟩
   ·obtain ⟨y, hy, rfl⟩ := List.mem_map.1 hx
    exact (key y hy).2 (hs y hy)
  have smp : ∀ h : Hd, Smv (.mk h [] []) := fun h => by rw [sm_v]; simp [V.l, V.ns]
  rw [can_v v] at h ⊢
  by_cases k1 : v.h.k = 1
  ·rw [if_pos k1]; exact ⟨rfl, fun _ => smp _⟩
  rw [if_neg k1] at h ⊢
  by_cases k2 : v.h.k = 2
  ·rw [if_pos k2]; exact ⟨rfl, fun _ => smp _⟩
  rw [if_neg k2] at h ⊢
  by_cases k3 : v.h.k = 3
  ·rw [if_pos k3]; exact ⟨rfl, fun _ => smp _⟩
  rw [if_neg k3] at h ⊢
  by_cases k4 : v.h.k = 4
  ·rw [if_pos k4]; exact ⟨rfl, fun _ => smp _⟩
  rw [if_neg k4] at h ⊢
  by_cases k5 : v.h.k = 5
  ·rw [if_pos k5] at h ⊢
   by_cases h0 : (canL v.l).1 = 0
   ·obtain ⟨e1, e2⟩ := hI h0
    have e3 : ∀ x ∈ (canL v.l).2, Cn x := fun x hx => (e1 x hx).1
    have hm : ∀ x ∈ uniq ord (canL v.l).2, Cn x ∧ can x = (0, x) := fun x hx => e1 x (uniq_sub hx)
    rw [if_pos h0]
    refine ⟨?_, fun hs => ?_⟩
    ·show can (.mk _ _ _) = (0, .mk _ _ _)
     rw [can_set rfl (by have := uniq_len (c := ord) (canL v.l).2; have := canL_len h0; have := canL_le h0; omega) fun x hx => by rw [(hm x hx).2]]
     have : (uniq ord (canL v.l).2).map (fun x => (can x).2) = uniq ord (canL v.l).2 := by
      conv => rhs; rw [← List.map_id (uniq ord (canL v.l).2)]
      exact List.map_congr_left fun x hx => by rw [(hm x hx).2]; rfl
     rw [this, uniq_self good_cn cn_only (fun x hx => (hm x hx).1) (uniq_rises good_cn cn_only e3)]
    ·rw [sm_v] at hs ⊢
     have := uniq_len (c := ord) (canL v.l).2
     have := canL_len h0
     exact ⟨by show (uniq ord (canL v.l).2).length ≤ 70000; omega, Nat.zero_le _, fun x hx => e2 hs.2.2 x (uniq_sub hx)⟩
   ·rw [if_neg h0] at h; exact absurd h h0
  rw [if_neg k5] at h ⊢
  by_cases k6 : v.h.k = 6
  ·rw [if_pos k6] at h ⊢
   by_cases hl : v.ns.length = v.l.length
   ·rw [if_pos hl] at h ⊢
    by_cases h0 : (canL v.l).1 = 0
    ·obtain ⟨e1, e2⟩ := hI h0
     rw [if_pos h0] at h ⊢
     have hn : v.ns.Nodup := by
      unfold recC at h
      by_cases hn : v.ns.Nodup
      ·exact hn
      ·rw [if_neg hn] at h; simp at h
     unfold recC
     rw [if_pos hn]
     obtain ⟨u, hu⟩ : ∃ u, u = uniq cmpP (v.ns.zip (canL v.l).2) := ⟨_, rfl⟩
     have hz : ∀ p, p ∈ u ↔ p ∈ v.ns.zip (canL v.l).2 := fun p => by rw [hu]; exact recC_mem hn p
     have gz : Good cmpP fun p => p ∈ v.ns.zip (canL v.l).2 := good_pair.mono fun _ _ => trivial
     have hr : Rises cmpP u := by rw [hu]; exact uniq_rises gz (fun _ _ hy hx h => zip_only hn hy hx h) fun _ h => h
     have hnu : (u.map (·.1)).Nodup := rises_nodup (by unfold Rises at hr ⊢; rw [List.pairwise_map]; exact hr)
     have hlen : u.length ≤ v.l.length := by
      rw [hu]
      have h1 := uniq_len (c := cmpP) (v.ns.zip (canL v.l).2)
      have h2 := canL_len h0
      rw [List.length_zip] at h1
      omega
     have hm : ∀ x ∈ u.map (·.2), Cn x ∧ can x = (0, x) := fun x hx => by
      obtain ⟨p, hp, rfl⟩ := List.mem_map.1 hx
      exact e1 _ (mem_zip_snd ((hz p).1 hp))
     rw [← hu]
     refine ⟨?_, fun hs => ?_⟩
     ·show can (.mk _ _ _) = (0, .mk _ _ _)
      have f1 : ∀ (A : List V) (B : List ByteArray), (V.mk { hd0 with k := 6 } A B).h.k = 6 := fun _ _ => rfl
      have f2 : ∀ (A : List V) (B : List ByteArray), (V.mk { hd0 with k := 6 } A B).l = A := fun _ _ => rfl
      have f3 : ∀ (A : List V) (B : List ByteArray), (V.mk { hd0 with k := 6 } A B).ns = B := fun _ _ => rfl
      rw [can_v, f1, f2, f3, if_neg (by decide), if_neg (by decide), if_neg (by decide), if_neg (by decide), if_neg (by decide), if_pos rfl, if_pos (by simp), canL_of (by rw [List.length_map]; have := canL_le h0; omega) fun x hx => by rw [(hm x hx).2]]
      rw [if_pos rfl]
      have e4 : (u.map (·.2)).map (fun x => (can x).2) = u.map (·.2) := by
       conv => rhs; rw [← List.map_id (u.map (·.2))]
       exact List.map_congr_left fun x hx => by rw [(hm x hx).2]; rfl
      have e5 : (u.map (·.1)).zip (u.map (·.2)) = u := by
       rw [List.zip_map']
       exact List.map_id u
      unfold recC
      rw [if_pos hnu]
      simp only [e4, e5]
      rw [uniq_self (S := fun p => p ∈ u) (good_pair.mono fun _ _ => trivial) (fun y x hy hx h => zip_only hn ((hz y).1 hy) ((hz x).1 hx) h) (fun _ h => h) hr]
     ·rw [sm_v] at hs ⊢
      exact ⟨by show (u.map (·.2)).length ≤ 70000; simp; omega, by show (u.map (·.1)).length ≤ 70000; simp; omega, fun x hx => by
       obtain ⟨p, hp, rfl⟩ := List.mem_map.1 hx
       exact e2 hs.2.2 _ (mem_zip_snd ((hz p).1 hp))⟩
    ·rw [if_neg h0] at h; exact absurd h h0
   ·rw [if_neg hl] at h; simp at h
  ·rw [if_neg k6] at h; simp at h
theorem sm_can {v : V} (h : (can v).1 = 0) (hs : Smv v) : Smv (can v).2 := (can_twice_n (dep v) v (Nat.le_refl _) h).2 hs
theorem canD_ok {v : V} (h : (canD v).1 = 0) : canD v = can v ∧ ¬ 50 < dptv v := by
 unfold canD at h ⊢
 by_cases h1 : 50 < dptv v
 ·rw [if_pos h1] at h; simp at h
 ·rw [if_neg h1]; exact ⟨rfl, h1⟩
theorem canD_cn {v : V} (h : (canD v).1 = 0) : Cn (canD v).2 := by
 have e := (canD_ok h).1
 rw [e] at h ⊢
 exact can_cn h
theorem canD_sm {v : V} (h : (canD v).1 = 0) (hs : Smv v) : Smv (canD v).2 := by
 have e := (canD_ok h).1
 rw [e] at h ⊢
 exact sm_can h hs
end Go.Proofs.YtnchohglplobeaaGreat
namespace Go.Proofs.YtnchohglplobeaaGreat
open Go.RowKit Go.Sort
def OutAt (w : World) (r : Nat) (h : Hd) (a b : Value) : Prop := (r < w.heap.size ∧ CellsAtv w r 0 (hdc h a b)) ∧ ∀ o, w.frozen? ⟨r, o, none⟩ = false
theorem OutAt.kept {w w' : World} {r : Nat} {h0 : Hd} {a b : Value} {x : Option Nat} (h : OutAt w r h0 a b) (k : KeptButv w w' x) (hr : some r ≠ x) : OutAt w' r h0 a b :=
 ⟨⟨Nat.lt_of_lt_of_le h.1.1 k.2.2.1, fun j v hv => k.cellAt (h.1.2 j v hv) hr⟩, fun o => k.frozenAt (h.2 o) h.1.1 hr⟩
theorem OutAt.low {w w' : World} {r : Nat} {h0 : Hd} {a b : Value} (h : OutAt w r h0 a b) (k : Low w w') : OutAt w' r h0 a b := h.kept (KeptButv.of_low (r := none) k) (by simp)
theorem OutAt.facts {w : World} {r : Nat} {h0 : Hd} {a b : Value} (h : OutAt w r h0 a b) : (w.cell? ⟨r, 0, none⟩ = some (.int .i64 h0.k) ∧ w.cell? ⟨r, 1, none⟩ = some (.bool h0.b) ∧ w.cell? ⟨r, 2, none⟩ = some (.int .i64 h0.n) ∧ w.cell? ⟨r, 3, none⟩ = some (.string h0.s) ∧
  w.cell? ⟨r, 4, none⟩ = some (.string h0.t) ∧ w.cell? ⟨r, 5, none⟩ = some (.string h0.i) ∧ w.cell? ⟨r, 6, none⟩ = some a ∧ w.cell? ⟨r, 7, none⟩ = some b) ∧ w.frozen? ⟨r, 6, none⟩ = false ∧ w.frozen? ⟨r, 7, none⟩ = false := by
 have h8 := cells8 h.1.2
 simp only [Nat.zero_add] at h8
 exact ⟨h8, h.2 6, h.2 7⟩
theorem OutAt.names {w : World} {r : Nat} {h0 : Hd} {a b : Value} (h : OutAt w r h0 a b) (c : Value) : OutAt (w.setCell ⟨r, 7, none⟩ c) r h0 a c := by
 refine ⟨⟨by simpa using h.1.1, fun j v hv => ?_⟩, fun o => by rw [World.frozen?_setCell]; exact h.2 o⟩
 have hj : j < 8 := by have := (List.getElem?_eq_some_iff.1 hv).1; simpa [hdc] using this
 rw [Nat.zero_add]
 by_cases h7 : j = 7
 ·subst h7
  have : v = c := by simpa [hdc] using hv.symm
  subst this
  have hb : (w.cell? ⟨r, 7, none⟩).isSome = true := by rw [h.facts.1.2.2.2.2.2.2.2]; rfl
  exact World.cell?_setCell_same' _ _ _ hb
 ·rw [World.cell?_setCell_other _ _ _ _ (by first | (simp; done) | (simp; omega))]
  have := h.1.2 j v (by
   match j, hj, h7 with
   | 0, _, _ => exact hv
   | 1, _, _ => exact hv
   | 2, _, _ => exact hv
   | 3, _, _ => exact hv
   | 4, _, _ => exact hv
   | 5, _, _ => exact hv
   | 6, _, _ => exact hv
   | 7, _, h => exact absurd rfl h)
  rwa [Nat.zero_add] at this
theorem OutAt.items {w : World} {r : Nat} {h0 : Hd} {a b : Value} (h : OutAt w r h0 a b) (c : Value) : OutAt (w.setCell ⟨r, 6, none⟩ c) r h0 c b := by
 refine ⟨⟨by simpa using h.1.1, fun j v hv => ?_⟩, fun o => by rw [World.frozen?_setCell]; exact h.2 o⟩
 have hj : j < 8 := by have := (List.getElem?_eq_some_iff.1 hv).1; simpa [hdc] using this
 rw [Nat.zero_add]
 by_cases h7 : j = 6
 ·subst h7
  have : v = c := by simpa [hdc] using hv.symm
  subst this
  have hb : (w.cell? ⟨r, 6, none⟩).isSome = true := by rw [h.facts.1.2.2.2.2.2.2.1]; rfl
  exact World.cell?_setCell_same' _ _ _ hb
 ·rw [World.cell?_setCell_other _ _ _ _ (by first | (simp; done) | (simp; omega))]
  have := h.1.2 j v (by
   match j, hj, h7 with
   | 0, _, _ => exact hv
   | 1, _, _ => exact hv
   | 2, _, _ => exact hv
   | 3, _, _ => exact hv
   | 4, _, _ => exact hv
   | 5, _, _ => exact hv
   | 6, _, h => exact absurd rfl h
   | 7, _, _ => exact hv)
  rwa [Nat.zero_add] at this
structure OutSt (w W : World) (v : V) (vi vn lv : Value) (ps : List El) (k : Int) (a b : Value) (xs : List El) (ys : List ByteArray) : Prop where
 box : CellsAtv W w.heap.size 0 (hdc v.h vi vn)
 res : Res W (w.heap.size + 1)
 out : OutAt W (w.heap.size + 2) { hd0 with k := k } a b
 lrow : OwnVv (w.heap.size + 3) W lv ps
 lels : ∀ p ∈ ps, ElOk (fun c => w.heap.size + 3 ≤ c) W p
 its : OwnVv (w.heap.size + 3) W a xs
 nms : OwnR 9 1 encN (w.heap.size + 3) W b ys
 sub : ∀ p ∈ xs, p ∈ ps
 low : Low w W
theorem OutSt.grow {w W W' : World} {v : V} {vi vn lv : Value} {ps : List El} {k : Int} {a b : Value} {xs : List El} {ys : List ByteArray} (h : OutSt w W v vi vn lv ps k a b xs ys) (l : Low W W') : OutSt w W' v vi vn lv ps k a b xs ys :=
 ⟨l.cells h.box, h.res.low l, h.out.low l, OwnR.low h.lrow l, fun p hp => Rep.low (h.lels p hp) l, OwnR.low h.its l, OwnR.low h.nms l, h.sub, h.low.trans l⟩
theorem OutSt.put {w W W' : World} {v : V} {vi vn lv : Value} {ps : List El} {k : Int} {a b a' b' : Value} {xs xs' : List El} {ys ys' : List ByteArray} (h : OutSt w W v vi vn lv ps k a b xs ys) (K : KeptButv W W' (some (w.heap.size + 2)))
  (ho : OutAt W' (w.heap.size + 2) { hd0 with k := k } a' b') (hi : OwnVv (w.heap.size + 3) W a' xs') (hn : OwnR 9 1 encN (w.heap.size + 3) W b' ys') (hs : ∀ p ∈ xs', p ∈ ps) : OutSt w W' v vi vn lv ps k a' b' xs' ys' := by
 have own : ∀ {α : Type} {e : TypeId} {q : Nat} {enc : α → List Value} {u : Value} {l : List α}, OwnR e q enc (w.heap.size + 3) W u l → OwnR e q enc (w.heap.size + 3) W' u l := fun ho => ho.to fun g hg => K.2.2.2 g (World.ownsRow.lt ho g hg).2 (by have := (World.ownsRow.lt ho g hg).1; simp; omega)
 refine ⟨fun j u hu => K.cellAt (h.box j u hu) (by simp), h.res.kept K (by simp), ho, own h.lrow, fun p hp => Rep.to (fun c hc hb => ⟨hc, K.2.2.2 c hb (by simp; omega)⟩) _ (h.lels p hp), own hi, own hn, hs, h.low.kept K fun g hg => by simp at hg; omega⟩
theorem OutSt.boxes {w W : World} {v : V} {vi vn lv : Value} {ps : List El} {k : Int} {a b : Value} {xs : List El} {ys : List ByteArray} (h : OutSt w W v vi vn lv ps k a b xs ys) :
  W.cell? ⟨w.heap.size, 0, none⟩ = some (.int .i64 v.h.k) ∧ W.cell? ⟨w.heap.size, 6, none⟩ = some vi ∧ W.cell? ⟨w.heap.size, 7, none⟩ = some vn := by
 have h8 := cells8 h.box
 simp only [Nat.zero_add] at h8
 exact ⟨h8.1, h8.2.2.2.2.2.2.1, h8.2.2.2.2.2.2.2⟩
end Go.Proofs.YtnchohglplobeaaGreat
