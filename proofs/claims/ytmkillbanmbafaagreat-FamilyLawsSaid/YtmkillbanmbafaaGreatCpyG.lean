/- slices.Clone at texts and at values: the same row in new memory. Condition: not too many. family.copiedValue: a value in new memory. Condition: its rows are short. family.copied: an entity in new memory. Condition: its rows are short. family.Store.Get: the entity of a name, in new memory; whether there is one. Condition: the store is of a list as it must be. family.Store.All: all entities, rising, in new memory. Condition: the store is of a list as it must be. -/
import Derived.Test.YtmkillbanmbafaaGreatStoG
import Derived.Test.YtmkillbanmbafaaGreatSrtX
import Derived.Test.YtmkillbanmbafaaGreatClone
import Derived.Shelf.SlicesE.Clone
import Derived.Deep.DeepCutAuto
import Derived.Deep.RegionWith
import Derived.Test.YtmkillbanmbafaaGreatRPX
import Derived.Test.YtmkillbanmbafaaGreatClmG
import Derived.Deep.RegionLawGrows
namespace Go.Proofs.YtmkillbanmbafaaGreat
open Go.RowKit Go.Sort
theorem ownN_names {A : Nat → Prop} {B : Nat} {w : World} {v : Value} {l : List ByteArray} (h : OwnR 9 1 encN B w v l) (hs : ∀ x ∈ l, x.size ≤ 9223372036854775807) (hA : ∀ g, v.ownBlock = some g → A g) : NamesAt A w l v := by
  obtain ⟨ao, cap, rfl, h1, h2, h3⟩ := h.shape
  refine ⟨ao, cap, rfl, by omega, hs, ?_⟩
  rcases h3 with h0 | ⟨g, rfl, -, -⟩
  · exact .inl h0
  · refine .inr ⟨g, 0, rfl, hA g rfl, fun j hj => ?_⟩
    have := OwnR.cell encN_len h j 0 hj (by decide)
    rw [Nat.mul_one, Nat.add_zero] at this
    rw [Nat.zero_add, this]; rfl
/-- Values that lie in a row, each with its slices. -/
theorem repF_elz {A : Nat → Prop} {w : World} {b : Nat} : ∀ {l : List V} {o : Nat}, RepF A w b o l → ∃ ps : List El, ps.map (·.v) = l ∧ (∀ p ∈ ps, ElOk A w p) ∧ ∀ j (hj : j < ps.length), CellsAt w b (o + j * 8) (encV ps[j])
  | [], _, _ => ⟨[], rfl, (fun p hp => by simp at hp), fun j hj => absurd hj (Nat.not_lt_zero _)⟩
  | x :: l, o, h => by
    rw [RepF] at h
    obtain ⟨⟨it, nm, hc, hr⟩, hf⟩ := h
    obtain ⟨ps, h1, h2, h3⟩ := repF_elz hf
    obtain ⟨ai, ci, an, cn, rfl, rfl⟩ := r_slices hr.any
    refine ⟨⟨x, ai, ci, an, cn⟩ :: ps, by rw [List.map_cons, h1], fun p hp => ?_, fun j hj => ?_⟩
    · rcases List.mem_cons.1 hp with rfl | hp
      · exact hr
      · exact h2 p hp
    · match j, hj with
      | 0, _ => rw [Nat.zero_mul, Nat.add_zero]; exact hc
      | j + 1, hj =>
        have := h3 j (by simpa using hj)
        rw [show o + (j + 1) * 8 = o + 8 + j * 8 by omega]; exact this
theorem flatV_holds {w : World} {b o : Nat} {l : List El} (h : ∀ j (hj : j < l.length), CellsAt w b (o + j * 8) (encV l[j])) (j : Nat) (u : Value) (hu : (l.flatMap encV)[j]? = some u) : w.cell? ⟨b, o + j, none⟩ = some u := by
  have hj : j < l.length * 8 := by have := (List.getElem?_eq_some_iff.1 hu).1; rwa [flat_len encV_len] at this
  have hd : j / 8 < l.length := by omega
  have hm : j % 8 < 8 := Nat.mod_lt _ (by decide)
  have := flat_at encV_len l (j / 8) (j % 8) hd hm
  rw [show j / 8 * 8 + j % 8 = j by omega] at this
  rw [this] at hu
  have := h (j / 8) hd (j % 8) u hu
  rwa [show o + j / 8 * 8 + j % 8 = o + j by omega] at this
theorem flatN_holds {w : World} {b o : Nat} {l : List ByteArray} (h : ∀ j (hj : j < l.length), w.cell? ⟨b, o + j, none⟩ = some (.string l[j])) (j : Nat) (u : Value) (hu : (l.flatMap encN)[j]? = some u) : w.cell? ⟨b, o + j, none⟩ = some u := by
  have hj : j < l.length * 1 := by have := (List.getElem?_eq_some_iff.1 hu).1; rwa [flat_len encN_len] at this
  have := flat_at encN_len l j 0 (by omega) (by decide)
  rw [Nat.mul_one, Nat.add_zero] at this
  rw [this] at hu
  simp [encN] at hu
  rw [← hu]; exact h j (by omega)
theorem flat_ones {α : Type} {enc : α → List Value} (h : ∀ x, ∀ u ∈ enc x, u.oneCell' = true) (l : List α) : ∀ u ∈ l.flatMap enc, u.oneCell' = true := fun u hu => by
  obtain ⟨x, _, hx⟩ := List.mem_flatMap.1 hu
  exact h x u hx
set_option maxRecDepth 100000 in
theorem cloneS_c (l : List ByteArray) (w : World) (v : Value) (hn : l.length ≤ 70000) (h : NamesAt (fun _ => True) w l v) : Calls Tryz.prog 53 #[v] w fun e w' => ∃ v', e = .returned v' ∧ OwnR 9 1 encN w.heap.size w' v' l ∧ Low w w' := by
  obtain ⟨ao, c, rfl, h1, h2, h3⟩ := h
  rcases Nat.eq_zero_or_pos l.length with h0 | h0
  · obtain rfl := List.eq_nil_of_length_eq_zero h0
    clear h3
    simp only [List.length_nil]
    have q22 : ∀ (w : World) (a : Option Addr) (n c n' c' : Nat), (binOp .eql 35 (.slice a n c) (.slice none n' c')).run Tryz.prog w = .ok (.bool a.isNone) w := fun w a n c n' c' => Lib.run_eql_slice_nil w _ _ a n c n' c' Tryz.underlying35
    cases ao with
    | none =>
      go_enter Tryz.func53, Tryz.ntmps53
      go_wp2_with fail
      go_ret
      exact ⟨_, rfl, OwnR.nil _ _ _ _ _, Low.refl _⟩
    | some a =>
      go_enter Tryz.func53, Tryz.ntmps53
      go_wp2_with fail
      go_ret
      exact ⟨_, rfl, World.ownsRow_made w #[] 0 (Nat.le_refl _) (Nat.zero_le _) (by simp), (Low.alloc (Low.refl w) _)⟩
  · rcases h3 with h3 | ⟨b, o, rfl, -, hc⟩
    · rw [h3] at h0; exact absurd h0 (Nat.lt_irrefl _)
    obtain ⟨i0, hi, hz0, hz1, hz2⟩ := info_parts n_info
    have hcon := AnyE.slices_Clone Tryz.cloneS i0 _ 1 16 hi hz0 hz1 hz2 rfl (by decide) Tryz.sizeOf9 b o l.length c (l.flatMap encN) w (flat_len encN_len l) (by unfold maxLen; omega) (by omega) (fun j u hu => flatN_holds hc j u hu) (flat_ones encN_one l)
    change Calls Tryz.prog 53 _ _ _ at hcon
    refine hcon.mono ?_
    rintro e w' ⟨v', rfl, hO, -, hB⟩
    exact ⟨_, rfl, hO, Low.of_below hB⟩
set_option maxRecDepth 100000 in
theorem cloneV_c {A : Nat → Prop} (l : List V) (w : World) (v : Value) (hn : l.length ≤ 70000) (h : RowAt A w l v) : Calls Tryz.prog 54 #[v] w fun e w' => ∃ v' ps, e = .returned v' ∧ ps.map (·.v) = l ∧ (∀ p ∈ ps, ElOk A w p) ∧ OwnV w.heap.size w' v' ps ∧ Low w w' := by
  obtain ⟨ao, c, rfl, ⟨h1, h2⟩, h3⟩ := h
  rcases Nat.eq_zero_or_pos l.length with h0 | h0
  · obtain rfl := List.eq_nil_of_length_eq_zero h0
    clear h3
    simp only [List.length_nil]
    have q22 : ∀ (w : World) (a : Option Addr) (n c n' c' : Nat), (binOp .eql 34 (.slice a n c) (.slice none n' c')).run Tryz.prog w = .ok (.bool a.isNone) w := fun w a n c n' c' => Lib.run_eql_slice_nil w _ _ a n c n' c' Tryz.underlying34
    cases ao with
    | none =>
      go_enter Tryz.func54, Tryz.ntmps54
      go_wp2_with fail
      go_ret
      exact ⟨_, [], rfl, rfl, (fun p hp => by simp at hp), OwnR.nil _ _ _ _ _, Low.refl _⟩
    | some a =>
      go_enter Tryz.func54, Tryz.ntmps54
      go_wp2_with fail
      go_ret
      exact ⟨_, [], rfl, rfl, (fun p hp => by simp at hp), World.ownsRow_made w #[] 0 (Nat.le_refl _) (Nat.zero_le _) (by simp), (Low.alloc (Low.refl w) _)⟩
  · rcases h3 with h3 | ⟨b, o, rfl, -, hf⟩
    · rw [h3] at h0; exact absurd h0 (Nat.lt_irrefl _)
    obtain ⟨ps, hp1, hp2, hp3⟩ := repF_elz hf
    have hl : ps.length = l.length := by rw [← hp1, List.length_map]
    obtain ⟨i0, hi, hz0, hz1, hz2⟩ := info_parts v_info
    have hcon := AnyE.slices_Clone Tryz.cloneV i0 _ 8 120 hi hz0 hz1 hz2 rfl (by decide) Tryz.sizeOf37 b o l.length c (ps.flatMap encV) w (by rw [flat_len encV_len, hl]) (by unfold maxLen; omega) (by omega) (fun j u hu => flatV_holds hp3 j u hu) (flat_ones encV_one ps)
    change Calls Tryz.prog 54 _ _ _ at hcon
    refine hcon.mono ?_
    rintro e w' ⟨v', rfl, hO, -, hB⟩
    rw [← hl] at hO
    exact ⟨_, ps, rfl, hp1, hp2, hO, Low.of_below hB⟩
end Go.Proofs.YtmkillbanmbafaaGreat
namespace Go.Proofs.YtmkillbanmbafaaGreat
open Go.RowKit Go.Sort
/-- A value in new memory. -/
structure FreshV (B : Nat) (w : World) (p : El) : Prop where
  its : ∃ ps : List El, ps.map (·.v) = p.v.l ∧ OwnV B w p.it ps ∧ ∀ x ∈ ps, ElOk (fun b => B ≤ b ∧ some b ≠ p.it.ownBlock) w x
  nms : OwnR 9 1 encN B w p.nm p.v.ns
  bh : Bh p.v.h
  sz : ∀ x ∈ p.v.ns, x.size ≤ 9223372036854775807
theorem FreshV.rep {B : Nat} {w : World} {p : El} (h : FreshV B w p) : ElOk (fun b => B ≤ b) w p := by
  refine rep_v.2 ⟨h.bh, ownN_names h.nms h.sz (fun g hg => (World.ownsRow.lt h.nms g hg).1), ?_⟩
  obtain ⟨ps, h1, h2, h3⟩ := h.its
  have := ownV_row (A' := fun b => B ≤ b) h2 h3 (fun b hb => hb.1) (fun g hg => (World.ownsRow.lt h2 g hg).1)
  rwa [h1] at this
theorem FreshV.to {B : Nat} {w w' : World} {p : El} (h : FreshV B w p) (hb : ∀ b, B ≤ b → b < w.heap.size → w'.heap[b]? = w.heap[b]?) : FreshV B w' p where
  its := by
    obtain ⟨ps, h1, h2, h3⟩ := h.its
    exact ⟨ps, h1, OwnR.to h2 fun g hg => hb g (World.ownsRow.lt h2 g hg).1 (World.ownsRow.lt h2 g hg).2, fun x hx => Rep.to (fun b ha hlt => ⟨ha, hb b ha.1 hlt⟩) _ (h3 x hx)⟩
  nms := h.nms.to fun g hg => hb g (World.ownsRow.lt h.nms g hg).1 (World.ownsRow.lt h.nms g hg).2
  bh := h.bh
  sz := h.sz
theorem FreshV.low {B : Nat} {w w' : World} {p : El} (h : FreshV B w p) (l : Low w w') : FreshV B w' p := h.to fun b _ hlt => l.2.2.2 b hlt
def CpyP (v : V) (w : World) (e : Ending) (w' : World) : Prop := ∃ ai ci an cn, e = .returned (.agg #[.int .i64 v.h.k, .bool v.h.b, .int .i64 v.h.n, .string v.h.s, .string v.h.t, .string v.h.i, .slice ai v.l.length ci, .slice an v.ns.length cn]) ∧ FreshV w.heap.size w' ⟨v, ai, ci, an, cn⟩ ∧ Low w w'
theorem BoxAt.op8 {w : World} {n : Nat} {cs : List Value} (h : BoxAt w n cs) :
    w.frozen? ⟨n, 0, none⟩ = false ∧ w.frozen? ⟨n, 1, none⟩ = false ∧ w.frozen? ⟨n, 2, none⟩ = false ∧ w.frozen? ⟨n, 3, none⟩ = false ∧ w.frozen? ⟨n, 4, none⟩ = false ∧ w.frozen? ⟨n, 5, none⟩ = false ∧ w.frozen? ⟨n, 6, none⟩ = false ∧ w.frozen? ⟨n, 7, none⟩ = false :=
  ⟨h.open' 0, h.open' 1, h.open' 2, h.open' 3, h.open' 4, h.open' 5, h.open' 6, h.open' 7⟩
set_option maxHeartbeats 4000000 in
set_option maxRecDepth 100000 in
theorem cpyV_c (n : Nat) : ∀ (v : V) (w : World) (it nm : Value), dep v ≤ n → R w v it nm → Sm v → Calls Tryz.prog 41 #[av v.h it nm] w (CpyP v w) := by
  induction n with
  | zero => intro v w it nm h; rw [dep_v] at h; omega
  | succ n ih =>
    intro v w it nm hd hr hsm
    obtain ⟨ai, ci, an, cn, rfl, rfl⟩ := r_slices hr
    obtain ⟨hbh, hns, hrw⟩ := rep_v.1 hr
    obtain ⟨sm1, sm2, sm3⟩ := (sm_v v).1 hsm
    obtain ⟨U0, hU0⟩ : ∃ W, W = ((w.alloc (.cells #[.int .i64 v.h.k, .bool v.h.b, .int .i64 v.h.n, .string v.h.s, .string v.h.t, .string v.h.i, .slice ai v.l.length ci, .slice an v.ns.length cn] 37)).alloc (.cells #[.int .i64 0, .bool false, .int .i64 0, .string ⟨#[]⟩, .string ⟨#[]⟩, .string ⟨#[]⟩, .slice none 0 0, .slice none 0 0] 37)) := ⟨_, rfl⟩
    have HU0 := Lib.hid hU0
    have L0 := Lib.hid (show Low w U0 by rw [hU0]; exact Low.alloc (Low.alloc (Low.refl w) _) _)
    have HZ0 := Lib.hid (show U0.heap.size = w.heap.size + 1 + 1 by rw [hU0]; simp)
    have B0 := Lib.hid (show BoxAt U0 w.heap.size [.int .i64 v.h.k, .bool v.h.b, .int .i64 v.h.n, .string v.h.s, .string v.h.t, .string v.h.i, .slice ai v.l.length ci, .slice an v.ns.length cn] from BoxAt.low (BoxAt.made (w := w) (W := (w.alloc (.cells #[.int .i64 v.h.k, .bool v.h.b, .int .i64 v.h.n, .string v.h.s, .string v.h.t, .string v.h.i, .slice ai v.l.length ci, .slice an v.ns.length cn] 37))) rfl rfl rfl) (show Low (w.alloc (.cells #[.int .i64 v.h.k, .bool v.h.b, .int .i64 v.h.n, .string v.h.s, .string v.h.t, .string v.h.i, .slice ai v.l.length ci, .slice an v.ns.length cn] 37)) U0 by rw [hU0]; exact Low.alloc (Low.refl _) _))
    have Z0 := Lib.hid (show BoxAt U0 (w.heap.size + 1) [.int .i64 0, .bool false, .int .i64 0, .string ⟨#[]⟩, .string ⟨#[]⟩, .string ⟨#[]⟩, .slice none 0 0, .slice none 0 0] from BoxAt.made hU0 (by simp) rfl)
    have CS := Lib.hid (cloneS_c v.ns U0 _ sm2 (hns.low L0.out))
    have HR := Lib.hid hrw
    have HI := Lib.hid ih
    have HD := Lib.hid hd
    have HSM := Lib.hid sm3
    have HBH := Lib.hid (And.intro hbh hns)
    clear hU0 hd hr hns hrw sm2 sm3 ih hsm hbh
    unfold av
    go_enter Tryz.func41, Tryz.ntmps41
    go_upto_region 1 with fail
    rw [← HU0.out]
    have e6 := B0.out.at 7 _ rfl
    clear HU0
    go_wp2_with fail
    refine CS.out.mono ?_
    rintro e w1 ⟨v1, rfl, O1, L1⟩
    obtain ⟨an1, cn1, rfl, hc1, hc2, -⟩ := OwnR.shape O1
    have B1 := Lib.hid (B0.out.low L1)
    have Z1 := Lib.hid (Z0.out.low L1)
    have LL1 := Lib.hid (L0.out.trans L1)
    have HO1 := Lib.hid O1
    have HL1 := Lib.hid L1
    clear e6 CS O1 L1 hc1 hc2
    have e7 := B1.out.at 7 _ rfl
    have f7 := B1.out.open' 7
    obtain ⟨W1, hW1⟩ : ∃ W, W = w1.setCell ⟨w.heap.size, 7, none⟩ (.slice an1 v.ns.length cn1) := ⟨_, rfl⟩
    have HW1 := Lib.hid hW1
    have K1 := Lib.hid (show KeptBut w1 W1 (some w.heap.size) from hW1 ▸ kept_setCell _ _ _ _)
    have B2 := Lib.hid (show BoxAt W1 w.heap.size [.int .i64 v.h.k, .bool v.h.b, .int .i64 v.h.n, .string v.h.s, .string v.h.t, .string v.h.i, .slice ai v.l.length ci, .slice an1 v.ns.length cn1] from hW1 ▸ B1.out.set 7 _)
    have Z2 := Lib.hid (Z1.out.kept K1.out (by simp))
    have L2 := Lib.hid (LL1.out.kept K1.out fun g hg => by simp at hg; omega)
    have HS1 := Lib.hid (show w.heap.size + 1 + 1 ≤ W1.heap.size from by have h1 := HZ0.out; have h2 := HL1.out.size; have h3 := K1.out.2.2.1; omega)
    have HN1 := Lib.hid (show OwnR 9 1 encN U0.heap.size W1 (.slice an1 v.ns.length cn1) v.ns from HO1.out.to fun g hg => K1.out.2.2.2 g (World.ownsRow.lt HO1.out g hg).2 (by have := (World.ownsRow.lt HO1.out g hg).1; have := HZ0.out; simp; omega))
    have CV := Lib.hid (cloneV_c (A := fun b => b < w.heap.size) v.l W1 _ sm1 (RowAt.to (fun b _ hb => ⟨hb, L2.out.2.2.2 b hb⟩) HR.out))
    clear hW1 B1 Z1 LL1 K1
    go_upto_region 2 with fail
    rw [← HW1.out]
    clear HW1 e7 f7
    have e6 := B2.out.at 6 _ rfl
    go_wp2_with fail
    refine CV.out.mono ?_
    rintro e w2 ⟨v2, ps, rfl, hps, hok, O2, l2⟩
    have hpl : ps.length = v.l.length := by rw [← hps, List.length_map]
    obtain ⟨ai2, ci2, rfl, hc1, hc2, hg2⟩ := OwnR.shape O2
    rw [hpl] at O2 hc1 ⊢
    have B3 := Lib.hid (B2.out.low l2)
    have Z3 := Lib.hid (Z2.out.low l2)
    have LL3 := Lib.hid (L2.out.trans l2)
    have HO3 := Lib.hid O2
    have HN3 := Lib.hid (HN1.out.low l2)
    have HL3 := Lib.hid l2
    have HOK := Lib.hid (show ∀ p ∈ ps, ElOk (fun b => b < w.heap.size) w p from fun p hp => Rep.to (fun b ha _ => ⟨ha, (L2.out.2.2.2 b ha).symm⟩) _ (hok p hp))
    have HPS := Lib.hid hps
    clear e6 CV O2 l2 hok hps B2 Z2 L2
    have e6 := B3.out.at 6 _ rfl
    have f6 := B3.out.open' 6
    obtain ⟨W2, hW2⟩ : ∃ W, W = w2.setCell ⟨w.heap.size, 6, none⟩ (.slice ai2 v.l.length ci2) := ⟨_, rfl⟩
    have HW2 := Lib.hid hW2
    have K2 := Lib.hid (show KeptBut w2 W2 (some w.heap.size) from hW2 ▸ kept_setCell _ _ _ _)
    have B4 := Lib.hid (show BoxAt W2 w.heap.size [.int .i64 v.h.k, .bool v.h.b, .int .i64 v.h.n, .string v.h.s, .string v.h.t, .string v.h.i, .slice ai2 v.l.length ci2, .slice an1 v.ns.length cn1] from hW2 ▸ B3.out.set 6 _)
    have Z4 := Lib.hid (Z3.out.kept K2.out (by simp))
    have L4 := Lib.hid (LL3.out.kept K2.out fun g hg => by simp at hg; omega)
    have HOV := Lib.hid (show OwnV w.heap.size W2 (.slice ai2 v.l.length ci2) ps from OwnR.base (OwnR.to HO3.out fun g hg => K2.out.2.2.2 g (World.ownsRow.lt HO3.out g hg).2 (by have := (World.ownsRow.lt HO3.out g hg).1; have := HS1.out; simp; omega)) (by have := HS1.out; omega))
    have HON := Lib.hid (show OwnR 9 1 encN (w.heap.size + 2) W2 (.slice an1 v.ns.length cn1) v.ns from OwnR.base (OwnR.to HN3.out fun g hg => K2.out.2.2.2 g (World.ownsRow.lt HN3.out g hg).2 (by have := (World.ownsRow.lt HN3.out g hg).1; have := HZ0.out; simp; omega)) (by have := HZ0.out; omega))
    have HG := Lib.hid (show ∀ g, (Value.slice ai2 v.l.length ci2).ownBlock = some g → w.heap.size + 1 < g ∧ (Value.slice an1 v.ns.length cn1).ownBlock ≠ some g from fun g hg => by
      have h1 := (World.ownsRow.lt HO3.out g hg).1
      refine ⟨by have := HS1.out; omega, fun e => ?_⟩
      have := (World.ownsRow.lt HN1.out g e).2
      omega)
    clear hW2 B3 Z3 LL3 K2 HO3 HN3 HN1 hg2
    go_upto_region 3 with fail
    rw [← HW2.out]
    clear HW2 e6 f6
    obtain ⟨N, hN⟩ : ∃ N, N = v.l.length := ⟨_, rfl⟩
    rw [← hN] at hpl B4 HOV HG hc1 ⊢
    have HNN := Lib.hid hN
    clear hN
    have e6 := B4.out.at 6 _ rfl
    go_wp2_with fail
    clear e6
    go_loopg [16] N (fun gk vi wr => ∃ (j : Nat) (cs : List El), vi = .int .i64 (j : Int) ∧ j ≤ N ∧ N - j ≤ gk ∧ cs.length = N ∧ Hid (Low w wr) ∧ Hid (BoxAt wr w.heap.size [.int .i64 v.h.k, .bool v.h.b, .int .i64 v.h.n, .string v.h.s, .string v.h.t, .string v.h.i, .slice ai2 N ci2, .slice an1 v.ns.length cn1]) ∧ Hid (BoxAt wr (w.heap.size + 1) [.int .i64 0, .bool false, .int .i64 0, .string ⟨#[]⟩, .string ⟨#[]⟩, .string ⟨#[]⟩, .slice none 0 0, .slice none 0 0]) ∧ Hid (OwnV w.heap.size wr (.slice ai2 N ci2) cs) ∧ Hid (OwnR 9 1 encN (w.heap.size + 2) wr (.slice an1 v.ns.length cn1) v.ns) ∧ Hid (∀ k (hk : k < cs.length), k < j → ElOk (fun b => w.heap.size + 2 ≤ b ∧ some b ≠ (Value.slice ai2 N ci2).ownBlock) wr cs[k]) ∧ Hid (∀ k (hk : k < cs.length) (hk2 : k < ps.length), j ≤ k → cs[k] = ps[k]) ∧ Hid (cs.map (·.v) = v.l))
    case atStart => exact ⟨0, ps, rfl, Nat.zero_le _, Nat.le_refl _, hpl, L4, B4, Z4, HOV, HON, Lib.hid fun k hk h => absurd h (Nat.not_lt_zero _), Lib.hid fun k hk hk2 _ => rfl, HPS⟩
    case round =>
      clear L4 B4 Z4 HOV HON
      obtain ⟨j, cs, rfl, hj, hg, hcl, G, GB, GZ, O, ON, E, Q, M⟩ := hrel
      have e6 := GB.out.at 6 _ rfl
      by_cases hlt : j < N
      · have zl : (j : Int) < (N : Int) := by omega
        obtain ⟨aox, cpx, hvx, -, -, hox⟩ := OwnR.shape O.out
        simp only [Value.slice.injEq] at hvx
        obtain ⟨rfl, -, rfl⟩ := hvx
        rcases hox with h0 | ⟨g, rfl, hgB, hgs⟩
        · rw [h0] at hcl; simp at hcl; omega
        have hjc : j < cs.length := by omega
        have hjp : j < ps.length := by omega
        have hqe : cs[j] = ps[j] := Q.out j hjc hjp (Nat.le_refl _)
        obtain ⟨q, hq⟩ : ∃ q, q = cs[j] := ⟨_, rfl⟩
        have hcs : CellsAt wr g (j * 8) (hdc q.v.h (.slice q.ai q.v.l.length q.ci) (.slice q.an q.v.ns.length q.cn)) := by rw [hq]; exact ownV_cells O.out hjc
        obtain ⟨d0, d1, d2, d3, d4, d5, d6, d7⟩ := cells8 hcs
        have hqm : q.v = v.l[j]'(by rw [← HNN.out]; exact hlt) := by
          have h1 : (cs.map (·.v))[j]? = v.l[j]? := by rw [M.out]
          have h2 : j < v.l.length := by rw [← HNN.out]; exact hlt
          simp [hjc, h2] at h1
          rw [hq]; exact h1
        have hqv : q.v ∈ v.l := by rw [hqm]; exact List.getElem_mem _
        have hqok : R wr q.v q.it q.nm := by
          rw [hq, hqe]
          exact (Rep.low (HOK.out ps[j] (List.getElem_mem hjp)) G.out).any
        obtain ⟨W5, hW5⟩ : ∃ W, W = wr.alloc (.cells #[.int .i64 q.v.h.k, .bool q.v.h.b, .int .i64 q.v.h.n, .string q.v.h.s, .string q.v.h.t, .string q.v.h.i, .slice q.ai q.v.l.length q.ci, .slice q.an q.v.ns.length q.cn] 37) := ⟨_, rfl⟩
        have HW5 := Lib.hid hW5
        have L5 := Lib.hid (show Low wr W5.drew by rw [hW5]; exact (Low.alloc (Low.refl wr) _).trans (Low.drewN _ 1))
        have BI := Lib.hid (show BoxAt W5.drew wr.heap.size [.int .i64 q.v.h.k, .bool q.v.h.b, .int .i64 q.v.h.n, .string q.v.h.s, .string q.v.h.t, .string q.v.h.i, .slice q.ai q.v.l.length q.ci, .slice q.an q.v.ns.length q.cn] from BoxAt.low (BoxAt.made hW5 rfl rfl) (Low.drewN _ 1))
        have h2 : j < v.l.length := by rw [← HNN.out]; exact hlt
        have hdq : dep q.v ≤ n := by have h1 := HD.out; have h3 := dep_item h2; rw [← hqm] at h3; omega
        have hcon := HI.out q.v W5.drew q.it q.nm hdq (hqok.low L5.out) (HSM.out q.v hqv)
        have HC := Lib.hid hcon
        have HQM := Lib.hid hqm
        clear hcon hqm hqok hq hqe hqv hcs hW5 h2 hdq
        unfold av El.it El.nm at HC
        go_upto_region 6 with fail
        rw [← HW5.out]
        clear HW5 e6 d0 d1 d2 d3 d4 d5 d6 d7
        have e6 := (GB.out.low L5.out).at 6 _ rfl
        obtain ⟨b0, b1, b2, b3, b4, b5, b6, b7⟩ := BI.out.at8
        go_wp2_with fail
        go_region_with (go_at_call 41; refine HC.out.mono ?_; rintro e w6 ⟨ai3, ci3, an3, cn3, rfl, hfr, l6⟩; have L6 := Lib.hid (L5.out.trans l6); have HFR := Lib.hid hfr; have GB6 := Lib.hid (GB.out.low L6.out); have O6 := Lib.hid (OwnR.low O.out L6.out); have e6 := GB6.out.at 6 _ rfl; obtain ⟨s0, s1, s2, s3, s4, s5, s6, s7⟩ := cells8 (show CellsAt w6 g (j * 8) (hdc cs[j].v.h (.slice cs[j].ai cs[j].v.l.length cs[j].ci) (.slice cs[j].an cs[j].v.ns.length cs[j].cn)) from ownV_cells O6.out hjc); have f0 := OwnR.frozen O6.out (j * 8); have f1 := OwnR.frozen O6.out (j * 8 + 1); have f2 := OwnR.frozen O6.out (j * 8 + 2); have f3 := OwnR.frozen O6.out (j * 8 + 3); have f4 := OwnR.frozen O6.out (j * 8 + 4); have f5 := OwnR.frozen O6.out (j * 8 + 5); have f6 := OwnR.frozen O6.out (j * 8 + 6); have f7 := OwnR.frozen O6.out (j * 8 + 7); clear hfr l6 b0 b1 b2 b3 b4 b5 b6 b7)
        all_goals
          obtain ⟨O7, K7⟩ := stored8 (⟨q.v, ai3, ci3, an3, cn3⟩ : El) (show OwnV w.heap.size w6 (.slice (some ⟨g, 0, none⟩) N ci2) cs from O6.out) hjc hcl.symm
          have HO7 := Lib.hid O7
          have HK7 := Lib.hid K7
          clear O7 K7 s0 s1 s2 s3 s4 s5 s6 s7 f0 f1 f2 f3 f4 f5 f6 f7 e6
          go_wp2_with fail
          go_roundg (N - (j + 1))
          case measure => omega
          case rel =>
            have hg1 := (HG.out g rfl).1
            have hg2 := (HG.out g rfl).2
            have hL := L5.out.size
            refine ⟨j + 1, cs.set j ⟨q.v, ai3, ci3, an3, cn3⟩, by go_num, by omega, by omega, by rw [List.length_set]; exact hcl, Lib.hid ((G.out.trans L6.out).kept HK7.out fun g' hg' => by simp at hg'; omega), Lib.hid (GB6.out.kept HK7.out (by simp; omega)), Lib.hid ((GZ.out.low L6.out).kept HK7.out (by simp; omega)), HO7, Lib.hid (OwnR.to (OwnR.low ON.out L6.out) fun h hh => HK7.out.2.2.2 h (World.ownsRow.lt (OwnR.low ON.out L6.out) h hh).2 (fun e => hg2 (by rw [hh]; exact e))), Lib.hid fun k hk hkj => ?_, Lib.hid fun k hk hk2 hjk => ?_, Lib.hid ?_⟩
            · have hk' : k < cs.length := by rwa [List.length_set] at hk
              by_cases e : k = j
              · subst e
                rw [List.getElem_set_self]
                exact Rep.to (fun b hb hlt => ⟨⟨by have := GZ.out.lt; omega, by simp [Value.ownBlock]; omega⟩, HK7.out.2.2.2 b hlt (by simp; omega)⟩) _ HFR.out.rep
              · rw [List.getElem_set_ne (Ne.symm e)]
                exact Rep.to (fun b hb hlt => ⟨hb, HK7.out.2.2.2 b hlt hb.2⟩) _ (Rep.low (E.out k hk' (by omega)) L6.out)
            · rw [List.getElem_set_ne (by omega)]
              exact Q.out k (by rwa [List.length_set] at hk) hk2 (by omega)
            · rw [List.map_set, M.out, HQM.out, List.set_getElem_self]
      · have zl : ¬ (j : Int) < (N : Int) := by omega
        obtain rfl : j = N := by omega
        obtain ⟨b0, b1, b2, b3, b4, b5, b6, b7⟩ := GB.out.at8
        obtain ⟨c0, c1, c2, c3, c4, c5, c6, c7⟩ := GZ.out.at8
        obtain ⟨f0, f1, f2, f3, f4, f5, f6, f7⟩ := GZ.out.op8
        clear e6
        go_wp2_with fail
        have hNN := HNN.out
        refine bodyPost_ret (v := .agg #[.int .i64 v.h.k, .bool v.h.b, .int .i64 v.h.n, .string v.h.s, .string v.h.t, .string v.h.i, .slice ai2 v.l.length ci2, .slice an1 v.ns.length cn1]) (by rw [← hNN]; simp [results, Tryz.results41, go_sem, World.cell?_setCell_same', c0, c1, c2, c3, c4, c5, c6, c7]; try rfl) rfl ?_
        have K8 := kept8 wr (w.heap.size + 1) (.int .i64 v.h.k) (.bool v.h.b) (.int .i64 v.h.n) (.string v.h.s) (.string v.h.t) (.string v.h.i) (.slice ai2 j ci2) (.slice an1 v.ns.length cn1)
        refine ⟨ai2, ci2, an1, cn1, rfl, ⟨⟨cs, M.out, ?_, fun x hx => ?_⟩, ?_, HBH.out.1, HBH.out.2.choose_spec.choose_spec.2.2.1⟩, low_all G.out (Nat.le_succ _) K8⟩
        · show OwnV _ _ (.slice ai2 v.l.length ci2) cs
          rw [← hNN]
          exact OwnR.to O.out fun g hg => K8.2.2.2 g (World.ownsRow.lt O.out g hg).2 (by have := (HG.out g hg).1; simp; omega)
        · obtain ⟨k, hk, rfl⟩ := List.getElem_of_mem hx
          show ElOk (fun b => w.heap.size ≤ b ∧ some b ≠ (Value.slice ai2 v.l.length ci2).ownBlock) _ _
          rw [← hNN]
          exact Rep.to (fun b hb hlt => ⟨⟨by omega, hb.2⟩, K8.2.2.2 b hlt (by simp; omega)⟩) _ (E.out k hk (by omega))
        · exact OwnR.base (OwnR.to ON.out fun g hg => K8.2.2.2 g (World.ownsRow.lt ON.out g hg).2 (by have := (World.ownsRow.lt ON.out g hg).1; simp; omega)) (Nat.le_add_right _ 2)
end Go.Proofs.YtmkillbanmbafaaGreat
namespace Go.Proofs.YtmkillbanmbafaaGreat
open Go.RowKit Go.Sort
/-- An entity in new memory. -/
structure FreshE (B : Nat) (w : World) (q : Ee) : Prop where
  ps : OwnU B w (.slice q.ap q.e.ps.length q.cp) q.e.ps
  a : FreshV B w ⟨q.e.a, q.ai, q.ci, q.an, q.cn⟩
theorem FreshE.ok {B : Nat} {w : World} {q : Ee} (h : FreshE B w q) : EeOk (fun b => B ≤ b) w q := ⟨OwnR.usIn h.ps fun g hg => (World.ownsRow.lt h.ps g hg).1, h.a.rep⟩
theorem FreshE.to {B : Nat} {w w' : World} {q : Ee} (h : FreshE B w q) (hb : ∀ b, B ≤ b → b < w.heap.size → w'.heap[b]? = w.heap[b]?) : FreshE B w' q :=
  ⟨h.ps.to fun g hg => hb g (World.ownsRow.lt h.ps g hg).1 (World.ownsRow.lt h.ps g hg).2, h.a.to hb⟩
theorem FreshE.low {B : Nat} {w w' : World} {q : Ee} (h : FreshE B w q) (l : Low w w') : FreshE B w' q := h.to fun b _ hlt => l.2.2.2 b hlt
theorem FreshV.base {B B' : Nat} {w : World} {p : El} (h : FreshV B w p) (hb : B' ≤ B) : FreshV B' w p where
  its := by
    obtain ⟨ps, h1, h2, h3⟩ := h.its
    exact ⟨ps, h1, OwnR.base h2 hb, fun x hx => Rep.to (fun b ha _ => ⟨⟨Nat.le_trans hb ha.1, ha.2⟩, rfl⟩) _ (h3 x hx)⟩
  nms := OwnR.base h.nms hb
  bh := h.bh
  sz := h.sz
theorem FreshE.base {B B' : Nat} {w : World} {q : Ee} (h : FreshE B w q) (hb : B' ≤ B) : FreshE B' w q := ⟨OwnR.base h.ps hb, h.a.base hb⟩
def CopP (q : Ee) (w : World) (e : Ending) (w' : World) : Prop := ∃ ap1 cp1 ai2 ci2 an2 cn2, e = .returned (.agg #[.string q.e.u.t, .string q.e.u.i, .slice ap1 q.e.ps.length cp1, .int .i64 q.e.a.h.k, .bool q.e.a.h.b, .int .i64 q.e.a.h.n, .string q.e.a.h.s, .string q.e.a.h.t, .string q.e.a.h.i, .slice ai2 q.e.a.l.length ci2, .slice an2 q.e.a.ns.length cn2]) ∧ FreshE w.heap.size w' ⟨q.e, ap1, cp1, ai2, ci2, an2, cn2⟩ ∧ Low w w'
set_option maxHeartbeats 8000000 in
set_option maxRecDepth 100000 in
theorem copied_c (q : Ee) (w : World) (hq : EeOk (fun _ => True) w q) (hs : Sm q.e.a) (hn : q.e.ps.length ≤ 70000) : Calls Tryz.prog 26 #[.agg #[.string q.e.u.t, .string q.e.u.i, .slice q.ap q.e.ps.length q.cp, .int .i64 q.e.a.h.k, .bool q.e.a.h.b, .int .i64 q.e.a.h.n, .string q.e.a.h.s, .string q.e.a.h.t, .string q.e.a.h.i, .slice q.ai q.e.a.l.length q.ci, .slice q.an q.e.a.ns.length q.cn]] w (CopP q w) := by
  obtain ⟨U0, hU0⟩ : ∃ W, W = ((w.alloc (.cells #[.string q.e.u.t, .string q.e.u.i, .slice q.ap q.e.ps.length q.cp, .int .i64 q.e.a.h.k, .bool q.e.a.h.b, .int .i64 q.e.a.h.n, .string q.e.a.h.s, .string q.e.a.h.t, .string q.e.a.h.i, .slice q.ai q.e.a.l.length q.ci, .slice q.an q.e.a.ns.length q.cn] 39)).alloc (.cells #[.string ⟨#[]⟩, .string ⟨#[]⟩, .slice none 0 0, .int .i64 0, .bool false, .int .i64 0, .string ⟨#[]⟩, .string ⟨#[]⟩, .string ⟨#[]⟩, .slice none 0 0, .slice none 0 0] 39)) := ⟨_, rfl⟩
  have HU0 := Lib.hid hU0
  have L0 := Lib.hid (show Low w U0 by rw [hU0]; exact Low.alloc (Low.alloc (Low.refl w) _) _)
  have HZ0 := Lib.hid (show U0.heap.size = w.heap.size + 1 + 1 by rw [hU0]; simp)
  have B0 := Lib.hid (show BoxAt U0 w.heap.size [.string q.e.u.t, .string q.e.u.i, .slice q.ap q.e.ps.length q.cp, .int .i64 q.e.a.h.k, .bool q.e.a.h.b, .int .i64 q.e.a.h.n, .string q.e.a.h.s, .string q.e.a.h.t, .string q.e.a.h.i, .slice q.ai q.e.a.l.length q.ci, .slice q.an q.e.a.ns.length q.cn] from BoxAt.low (BoxAt.made (w := w) (W := (w.alloc (.cells #[.string q.e.u.t, .string q.e.u.i, .slice q.ap q.e.ps.length q.cp, .int .i64 q.e.a.h.k, .bool q.e.a.h.b, .int .i64 q.e.a.h.n, .string q.e.a.h.s, .string q.e.a.h.t, .string q.e.a.h.i, .slice q.ai q.e.a.l.length q.ci, .slice q.an q.e.a.ns.length q.cn] 39))) rfl rfl rfl) (show Low (w.alloc (.cells #[.string q.e.u.t, .string q.e.u.i, .slice q.ap q.e.ps.length q.cp, .int .i64 q.e.a.h.k, .bool q.e.a.h.b, .int .i64 q.e.a.h.n, .string q.e.a.h.s, .string q.e.a.h.t, .string q.e.a.h.i, .slice q.ai q.e.a.l.length q.ci, .slice q.an q.e.a.ns.length q.cn] 39)) U0 by rw [hU0]; exact Low.alloc (Low.refl _) _))
  have Z0 := Lib.hid (show BoxAt U0 (w.heap.size + 1) [.string ⟨#[]⟩, .string ⟨#[]⟩, .slice none 0 0, .int .i64 0, .bool false, .int .i64 0, .string ⟨#[]⟩, .string ⟨#[]⟩, .string ⟨#[]⟩, .slice none 0 0, .slice none 0 0] from BoxAt.made hU0 (by simp) rfl)
  have CU := Lib.hid (clone_c q.e.ps U0 _ hn (hq.1.any.low L0.out))
  have HR := Lib.hid hq.2
  have HSM := Lib.hid hs
  clear hU0 hq hs hn
  go_enter Tryz.func26, Tryz.ntmps26
  go_upto_region 1 with fail
  rw [← HU0.out]
  clear HU0
  have e2 := B0.out.at 2 _ rfl
  unfold Ee.sh Sh.p at CU
  go_wp2_with fail
  refine CU.out.mono ?_
  rintro e w1 ⟨v1, rfl, O1, L1⟩
  obtain ⟨ap1, cp1, rfl, -, -, -⟩ := OwnR.shape O1
  have B1 := Lib.hid (B0.out.low L1)
  have Z1 := Lib.hid (Z0.out.low L1)
  have LL1 := Lib.hid (L0.out.trans L1)
  have HO1 := Lib.hid O1
  have HL1 := Lib.hid L1
  clear e2 CU O1 L1
  have e2 := B1.out.at 2 _ rfl
  have f2 := B1.out.open' 2
  obtain ⟨W1, hW1⟩ : ∃ W, W = w1.setCell ⟨w.heap.size, 2, none⟩ (.slice ap1 q.e.ps.length cp1) := ⟨_, rfl⟩
  have HW1 := Lib.hid hW1
  have K1 := Lib.hid (show KeptBut w1 W1 (some w.heap.size) from hW1 ▸ kept_setCell _ _ _ _)
  have B2 := Lib.hid (show BoxAt W1 w.heap.size [.string q.e.u.t, .string q.e.u.i, .slice ap1 q.e.ps.length cp1, .int .i64 q.e.a.h.k, .bool q.e.a.h.b, .int .i64 q.e.a.h.n, .string q.e.a.h.s, .string q.e.a.h.t, .string q.e.a.h.i, .slice q.ai q.e.a.l.length q.ci, .slice q.an q.e.a.ns.length q.cn] from hW1 ▸ B1.out.put 2 _)
  have Z2 := Lib.hid (Z1.out.kept K1.out (by simp))
  have L2 := Lib.hid (LL1.out.kept K1.out fun g hg => by simp at hg; omega)
  have O2 := Lib.hid (show OwnU U0.heap.size W1 (.slice ap1 q.e.ps.length cp1) q.e.ps from HO1.out.to fun g hg => K1.out.2.2.2 g (World.ownsRow.lt HO1.out g hg).2 (by have := (World.ownsRow.lt HO1.out g hg).1; have := HZ0.out; simp; omega))
  have CV := Lib.hid (cpyV_c (dep q.e.a) q.e.a W1 _ _ (Nat.le_refl _) (HR.out.low L2.out) HSM.out)
  have HSZ := Lib.hid (show w.heap.size + 1 < W1.heap.size from Z2.out.lt)
  unfold av Ee.it Ee.nm at CV
  clear hW1 B1 Z1 LL1 K1 HO1
  go_upto_region 2 with fail
  rw [← HW1.out]
  clear HW1 e2 f2
  obtain ⟨d0, d1, d2, d3, d4, d5, d6, d7, d8, d9, d10⟩ := B2.out.at11
  go_wp2_with fail
  refine CV.out.mono ?_
  rintro e w2 ⟨ai2, ci2, an2, cn2, rfl, hfr, l2⟩
  have B3 := Lib.hid (B2.out.low l2)
  have Z3 := Lib.hid (Z2.out.low l2)
  have L3 := Lib.hid (L2.out.trans l2)
  have O3 := Lib.hid (OwnR.low O2.out l2)
  have HFR := Lib.hid hfr
  clear d0 d1 d2 d3 d4 d5 d6 d7 d8 d9 d10 CV hfr l2 B2 Z2 L2
  obtain ⟨d0, d1, d2, d3, d4, d5, d6, d7, d8, d9, d10⟩ := B3.out.at11
  obtain ⟨f0, f1, f2, f3, f4, f5, f6, f7, f8, f9, f10⟩ := B3.out.op11
  obtain ⟨W2, hW2⟩ : ∃ W, W = (((((((w2.setCell ⟨w.heap.size, 3, none⟩ (.int .i64 q.e.a.h.k)).setCell ⟨w.heap.size, 4, none⟩ (.bool q.e.a.h.b)).setCell ⟨w.heap.size, 5, none⟩ (.int .i64 q.e.a.h.n)).setCell ⟨w.heap.size, 6, none⟩ (.string q.e.a.h.s)).setCell ⟨w.heap.size, 7, none⟩ (.string q.e.a.h.t)).setCell ⟨w.heap.size, 8, none⟩ (.string q.e.a.h.i)).setCell ⟨w.heap.size, 9, none⟩ (.slice ai2 q.e.a.l.length ci2)).setCell ⟨w.heap.size, 10, none⟩ (.slice an2 q.e.a.ns.length cn2) := ⟨_, rfl⟩
  have HW2 := Lib.hid hW2
  have K2 := Lib.hid (show KeptBut w2 W2 (some w.heap.size) from hW2 ▸ ((kept_setCell _ _ _ _).trans ((kept_setCell _ _ _ _).trans ((kept_setCell _ _ _ _).trans ((kept_setCell _ _ _ _).trans ((kept_setCell _ _ _ _).trans ((kept_setCell _ _ _ _).trans ((kept_setCell _ _ _ _).trans (kept_setCell _ _ _ _)))))))))
  have B4 := Lib.hid (show BoxAt W2 w.heap.size [.string q.e.u.t, .string q.e.u.i, .slice ap1 q.e.ps.length cp1, .int .i64 q.e.a.h.k, .bool q.e.a.h.b, .int .i64 q.e.a.h.n, .string q.e.a.h.s, .string q.e.a.h.t, .string q.e.a.h.i, .slice ai2 q.e.a.l.length ci2, .slice an2 q.e.a.ns.length cn2] from hW2 ▸ ((((((((B3.out.put 3 _).put 4 _).put 5 _).put 6 _).put 7 _).put 8 _).put 9 _).put 10 _))
  have Z4 := Lib.hid (Z3.out.kept K2.out (by simp))
  have L4 := Lib.hid (L3.out.kept K2.out fun g hg => by simp at hg; omega)
  have O4 := Lib.hid (show OwnU U0.heap.size W2 (.slice ap1 q.e.ps.length cp1) q.e.ps from O3.out.to fun g hg => K2.out.2.2.2 g (World.ownsRow.lt O3.out g hg).2 (by have := (World.ownsRow.lt O3.out g hg).1; have := HZ0.out; simp; omega))
  have F4 := Lib.hid (HFR.out.to (w' := W2) fun b hb hlt => K2.out.2.2.2 b hlt (by have := HSZ.out; simp; omega))
  clear hW2 B3 Z3 L3 O3 HFR K2
  go_upto_region 3 with fail
  rw [← HW2.out]
  clear HW2 d0 d1 d2 d3 d4 d5 d6 d7 d8 d9 d10 f0 f1 f2 f3 f4 f5 f6 f7 f8 f9 f10
  obtain ⟨d0, d1, d2, d3, d4, d5, d6, d7, d8, d9, d10⟩ := B4.out.at11
  obtain ⟨c0, c1, c2, c3, c4, c5, c6, c7, c8, c9, c10⟩ := Z4.out.at11
  obtain ⟨f0, f1, f2, f3, f4, f5, f6, f7, f8, f9, f10⟩ := Z4.out.op11
  go_wp2_with fail
  refine bodyPost_ret (v := .agg #[.string q.e.u.t, .string q.e.u.i, .slice ap1 q.e.ps.length cp1, .int .i64 q.e.a.h.k, .bool q.e.a.h.b, .int .i64 q.e.a.h.n, .string q.e.a.h.s, .string q.e.a.h.t, .string q.e.a.h.i, .slice ai2 q.e.a.l.length ci2, .slice an2 q.e.a.ns.length cn2]) (by simp [results, Tryz.results26, go_sem, World.cell?_setCell_same', c0, c1, c2, c3, c4, c5, c6, c7, c8, c9, c10]; try rfl) rfl ?_
  have K11 := kept11 W2 (w.heap.size + 1) (.string q.e.u.t) (.string q.e.u.i) (.slice ap1 q.e.ps.length cp1) (.int .i64 q.e.a.h.k) (.bool q.e.a.h.b) (.int .i64 q.e.a.h.n) (.string q.e.a.h.s) (.string q.e.a.h.t) (.string q.e.a.h.i) (.slice ai2 q.e.a.l.length ci2) (.slice an2 q.e.a.ns.length cn2)
  refine ⟨ap1, cp1, ai2, ci2, an2, cn2, rfl, ⟨?_, ?_⟩, low_all L4.out (Nat.le_succ _) K11⟩
  · exact OwnR.base (OwnR.to O4.out fun g hg => K11.2.2.2 g (World.ownsRow.lt O4.out g hg).2 (by have := (World.ownsRow.lt O4.out g hg).1; have := HZ0.out; simp; omega)) (by have := HZ0.out; omega)
  · exact FreshV.base (F4.out.to fun b hb hlt => K11.2.2.2 b hlt (by have := HSZ.out; simp; omega)) (by have := HSZ.out; omega)
end Go.Proofs.YtmkillbanmbafaaGreat
namespace Go.Proofs.YtmkillbanmbafaaGreat
open Go.RowKit Go.Sort Go.Maps
/-- What Get answers: of no entity all is nought. -/
def GetP6 (qs : List Ee) (u : Us) (w : World) (e : Ending) (w' : World) : Prop := ∃ x : Ee, x.e = ((fstQ qs u).getD eeNo).e ∧ e = .returned (.tuple #[.agg #[.string x.e.u.t, .string x.e.u.i, .slice x.ap x.e.ps.length x.cp, .int .i64 x.e.a.h.k, .bool x.e.a.h.b, .int .i64 x.e.a.h.n, .string x.e.a.h.s, .string x.e.a.h.t, .string x.e.a.h.i, .slice x.ai x.e.a.l.length x.ci, .slice x.an x.e.a.ns.length x.cn], .bool (decide (u ∈ namesE (ensOf qs)))]) ∧ FreshE w.heap.size w' x ∧ Low w w'
theorem fst_few {qs : List Ee} (h : GoodC (ensOf qs)) (u : Us) : Sm ((fstQ qs u).getD eeNo).e.a ∧ ((fstQ qs u).getD eeNo).e.ps.length ≤ 300 := by
  cases e : fstQ qs u with
  | some q =>
    have hm : q.e ∈ ensOf qs := List.mem_map_of_mem (fstQ_mem e).1
    exact ⟨h.sm _ hm, h.few _ hm⟩
  | none => exact ⟨by simp [eeNo, V0, Sm, SmL], by simp [eeNo]⟩
set_option maxHeartbeats 8000000 in
set_option maxRecDepth 100000 in
theorem get6_c (w : World) (z : St) (qs : List Ee) (u : Us) (hS : Sto w z qs) (hg : GoodC (ensOf qs)) :
    Calls Tryz.prog 12 #[.pointer (some ⟨z.p, 0, none⟩), .agg #[.string u.t, .string u.i]] w (GetP6 qs u w) := by
  obtain ⟨ks, hab, hst⟩ := hS
  obtain ⟨U0, hU0⟩ : ∃ W, W = (w.alloc (.cells #[.string u.t, .string u.i] 24)).alloc (.cells #[.string ⟨#[]⟩, .string ⟨#[]⟩, .slice none 0 0, .int .i64 0, .bool false, .int .i64 0, .string ⟨#[]⟩, .string ⟨#[]⟩, .string ⟨#[]⟩, .slice none 0 0, .slice none 0 0] 39) := ⟨_, rfl⟩
  have HU0 := Lib.hid hU0
  have L0 := Lib.hid (show Low w U0 by rw [hU0]; exact Low.alloc (Low.alloc (Low.refl w) _) _)
  have BU := Lib.hid (show BoxAt U0 w.heap.size [.string u.t, .string u.i] from BoxAt.low (BoxAt.made (w := w) (W := w.alloc (.cells #[.string u.t, .string u.i] 24)) rfl rfl rfl) (show Low (w.alloc (.cells #[.string u.t, .string u.i] 24)) U0 by rw [hU0]; exact Low.alloc (Low.refl _) _))
  have BZ := Lib.hid (show BoxAt U0 (w.heap.size + 1) zE from BoxAt.made hU0 (by simp) rfl)
  have S0 := Lib.hid (hst.low L0.out)
  have HG := Lib.hid hg
  obtain ⟨x, hx⟩ : ∃ x, (fstQ qs u).getD eeNo = x := ⟨_, rfl⟩
  have hsD := S0.out.low (Gr.refl U0).drew.low
  have hsX := fun X => S0.out.low ((Gr.alloc (Gr.refl U0) X).drew).low
  have hl := look_enOk hsD u
  have hlX := fun X => look_enOk (hsX X) u
  rw [hx] at hl
  simp only [hx] at hlX
  have HXE := Lib.hid (show ((fstQ qs u).getD eeNo).e = x.e by rw [hx])
  have HOK := Lib.hid (show EeOk (fun _ => True) U0 x by rw [← hx]; exact fstQ_ok S0.out.ok u)
  have HFW := Lib.hid (show Sm x.e.a ∧ x.e.ps.length ≤ 300 by rw [← hx]; exact fst_few hg u)
  have c1 := S0.out.c1
  have c1X := fun X => (S0.out.low (Low.alloc (Low.refl U0) X)).c1
  obtain ⟨a0, a1⟩ := BU.out.at2
  have a0X := fun X => (BU.out.low (Low.alloc (Low.refl U0) X)).at2.1
  have a1X := fun X => (BU.out.low (Low.alloc (Low.refl U0) X)).at2.2
  obtain ⟨t, ht⟩ : ∃ t, t = decide (u ∈ namesE (ensOf qs)) := ⟨_, rfl⟩
  rw [← ht] at hl
  simp only [← ht] at hlX
  unfold GetP6
  rw [← ht]
  unfold Ee.val at hl hlX
  clear hU0 hab hst hg hx hsD hsX ht
  go_enter Tryz.func12, Tryz.ntmps12
  go_upto_region 1 with fail
  rw [← HU0.out]
  clear HU0
  go_wp2_with fail
  go_region
  clear hl hlX c1 c1X a0 a1 a0X a1X
  obtain ⟨W1, hW1⟩ : ∃ W, W = (U0.alloc (.cells #[.string x.e.u.t, .string x.e.u.i, .slice x.ap x.e.ps.length x.cp, .int .i64 x.e.a.h.k, .bool x.e.a.h.b, .int .i64 x.e.a.h.n, .string x.e.a.h.s, .string x.e.a.h.t, .string x.e.a.h.i, .slice x.ai x.e.a.l.length x.ci, .slice x.an x.e.a.ns.length x.cn] 39)).drew := ⟨_, rfl⟩
  rw [← hW1]
  have L1 := Lib.hid (show Low U0 W1 by rw [hW1]; exact (Low.alloc (Low.refl U0) _).trans (Gr.refl _).drew.low)
  have BX := Lib.hid (show BoxAt W1 U0.heap.size [.string x.e.u.t, .string x.e.u.i, .slice x.ap x.e.ps.length x.cp, .int .i64 x.e.a.h.k, .bool x.e.a.h.b, .int .i64 x.e.a.h.n, .string x.e.a.h.s, .string x.e.a.h.t, .string x.e.a.h.i, .slice x.ai x.e.a.l.length x.ci, .slice x.an x.e.a.ns.length x.cn] from BoxAt.low (BoxAt.made (w := U0) (W := U0.alloc (.cells #[.string x.e.u.t, .string x.e.u.i, .slice x.ap x.e.ps.length x.cp, .int .i64 x.e.a.h.k, .bool x.e.a.h.b, .int .i64 x.e.a.h.n, .string x.e.a.h.s, .string x.e.a.h.t, .string x.e.a.h.i, .slice x.ai x.e.a.l.length x.ci, .slice x.an x.e.a.ns.length x.cn] 39)) rfl rfl rfl) (by rw [hW1]; exact (Gr.refl _).drew.low))
  have BZ1 := Lib.hid (BZ.out.low L1.out)
  have HC := Lib.hid (copied_c x W1 (HOK.out.low L1.out) HFW.out.1 (by have := HFW.out.2; omega))
  have HSZ := Lib.hid (show w.heap.size ≤ W1.heap.size from (L0.out.trans L1.out).size)
  clear hW1
  obtain ⟨d0, d1, d2, d3, d4, d5, d6, d7, d8, d9, d10⟩ := BX.out.at11
  go_wp2_with fail
  refine HC.out.mono ?_
  rintro e w2 ⟨ap1, cp1, ai2, ci2, an2, cn2, rfl, hfr, l2⟩
  have HFR := Lib.hid hfr
  have L2 := Lib.hid ((L0.out.trans L1.out).trans l2)
  have BZ2 := Lib.hid (BZ1.out.low l2)
  have HZL := Lib.hid (show w.heap.size + 1 < W1.heap.size from BZ1.out.lt)
  clear hfr l2 d0 d1 d2 d3 d4 d5 d6 d7 d8 d9 d10 HC
  obtain ⟨c0, c1, c2, c3, c4, c5, c6, c7, c8, c9, c10⟩ := BZ2.out.at11
  obtain ⟨f0, f1, f2, f3, f4, f5, f6, f7, f8, f9, f10⟩ := BZ2.out.op11
  go_wp2_with fail
  refine bodyPost_ret (v := .tuple #[.agg #[.string x.e.u.t, .string x.e.u.i, .slice ap1 x.e.ps.length cp1, .int .i64 x.e.a.h.k, .bool x.e.a.h.b, .int .i64 x.e.a.h.n, .string x.e.a.h.s, .string x.e.a.h.t, .string x.e.a.h.i, .slice ai2 x.e.a.l.length ci2, .slice an2 x.e.a.ns.length cn2], .bool t]) (by simp [results, Tryz.results12, go_sem, World.cell?_setCell_same', c0, c1, c2, c3, c4, c5, c6, c7, c8, c9, c10]; try rfl) rfl ?_
  have K11 := kept11 w2 (w.heap.size + 1) (.string x.e.u.t) (.string x.e.u.i) (.slice ap1 x.e.ps.length cp1) (.int .i64 x.e.a.h.k) (.bool x.e.a.h.b) (.int .i64 x.e.a.h.n) (.string x.e.a.h.s) (.string x.e.a.h.t) (.string x.e.a.h.i) (.slice ai2 x.e.a.l.length ci2) (.slice an2 x.e.a.ns.length cn2)
  exact ⟨⟨x.e, ap1, cp1, ai2, ci2, an2, cn2⟩, HXE.out.symm, rfl, FreshE.base (HFR.out.to fun b hb hlt => K11.2.2.2 b hlt (by have := HZL.out; simp; omega)) HSZ.out, low_all L2.out (Nat.le_succ _) K11⟩
end Go.Proofs.YtmkillbanmbafaaGreat
namespace Go.Proofs.YtmkillbanmbafaaGreat
open Go.RowKit Go.Sort Go.Maps
/-- An entity whose rows are the call's own, and may be written; they lie apart from a row of entities. -/
structure WrE (B : Nat) (w : World) (v : Value) (q : Ee) : Prop where
  ps : OwnU B w (.slice q.ap q.e.ps.length q.cp) q.e.ps
  its : ∃ els : List El, els.length = q.e.a.l.length ∧ OwnV B w (.slice q.ai q.e.a.l.length q.ci) els
  nms : OwnR 9 1 encN B w (.slice q.an q.e.a.ns.length q.cn) q.e.a.ns
  ap : ∀ g, v.ownBlock = some g → (Value.slice q.ap q.e.ps.length q.cp).ownBlock ≠ some g ∧ (Value.slice q.ai q.e.a.l.length q.ci).ownBlock ≠ some g ∧ (Value.slice q.an q.e.a.ns.length q.cn).ownBlock ≠ some g
theorem FreshE.wr {B : Nat} {w : World} {q : Ee} (h : FreshE B w q) {v : Value} (hv : ∀ g, v.ownBlock = some g → g < B ∨ w.heap.size ≤ g) : WrE B w v q := by
  obtain ⟨els, h1, h2, -⟩ := h.a.its
  refine ⟨h.ps, ⟨els, by rw [← List.length_map (f := (·.v)), h1], h2⟩, h.a.nms, fun g hg => ⟨fun e => ?_, fun e => ?_, fun e => ?_⟩⟩
  · have := World.ownsRow.lt h.ps g e
    have := hv g hg
    omega
  · have := World.ownsRow.lt h2 g e
    have := hv g hg
    omega
  · have := World.ownsRow.lt h.a.nms g e
    have := hv g hg
    omega
theorem WrE.to {B : Nat} {w w' : World} {v v' : Value} {q : Ee} (h : WrE B w v q) (hb : ∀ b, b < w.heap.size → some b ≠ v.ownBlock → w'.heap[b]? = w.heap[b]?) (hv : v'.ownBlock = v.ownBlock ∨ ∀ g, v'.ownBlock = some g → w.heap.size ≤ g) : WrE B w' v' q := by
  obtain ⟨els, h1, h2⟩ := h.its
  refine ⟨h.ps.to fun g hg => hb g (World.ownsRow.lt h.ps g hg).2 fun e => (h.ap g e.symm).1 hg, ⟨els, h1, OwnR.to h2 fun g hg => hb g (World.ownsRow.lt h2 g hg).2 fun e => (h.ap g e.symm).2.1 hg⟩, h.nms.to fun g hg => hb g (World.ownsRow.lt h.nms g hg).2 fun e => (h.ap g e.symm).2.2 hg, fun g hg => ?_⟩
  rcases hv with e | e
  · exact h.ap g (e ▸ hg)
  · have := e g hg
    exact ⟨fun k => by have := (World.ownsRow.lt h.ps g k).2; omega, fun k => by have := (World.ownsRow.lt h2 g k).2; omega, fun k => by have := (World.ownsRow.lt h.nms g k).2; omega⟩
theorem WrE.base {B B' : Nat} {w : World} {v : Value} {q : Ee} (h : WrE B w v q) (hb : B' ≤ B) : WrE B' w v q := by
  obtain ⟨els, h1, h2⟩ := h.its
  exact ⟨OwnR.base h.ps hb, ⟨els, h1, OwnR.base h2 hb⟩, OwnR.base h.nms hb, h.ap⟩
theorem size_alloc9 (w : World) (o : Obj) : (w.alloc o).heap.size = w.heap.size + 1 := by simp
/-- What All answers. -/
def AllP (qs : List Ee) (w : World) (e : Ending) (w' : World) : Prop := ∃ (v : Value) (rs : List Ee), e = .returned v ∧ ensOf rs = ensOf qs ∧ OwnE w.heap.size w' v rs ∧ (∀ q ∈ rs, EeOk (fun b => w.heap.size ≤ b ∧ some b ≠ v.ownBlock) w' q) ∧ (∀ q ∈ rs, WrE w.heap.size w' v q) ∧ Low w w'
set_option maxHeartbeats 8000000 in
set_option maxRecDepth 100000 in
theorem all6_c (w : World) (z : St) (qs : List Ee) (hS : Sto w z qs) (hg : GoodC (ensOf qs)) : Calls Tryz.prog 15 #[.pointer (some ⟨z.p, 0, none⟩)] w (AllP qs w) := by
  obtain ⟨ks, -, hst⟩ := hS
  have HG := Lib.hid hg
  have HST := Lib.hid hst
  clear hst hg
  obtain ⟨N, hN⟩ : ∃ N, N = qs.length := ⟨_, rfl⟩
  have c0 := HST.out.c0
  have hNM := HST.out.names
  obtain ⟨az, haz⟩ : ∃ a, a = z.ao := ⟨_, rfl⟩
  rw [← hN, ← haz] at c0 hNM
  obtain ⟨an, cn, hv, ⟨hc1, hc2⟩, hx⟩ := hNM
  have hnl : (namesE (ensOf qs)).length = N := by rw [names_len, hN]; simp [ensOf]
  simp only [Value.slice.injEq] at hv
  obtain ⟨rfl, -, rfl⟩ := hv
  have HX := Lib.hid hx
  have HNL := Lib.hid hnl
  have hN3 : N ≤ 300 := by rw [← hnl, names_len]; exact HG.out.len
  have HNN := Lib.hid hN
  clear hx hnl hN haz
  obtain ⟨l, hl⟩ : ∃ l, l = namesE (ensOf qs) := ⟨_, rfl⟩
  have HL := Lib.hid hl
  rw [← hl] at HX HNL hc1
  clear hl
  go_enter Tryz.func15, Tryz.ntmps15
  go_wp2_with fail
  clear c0
  go_loopg [3, 13] N (fun gk vs vi wr => ∃ (vr : Value) (i : Nat) (R : List Ee), vr = vs ∧ vi = .int .i64 (i : Int) ∧ i ≤ N ∧ N - i ≤ gk ∧ R.length = i ∧ Hid (Low w wr) ∧ Hid (OwnE w.heap.size wr vr R) ∧ Hid (ensOf R = (ensOf qs).take i) ∧ Hid (∀ q ∈ R, EeOk (fun b => w.heap.size ≤ b ∧ some b ≠ vr.ownBlock) wr q) ∧ Hid (∀ q ∈ R, WrE w.heap.size wr vr q))
  case atStart => exact ⟨_, 0, [], rfl, rfl, Nat.zero_le _, Nat.le_refl _, rfl, Lib.hid (Low.refl _), Lib.hid (OwnR.nil _ _ _ _ _), Lib.hid rfl, Lib.hid (fun q hq => by simp at hq), Lib.hid (fun q hq => by simp at hq)⟩
  case round =>
    obtain ⟨vr, i, R, rfl, rfl, hi, hg, hR, G, O, K, E, WE⟩ := hrel
    by_cases hlt : i < N
    · have zl : (i : Int) < (N : Int) := by omega
      have hil : i < l.length := by rw [HNL.out]; exact hlt
      have hiq : i < qs.length := by rw [← HNN.out]; exact hlt
      obtain ⟨b, o, rfl, hcs⟩ := HX.out i hil
      obtain ⟨e0, e1⟩ := cells2 (G.out.cells hcs)
      obtain ⟨n, hn⟩ : ∃ n, n = l[i] := ⟨_, rfl⟩
      rw [← hn] at e0 e1
      obtain ⟨x, hx⟩ : ∃ x, (fstQ qs n).getD eeNo = x := ⟨_, rfl⟩
      have hxe : x.e = qs[i].e := by
        have hnu : n = qs[i].e.u := by
          have h2 : l[i]? = some qs[i].e.u := by rw [HL.out]; unfold namesE ensOf; simp [hiq]
          rw [List.getElem?_eq_getElem hil] at h2
          rw [hn]; exact Option.some.inj h2
        have h3 := fst_of (rises_names HG.out.rises) (e := qs[i].e) (List.mem_map_of_mem (List.getElem_mem hiq))
        rw [← hnu, fstQ_en] at h3
        rw [← hx]
        cases e : fstQ qs n with
        | none => rw [e] at h3; simp at h3
        | some q => rw [e] at h3; simpa using h3
      have HKT := Lib.hid (show ensOf (R ++ [x]) = (ensOf qs).take (i + 1) by
        have h4 : i < (ensOf qs).length := by simpa [ensOf] using hiq
        have h5 : (ensOf qs)[i] = x.e := by rw [hxe]; simp [ensOf]
        rw [List.take_succ_eq_append_getElem h4, ← K.out, h5]
        unfold ensOf
        rw [List.map_append]; rfl)
      obtain ⟨W3, hW3⟩ : ∃ W, W = wr.alloc (.cells #[.string n.t, .string n.i] 24) := ⟨_, rfl⟩
      have HW3 := Lib.hid hW3
      have L3 := Lib.hid (show Low wr W3 by rw [hW3]; exact Low.alloc (Low.refl wr) _)
      have L3D := Lib.hid (show Low wr W3.drew from L3.out.trans (Gr.refl W3).drew.low)
      have BN := Lib.hid (show BoxAt W3 wr.heap.size [.string n.t, .string n.i] from BoxAt.made hW3 rfl rfl)
      have SD := Lib.hid (show StAt W3.drew z qs ks from HST.out.low (G.out.trans L3D.out))
      have hlk := look_en SD.out n
      rw [hx] at hlk
      have c1 := (HST.out.low (G.out.trans L3.out)).c1
      obtain ⟨n0, n1⟩ := BN.out.at2
      have HC := Lib.hid (copied_c x W3.drew (by rw [← hx]; exact fstQ_ok SD.out.ok n) (by rw [← hx]; exact (fst_few HG.out n).1) (by have := (fst_few HG.out n).2; rw [hx] at this; omega))
      unfold Ee.val at hlk
      clear hn hcs hx hxe hW3
      go_upto_region 7 with fail
      rw [← HW3.out]
      clear HW3 e0 e1
      go_wp2_with fail
      go_region_law (first
        | (go_simp; go_at_call 26; (refine HC.out.mono ?_); rintro e w4 ⟨ap1, cp1, ai2, ci2, an2, cn2, rfl, hfr, l4⟩; have HFR := Lib.hid hfr; have L4 := Lib.hid (L3D.out.trans l4); have HL4 := Lib.hid l4; have O4 := Lib.hid (OwnR.low O.out L4.out); clear hfr l4)
        | (refine ownR_step2 rfl _ _ _ rfl Tryz.underlying22 e_info rfl (by decide) (by decide) encE_len encE_one w.heap.size vr R rfl (OwnR.alloc O4.out _) (⟨x.e, ap1, cp1, ai2, ci2, an2, cn2⟩ : Ee) ⟨w4.heap.size, 0, none⟩ 1 rfl (fun j u hj => newcell_at _ _ _ _ _ rfl hj) (by omega) (by have := (G.out.trans L4.out).size; show w.heap.size ≤ (w4.alloc _).heap.size; rw [size_alloc9]; omega) ?_; intro v6 w6 O6 B6 K6 N6; have HO6 := Lib.hid (show OwnE w.heap.size w6 _ _ from O6); have HB6 := Lib.hid (show RowKit.Below w.heap.size (w4.alloc (.cells #[.string x.e.u.t, .string x.e.u.i, .slice ap1 x.e.ps.length cp1, .int .i64 x.e.a.h.k, .bool x.e.a.h.b, .int .i64 x.e.a.h.n, .string x.e.a.h.s, .string x.e.a.h.t, .string x.e.a.h.i, .slice ai2 x.e.a.l.length ci2, .slice an2 x.e.a.ns.length cn2] 39)) w6 from B6); have HK6 := Lib.hid (show ∀ b, b < (w4.alloc (.cells #[.string x.e.u.t, .string x.e.u.i, .slice ap1 x.e.ps.length cp1, .int .i64 x.e.a.h.k, .bool x.e.a.h.b, .int .i64 x.e.a.h.n, .string x.e.a.h.s, .string x.e.a.h.t, .string x.e.a.h.i, .slice ai2 x.e.a.l.length ci2, .slice an2 x.e.a.ns.length cn2] 39)).heap.size → some b ≠ vr.ownBlock → w6.heap[b]? = (w4.alloc (.cells #[.string x.e.u.t, .string x.e.u.i, .slice ap1 x.e.ps.length cp1, .int .i64 x.e.a.h.k, .bool x.e.a.h.b, .int .i64 x.e.a.h.n, .string x.e.a.h.s, .string x.e.a.h.t, .string x.e.a.h.i, .slice ai2 x.e.a.l.length ci2, .slice an2 x.e.a.ns.length cn2] 39)).heap[b]? from K6); have HN6 := Lib.hid (show v6.ownBlock = vr.ownBlock ∨ ∀ g, v6.ownBlock = some g → (w4.alloc (.cells #[.string x.e.u.t, .string x.e.u.i, .slice ap1 x.e.ps.length cp1, .int .i64 x.e.a.h.k, .bool x.e.a.h.b, .int .i64 x.e.a.h.n, .string x.e.a.h.s, .string x.e.a.h.t, .string x.e.a.h.i, .slice ai2 x.e.a.l.length ci2, .slice an2 x.e.a.ns.length cn2] 39)).heap.size ≤ g from N6); clear O6 B6 K6 N6))
      all_goals
        have hal := Low.alloc (Low.refl w4) (.cells #[.string x.e.u.t, .string x.e.u.i, .slice ap1 x.e.ps.length cp1, .int .i64 x.e.a.h.k, .bool x.e.a.h.b, .int .i64 x.e.a.h.n, .string x.e.a.h.s, .string x.e.a.h.t, .string x.e.a.h.i, .slice ai2 x.e.a.l.length ci2, .slice an2 x.e.a.ns.length cn2] 39)
        have hsa : (w4.alloc (.cells #[.string x.e.u.t, .string x.e.u.i, .slice ap1 x.e.ps.length cp1, .int .i64 x.e.a.h.k, .bool x.e.a.h.b, .int .i64 x.e.a.h.n, .string x.e.a.h.s, .string x.e.a.h.t, .string x.e.a.h.i, .slice ai2 x.e.a.l.length ci2, .slice an2 x.e.a.ns.length cn2] 39)).heap.size = w4.heap.size + 1 := size_alloc9 _ _
        have HSZ := Lib.hid (show wr.heap.size ≤ W3.drew.heap.size from L3D.out.size)
        have HGS := Lib.hid (show w.heap.size ≤ wr.heap.size from G.out.size)
        have E6 := Lib.hid (ee_step (q := (⟨x.e, ap1, cp1, ai2, ci2, an2, cn2⟩ : Ee)) HGS.out E.out L4.out hal (EeOk.to (fun b hb _ => ⟨by have := HSZ.out; omega, rfl⟩) HFR.out.ok) O.out HK6.out HN6.out)
        have W6 := Lib.hid (show ∀ q ∈ R ++ [(⟨x.e, ap1, cp1, ai2, ci2, an2, cn2⟩ : Ee)], WrE w.heap.size w6 v6 q from fun q hq => by
          have hvr : ∀ g, vr.ownBlock = some g → g < wr.heap.size := fun g hg => (World.ownsRow.lt O.out g hg).2
          have hn6 : v6.ownBlock = vr.ownBlock ∨ ∀ g, v6.ownBlock = some g → w4.heap.size ≤ g := HN6.out.imp id fun h g hg => by have := h g hg; omega
          have hb6 : ∀ b, b < w4.heap.size → some b ≠ vr.ownBlock → w6.heap[b]? = w4.heap[b]? := fun b hb hne => (HK6.out b (by omega) hne).trans (hal.2.2.2 b hb)
          rcases List.mem_append.1 hq with hq | hq
          · have h1 : WrE w.heap.size w4 vr q := (WE.out q hq).to (fun b hb _ => L4.out.2.2.2 b hb) (.inl rfl)
            exact h1.to hb6 hn6
          · simp at hq
            subst hq
            have h1 : WrE W3.drew.heap.size w4 vr (⟨x.e, ap1, cp1, ai2, ci2, an2, cn2⟩ : Ee) := HFR.out.wr fun g hg => .inl (by have := hvr g hg; have := HSZ.out; omega)
            exact (h1.to hb6 hn6).base (by have := HSZ.out; have := HGS.out; omega))
        have L6 := Lib.hid (show Low w w6 from ((G.out.trans L4.out).trans hal).trans_belowU HB6.out (Nat.le_refl _))
        clear hal hsa
        go_wp2_with fail
        go_roundg (N - (i + 1))
        case measure => omega
        case rel =>
          refine ⟨v6, i + 1, R ++ [(⟨x.e, ap1, cp1, ai2, ci2, an2, cn2⟩ : Ee)], rfl, by go_num, by omega, by omega, by simp; omega, L6, HO6, Lib.hid ?_, E6, W6⟩
          rw [← HKT.out]
          unfold ensOf
          rw [List.map_append, List.map_append]; rfl
    · have zl : ¬ (i : Int) < (N : Int) := by omega
      obtain rfl : i = N := by omega
      have hKK : ensOf R = ensOf qs := by rw [K.out, HNN.out, List.take_of_length_le (by simp [ensOf])]
      have HKK := Lib.hid hKK
      clear hKK
      go_wp2_with fail
      go_ret
      exact ⟨_, R, rfl, HKK.out, O.out, E.out, WE.out, G.out⟩
end Go.Proofs.YtmkillbanmbafaaGreat
