/- A value stored into a row of the call's own; what is behind a row's first ones cleared. No condition. Of those in a row that are the same, the first of each run: what CompactFunc leaves. No condition. -/
import Derived.Test.YtmkillbanmbafaaGreatSortW
import Derived.Laws.OwnMore
namespace Go.Proofs.YtmkillbanmbafaaGreat
open Go.RowKit Go.Sort
theorem flat_set8 (q : El) : ∀ (l : List El) (k : Nat), k < l.length →
    ((((((((l.flatMap encV).set (k * 8) (.int .i64 q.v.h.k)).set (k * 8 + 1) (.bool q.v.h.b)).set (k * 8 + 2) (.int .i64 q.v.h.n)).set (k * 8 + 3) (.string q.v.h.s)).set (k * 8 + 4) (.string q.v.h.t)).set (k * 8 + 5) (.string q.v.h.i)).set (k * 8 + 6) (.slice q.ai q.v.l.length q.ci)).set (k * 8 + 7) (.slice q.an q.v.ns.length q.cn) = (l.set k q).flatMap encV
  | [], k, h => by simp at h
  | x :: l, 0, _ => by simp [encV, hdc, El.it, El.nm]
  | x :: l, k + 1, h => by
    have ih := flat_set8 q l k (by simpa using h)
    rw [List.set_cons_succ, List.flatMap_cons, List.flatMap_cons, ← ih]
    have e : ∀ c (m : List Value) (u : Value), (encV x ++ m).set ((k + 1) * 8 + c) u = encV x ++ m.set (k * 8 + c) u := fun c m u => by
      rw [List.set_append_right _ _ (by rw [encV_len]; omega), encV_len, show (k + 1) * 8 + c - 8 = k * 8 + c by omega]
    have e0 := e 0
    simp only [Nat.add_zero] at e0
    rw [e0, e 1, e 2, e 3, e 4, e 5, e 6, e 7]
theorem kept_setCell (w : World) (g o : Nat) (v : Value) : KeptBut w (w.setCell ⟨g, o, none⟩ v) (some g) :=
  ⟨rfl, rfl, by simp, fun b _ hb => Below.heap_setCell w ⟨g, o, none⟩ v b fun e => hb (by rw [e])⟩
theorem stored8 {B : Nat} {w : World} {g cap n : Nat} {cs : List El} {k : Nat} (q : El) (h : OwnV B w (.slice (some ⟨g, 0, none⟩) n cap) cs) (hk : k < cs.length) (hn : n = cs.length) :
    OwnV B ((((((((w.setCell ⟨g, k * 8, none⟩ (.int .i64 q.v.h.k)).setCell ⟨g, k * 8 + 1, none⟩ (.bool q.v.h.b)).setCell ⟨g, k * 8 + 2, none⟩ (.int .i64 q.v.h.n)).setCell ⟨g, k * 8 + 3, none⟩ (.string q.v.h.s)).setCell ⟨g, k * 8 + 4, none⟩ (.string q.v.h.t)).setCell ⟨g, k * 8 + 5, none⟩ (.string q.v.h.i)).setCell ⟨g, k * 8 + 6, none⟩ (.slice q.ai q.v.l.length q.ci)).setCell ⟨g, k * 8 + 7, none⟩ (.slice q.an q.v.ns.length q.cn)) (.slice (some ⟨g, 0, none⟩) n cap) (cs.set k q) ∧
    KeptBut w ((((((((w.setCell ⟨g, k * 8, none⟩ (.int .i64 q.v.h.k)).setCell ⟨g, k * 8 + 1, none⟩ (.bool q.v.h.b)).setCell ⟨g, k * 8 + 2, none⟩ (.int .i64 q.v.h.n)).setCell ⟨g, k * 8 + 3, none⟩ (.string q.v.h.s)).setCell ⟨g, k * 8 + 4, none⟩ (.string q.v.h.t)).setCell ⟨g, k * 8 + 5, none⟩ (.string q.v.h.i)).setCell ⟨g, k * 8 + 6, none⟩ (.slice q.ai q.v.l.length q.ci)).setCell ⟨g, k * 8 + 7, none⟩ (.slice q.an q.v.ns.length q.cn)) (some g) := by
  subst hn
  refine ⟨?_, ?_⟩
  · unfold OwnV OwnR at *
    rw [← flat_set8 q cs k hk, List.length_set]
    have h0 := (World.ownsRow.stored h (k * 8) (.int .i64 q.v.h.k)).1
    have h1 := (World.ownsRow.stored h0 (k * 8 + 1) (.bool q.v.h.b)).1
    have h2 := (World.ownsRow.stored h1 (k * 8 + 2) (.int .i64 q.v.h.n)).1
    have h3 := (World.ownsRow.stored h2 (k * 8 + 3) (.string q.v.h.s)).1
    have h4 := (World.ownsRow.stored h3 (k * 8 + 4) (.string q.v.h.t)).1
    have h5 := (World.ownsRow.stored h4 (k * 8 + 5) (.string q.v.h.i)).1
    have h6 := (World.ownsRow.stored h5 (k * 8 + 6) (.slice q.ai q.v.l.length q.ci)).1
    exact (World.ownsRow.stored h6 (k * 8 + 7) (.slice q.an q.v.ns.length q.cn)).1
  · exact (kept_setCell _ _ _ _).trans ((kept_setCell _ _ _ _).trans ((kept_setCell _ _ _ _).trans ((kept_setCell _ _ _ _).trans ((kept_setCell _ _ _ _).trans ((kept_setCell _ _ _ _).trans ((kept_setCell _ _ _ _).trans (kept_setCell _ _ _ _)))))))
/-- The zero values that clear lays. -/
def zeros (n : Nat) : List Value := (Builtin.zeroCells #[.int .i64 0, .bool false, .int .i64 0, .string ⟨#[]⟩, .string ⟨#[]⟩, .string ⟨#[]⟩, .slice none 0 0, .slice none 0 0] n).toList
theorem zeros_len (n : Nat) : (zeros n).length = n * 8 := by simp [zeros, size_zeroCells]
theorem zeros_one (n : Nat) : ∀ v ∈ zeros n, v.oneCell' = true := by
  intro v hv
  simp only [zeros, Builtin.zeroCells] at hv
  simp only [Array.toList_map, List.mem_map] at hv
  obtain ⟨t, _, rfl⟩ := hv
  have hm : t % 8 < 8 := Nat.mod_lt _ (by decide)
  show (_ : Value).oneCell' = true
  have : ∀ c, c < 8 → ((#[.int .i64 0, .bool false, .int .i64 0, .string ⟨#[]⟩, .string ⟨#[]⟩, .string ⟨#[]⟩, .slice none 0 0, .slice none 0 0] : Array Value)[c]!).oneCell' = true := by
    intro c hc
    match c, hc with
    | 0, _ => rfl
    | 1, _ => rfl
    | 2, _ => rfl
    | 3, _ => rfl
    | 4, _ => rfl
    | 5, _ => rfl
    | 6, _ => rfl
    | 7, _ => rfl
  exact this _ hm
theorem run_clearV (w : World) (g o n c : Nat) (ty : TypeId) (hn : 0 < n) (hc : ∀ j, j < n * 8 → (w.cell? ⟨g, o + j, none⟩).isSome = true) (hf : ∀ j, j < n * 8 → w.frozen? ⟨g, o + j, none⟩ = false) :
    (Builtin.clear_ #[34] ty #[.slice (some ⟨g, o, none⟩) n c]).run Tryz.prog w = .ok (.tuple #[]) (w.setCells g o (zeros n)) := by
  have hst := run_storeCells_cells (P := Tryz.prog) g o (zeros n) 0 w (by rw [zeros_len]; simpa using hc) (by rw [zeros_len]; simpa using hf) (zeros_one n)
  simp only [Nat.add_zero] at hst
  obtain ⟨m, rfl⟩ : ∃ m, n = m + 1 := ⟨n - 1, by omega⟩
  unfold zeros at hst
  simp [Builtin.clear_, run_underlying Tryz.underlying34, Tryz.zeroValue37, hst, zeros, Value.cells]
theorem kept_setCells (g : Nat) : ∀ (vs : List Value) (o : Nat) (w : World), KeptBut w (w.setCells g o vs) (some g)
  | [], _, w => KeptBut.refl w _
  | v :: r, o, w => by rw [World.setCells]; exact (kept_setCell w g o v).trans (kept_setCells g r (o + 1) _)
/-- The first k of a row of the call's own, where all behind may have turned. -/
theorem row_prefix {B : Nat} {w w' : World} {g cap n k : Nat} {cs : List El} (h : OwnV B w (.slice (some ⟨g, 0, none⟩) n cap) cs) (E : ∀ p ∈ cs, ElOk (fun b => B ≤ b ∧ some b ≠ some g) w p) (hk : k ≤ cs.length) (hg : B ≤ g) (hn : n ≤ cap) (hcap : cap ≤ 9223372036854775807) (hcn : cs.length = n)
    (hc : ∀ j, j < k * 8 → w'.cell? ⟨g, j, none⟩ = w.cell? ⟨g, j, none⟩) (hK : KeptBut w w' (some g)) : RowAt (fun b => B ≤ b) w' ((cs.take k).map (·.v)) (.slice (some ⟨g, 0, none⟩) k cap) := by
  have hl : ((cs.take k).map (·.v)).length = k := by rw [List.length_map, List.length_take, Nat.min_eq_left hk]
  refine ⟨some ⟨g, 0, none⟩, cap, by rw [hl], ⟨by omega, hcap⟩, .inr ⟨g, 0, rfl, hg, repF_of fun j hj => ?_⟩⟩
  have hjk : j < k := by omega
  have hj' : j < cs.length := by omega
  have hget : ((cs.take k).map (·.v))[j] = cs[j].v := by simp
  refine ⟨cs[j].it, cs[j].nm, fun c u hu => ?_, ?_⟩
  · rw [hget] at hu
    have h8 : c < 8 := by have := (List.getElem?_eq_some_iff.1 hu).1; simpa [hdc] using this
    rw [Nat.zero_add, hc (j * 8 + c) (by omega), OwnR.cell encV_len h j c hj' h8]
    exact hu
  · rw [hget]
    exact Rep.to (fun b ha hb => ⟨ha.1, hK.2.2.2 b hb ha.2⟩) _ (E cs[j] (List.getElem_mem hj'))
end Go.Proofs.YtmkillbanmbafaaGreat
namespace Go.Proofs.YtmkillbanmbafaaGreat
open Go.RowKit Go.Sort
def sameV : Value := .func (.func 108) #[] #[]
theorem take_snoc {α : Type} {l : List α} {i : Nat} (h : i < l.length) : l.take (i + 1) = l.take i ++ [l[i]] := List.take_succ_eq_append_getElem h
theorem ddAt_snoc {α : Type} (c : α → α → Int) (x : α) : ∀ (l : List α) (p : α), ddAt c p (l ++ [x]) = if c x ((p :: l).getLast (by simp)) = 0 then ddAt c p l else ddAt c p l ++ [x]
  | [], p => by rw [List.nil_append, ddAt]; rfl
  | y :: l, p => by
    have ih := ddAt_snoc c x l y
    have hl : (p :: y :: l).getLast (by simp) = (y :: l).getLast (by simp) := by simp
    rw [hl, List.cons_append, ddAt, ddAt, ih]
    by_cases h1 : c y p = 0
    · rw [if_pos h1, if_pos h1]
    · rw [if_neg h1, if_neg h1]
      by_cases h2 : c x ((y :: l).getLast (by simp)) = 0
      · rw [if_pos h2, if_pos h2]
      · rw [if_neg h2, if_neg h2]; rfl
theorem take_last {α : Type} : ∀ (l : List α) (y : α) (m : Nat) (h : m ≤ l.length), (y :: l.take m).getLast (by simp) = (y :: l)[m]'(by simp; omega)
  | _, _, 0, _ => by simp
  | [], _, m + 1, h => by simp at h
  | z :: l, y, m + 1, h => by
    have ih := take_last l z m (by simpa using h)
    simp only [List.take_succ_cons, List.getElem_cons_succ]
    rw [List.getLast_cons (by simp)]
    exact ih
theorem dd_snoc {α : Type} (c : α → α → Int) {l : List α} {m : Nat} (hm : 1 ≤ m) (h : m < l.length) :
    dd c (l.take (m + 1)) = if c l[m] (l[m - 1]'(by omega)) = 0 then dd c (l.take m) else dd c (l.take m) ++ [l[m]] := by
  rw [take_snoc h]
  cases l with
  | nil => simp at h
  | cons y l =>
    obtain ⟨m, rfl⟩ : ∃ k, m = k + 1 := ⟨m - 1, by omega⟩
    have e := take_last l y m (by simp at h; omega)
    rw [List.take_succ_cons, List.cons_append, dd, dd, ddAt_snoc, e]
    simp only [Nat.add_sub_cancel]
    split
    · rfl
    · rfl
theorem dd_one {α : Type} (c : α → α → Int) {l : List α} (h : 1 ≤ l.length) : dd c (l.take 1) = l.take 1 := by
  cases l with
  | nil => simp at h
  | cons y l => rfl
/-- A row of the call's own, an element's cells. -/
theorem ownV_cells {B : Nat} {w : World} {g cap n : Nat} {l : List El} (h : OwnV B w (.slice (some ⟨g, 0, none⟩) n cap) l) {j : Nat} (hj : j < l.length) : CellsAt w g (j * 8) (hdc l[j].v.h (.slice l[j].ai l[j].v.l.length l[j].ci) (.slice l[j].an l[j].v.ns.length l[j].cn)) := fun c u hu => by
  have hc : c < 8 := by have := (List.getElem?_eq_some_iff.1 hu).1; simpa [hdc] using this
  rw [OwnR.cell encV_len h j c hj hc]
  exact hu
/-- What CompactFunc leaves. -/
def CompP (B : Nat) (r : Option Nat) (l : List V) (w : World) (e : Ending) (w' : World) : Prop := ∃ v, e = .returned v ∧ RowAt (fun b => B ≤ b) w' l v ∧ KeptBut w w' r
set_option maxHeartbeats 4000000 in
theorem comp_some (B g cap : Nat) (ps : List El) (w : World) (O : OwnV B w (.slice (some ⟨g, 0, none⟩) ps.length cap) ps) (E : ∀ p ∈ ps, ElOk (fun b => B ≤ b ∧ some b ≠ some g) w p) (hn : ps.length ≤ 70000) :
    Calls Tryz.prog 107 #[.slice (some ⟨g, 0, none⟩) ps.length cap, sameV] w (CompP B (some g) (dd ord (ps.map (·.v))) w) := by
  obtain ⟨_, _, hv, hc1, hc2, -⟩ := O.shape
  simp only [Value.slice.injEq] at hv
  obtain ⟨-, -, rfl⟩ := hv
  unfold sameV
  have hgB : B ≤ g := ((World.ownsRow.lt O) g rfl).1
  have HO := Lib.hid O
  have HE := Lib.hid E
  clear O E
  by_cases h2 : ps.length < 2
  · have z2 : (ps.length : Int) < 2 := by omega
    have hd : dd ord (ps.map (·.v)) = ps.map (·.v) := by
      have := dd_one ord (l := ps.map (·.v))
      rcases Nat.lt_or_ge ps.length 1 with h | h
      · rw [List.eq_nil_of_length_eq_zero (show ps.length = 0 by omega)]; rfl
      · have h1 := this (by simpa using h)
        rwa [List.take_of_length_le (by simp; omega)] at h1
    rw [hd]
    have HR := Lib.hid (show RowAt (fun b => B ≤ b) w (ps.map (·.v)) (.slice (some ⟨g, 0, none⟩) ps.length cap) from ownV_row HO.out HE.out (fun b h => h.1) fun x hx => by simp [Value.ownBlock] at hx; subst hx; exact hgB)
    clear hd
    go_enter Tryz.func107, Tryz.ntmps107
    go_wp2_with fail
    go_ret
    exact ⟨_, rfl, HR.out, KeptBut.refl _ _⟩
  · have z2 : ¬ (ps.length : Int) < 2 := by omega
    obtain ⟨r, hr⟩ : ∃ r, r = dd ord (ps.map (·.v)) := ⟨_, rfl⟩
    rw [← hr]
    have HRR := Lib.hid hr
    clear hr
    generalize hnn : ps.length = n at *
    go_enter Tryz.func107, Tryz.ntmps107
    go_wp2_with fail
    go_loopg [5] n (fun gk vi wr => ∃ i : Nat, vi = .int .i64 ((i : Int) + 1) ∧ i + 1 ≤ n ∧ n - i ≤ gk ∧ Hid (Gr w wr) ∧ Hid (dd ord ((ps.map (·.v)).take (i + 1)) = (ps.map (·.v)).take (i + 1)))
    case atStart => exact ⟨0, rfl, by omega, by omega, Lib.hid (Gr.refl _), Lib.hid (dd_one ord (by simp; omega))⟩
    case round =>
      obtain ⟨i, rfl, hi, hg, G, K⟩ := hrel
      have OW := Lib.hid (show OwnV B wr (.slice (some ⟨g, 0, none⟩) n cap) ps from HO.out.low G.out.low)
      have EW := Lib.hid (show ∀ p ∈ ps, ElOk (fun b => B ≤ b ∧ some b ≠ some g) wr p from fun p hp => Rep.low (HE.out p hp) G.out.low)
      by_cases hlt : i + 1 < n
      · have z1 : (i : Int) + 1 < (n : Int) := by omega
        have z3 : (i : Int) < (n : Int) := by omega
        have z4 : (0 : Int) ≤ (i : Int) + 1 := by omega
        have z5 : ((i : Int) + 1).toNat = i + 1 := by omega
        have z6 : IntKind.i64.wrap (i : Int) = (i : Int) := by rw [IntKind.wrap_i64]; omega
        have hp1 : i + 1 < ps.length := by omega
        have hp2 : i < ps.length := by omega
        obtain ⟨p, hp⟩ : ∃ p, p = ps[i + 1] := ⟨_, rfl⟩
        obtain ⟨p', hp'⟩ : ∃ p, p = ps[i] := ⟨_, rfl⟩
        have hcs := ownV_cells OW.out hp1
        have hcs' := ownV_cells OW.out hp2
        rw [← hp] at hcs
        rw [← hp'] at hcs'
        obtain ⟨e0, e1, e2, e3, e4, e5, e6, e7⟩ := cells8 hcs
        obtain ⟨d0, d1, d2, d3, d4, d5, d6, d7⟩ := cells8 hcs'
        have hR : R wr p.v p.it p.nm := by rw [hp]; exact (EW.out _ (List.getElem_mem hp1)).any
        have hR' : R wr p'.v p'.it p'.nm := by rw [hp']; exact (EW.out _ (List.getElem_mem hp2)).any
        have hcon := fun W (h : Low wr W) => same_c p.v p'.v W _ _ _ _ (hR.low h) (hR'.low h)
        have hsn := dd_snoc ord (l := ps.map (·.v)) (m := i + 1) (by omega) (by simpa using hp1)
        rw [K.out] at hsn
        simp only [Nat.add_sub_cancel, List.getElem_map, ← hp, ← hp'] at hsn
        obtain ⟨c, hc⟩ : ∃ c, c = ord p.v p'.v := ⟨_, rfl⟩
        rw [← hc] at hcon hsn
        have HC := Lib.hid hcon
        have HS := Lib.hid hsn
        have G1 := Lib.hid G.out.drew
        clear hcon hcs hcs' hR hR' hsn hc
        have HP := Lib.hid hp
        have HP' := Lib.hid hp'
        clear hp hp'
        unfold av El.it El.nm at HC
        go_wp2_with fail
        go_region_held3 (fun w' => w'.cell? ⟨g, (i + 1) * 8, none⟩ = some (.int .i64 p.v.h.k) ∧ w'.cell? ⟨g, (i + 1) * 8 + 1, none⟩ = some (.bool p.v.h.b) ∧ w'.cell? ⟨g, (i + 1) * 8 + 2, none⟩ = some (.int .i64 p.v.h.n) ∧ w'.cell? ⟨g, (i + 1) * 8 + 3, none⟩ = some (.string p.v.h.s) ∧ w'.cell? ⟨g, (i + 1) * 8 + 4, none⟩ = some (.string p.v.h.t) ∧ w'.cell? ⟨g, (i + 1) * 8 + 5, none⟩ = some (.string p.v.h.i) ∧ w'.cell? ⟨g, (i + 1) * 8 + 6, none⟩ = some (.slice p.ai p.v.l.length p.ci) ∧ w'.cell? ⟨g, (i + 1) * 8 + 7, none⟩ = some (.slice p.an p.v.ns.length p.cn) ∧ w'.cell? ⟨g, i * 8, none⟩ = some (.int .i64 p'.v.h.k) ∧ w'.cell? ⟨g, i * 8 + 1, none⟩ = some (.bool p'.v.h.b) ∧ w'.cell? ⟨g, i * 8 + 2, none⟩ = some (.int .i64 p'.v.h.n) ∧ w'.cell? ⟨g, i * 8 + 3, none⟩ = some (.string p'.v.h.s) ∧ w'.cell? ⟨g, i * 8 + 4, none⟩ = some (.string p'.v.h.t) ∧ w'.cell? ⟨g, i * 8 + 5, none⟩ = some (.string p'.v.h.i) ∧ w'.cell? ⟨g, i * 8 + 6, none⟩ = some (.slice p'.ai p'.v.l.length p'.ci) ∧ w'.cell? ⟨g, i * 8 + 7, none⟩ = some (.slice p'.an p'.v.ns.length p'.cn)) (go_keep) (first
          | (go_at_call 108; refine (HC.out _ (Gr.refl _).drew.low).mono ?_; rintro e w1 ⟨rfl, gr⟩; have e0 := gr.cell e0; have d0 := gr.cell d0; have e1 := gr.cell e1; have d1 := gr.cell d1; have e2 := gr.cell e2; have d2 := gr.cell d2; have e3 := gr.cell e3; have d3 := gr.cell d3; have e4 := gr.cell e4; have d4 := gr.cell d4; have e5 := gr.cell e5; have d5 := gr.cell d5; have e6 := gr.cell e6; have d6 := gr.cell d6; have e7 := gr.cell e7; have d7 := gr.cell d7; have G2 := Lib.hid (G1.out.trans gr)))
        by_cases h0 : c = 0
        · subst h0
          have hwx : IntKind.i64.wrap ((i : Int) + 1) = (i : Int) + 1 := by rw [IntKind.wrap_i64]; omega
          have z7 : (i : Int) + 1 ≤ (cap : Int) := by omega
          have z8 : (i : Int) + 1 ≤ (n : Int) := by omega
          clear e0 e1 e2 e3 e4 e5 e6 e7 d0 d1 d2 d3 d4 d5 d6 d7 gr HC
          have hP := Lib.hid (show dd ord ((ps.map (·.v)).take (i + 1 + 1)) = (ps.map (·.v)).take (i + 1) by rw [HS.out, if_pos rfl])
          go_wp2_with fail
          have LW := Lib.hid G2.out.low
          clear z1 z3 z4 z5 z6 hwx z7 z8
          go_loopg [5, 7] n (fun gk2 vk vj wr2 => ∃ (k j : Nat) (cs : List El), vk = .int .i64 (k : Int) ∧ vj = .int .i64 ((j : Int) + 1) ∧ k ≤ i + 1 + j ∧ i + 1 + j + 1 ≤ n ∧ n - j ≤ gk2 ∧ cs.length = n ∧
            Hid (OwnV B wr2 (.slice (some ⟨g, 0, none⟩) n cap) cs) ∧ Hid (∀ p ∈ cs, ElOk (fun b => B ≤ b ∧ some b ≠ some g) wr2 p) ∧ Hid ((cs.take k).map (·.v) = dd ord ((ps.map (·.v)).take (i + 1 + j + 1))) ∧
            Hid (∀ x (h1 : x < cs.length) (h2 : x < ps.length), i + 1 + j ≤ x → cs[x] = ps[x]) ∧ Hid (KeptBut w wr2 (some g)))
          case atStart => exact ⟨i + 1, 0, ps, rfl, rfl, by omega, by omega, by omega, hnn, Lib.hid (HO.out.low LW.out), Lib.hid fun p hp => Rep.low (HE.out p hp) LW.out, Lib.hid (by rw [List.map_take]; exact hP.out.symm), Lib.hid fun x h1 h2 _ => rfl, Lib.hid (KeptBut.of_low LW.out)⟩
          case round =>
            obtain ⟨k, j, cs, rfl, rfl, hk, hj, hg2, hcl, O2, E2, T2, Q2, K2⟩ := hrel
            by_cases hl2 : i + 1 + j + 1 < n
            · have z1 : (j : Int) + 1 < ((n - (i + 1) : Nat) : Int) := by omega
              have z3 : (j : Int) < ((n - (i + 1) : Nat) : Int) := by omega
              have z4 : (0 : Int) ≤ (j : Int) + 1 := by omega
              have z5 : ((j : Int) + 1).toNat = j + 1 := by omega
              have z6 : IntKind.i64.wrap (j : Int) = (j : Int) := by rw [IntKind.wrap_i64]; omega
              have hp1 : i + 1 + j + 1 < cs.length := by omega
              have hp2 : i + 1 + j < cs.length := by omega
              have hp3 : i + 1 + j + 1 < ps.length := by omega
              have hp4 : i + 1 + j < ps.length := by omega
              have hp5 : k < cs.length := by omega
              obtain ⟨q, hq⟩ : ∃ p, p = cs[i + 1 + j + 1] := ⟨_, rfl⟩
              obtain ⟨q', hq'⟩ : ∃ p, p = cs[i + 1 + j] := ⟨_, rfl⟩
              have hcs := ownV_cells O2.out hp1
              have hcs' := ownV_cells O2.out hp2
              rw [← hq, show (i + 1 + j + 1) * 8 = (i + 1) * 8 + (j + 1) * 8 by omega] at hcs
              rw [← hq', show (i + 1 + j) * 8 = (i + 1) * 8 + j * 8 by omega] at hcs'
              obtain ⟨e0, e1, e2, e3, e4, e5, e6, e7⟩ := cells8 hcs
              obtain ⟨d0, d1, d2, d3, d4, d5, d6, d7⟩ := cells8 hcs'
              have hR : R wr q.v q.it q.nm := by rw [hq]; exact (E2.out _ (List.getElem_mem hp1)).any
              have hR' : R wr q'.v q'.it q'.nm := by rw [hq']; exact (E2.out _ (List.getElem_mem hp2)).any
              have hcon := fun W (h : Low wr W) => same_c q.v q'.v W _ _ _ _ (hR.low h) (hR'.low h)
              have hsn := dd_snoc ord (l := ps.map (·.v)) (m := i + 1 + j + 1) (by omega) (by simpa using hp3)
              rw [← T2.out] at hsn
              simp only [Nat.add_sub_cancel, List.getElem_map, ← Q2.out _ hp1 hp3 (by omega), ← Q2.out _ hp2 hp4 (Nat.le_refl _), ← hq, ← hq'] at hsn
              obtain ⟨c, hc⟩ : ∃ c, c = ord q.v q'.v := ⟨_, rfl⟩
              rw [← hc] at hcon hsn
              have HC := Lib.hid hcon
              have HS2 := Lib.hid hsn
              have G3 := Lib.hid ((Gr.refl wr).drew)
              have hqm : q ∈ cs := by rw [hq]; exact List.getElem_mem hp1
              have HQM := Lib.hid hqm
              clear hcon hcs hcs' hR hR' hsn hc hqm hq hq'
              unfold av El.it El.nm at HC
              go_wp2_with fail
              go_region_held3 (fun w' => w'.cell? ⟨g, (i + 1) * 8 + (j + 1) * 8, none⟩ = some (.int .i64 q.v.h.k) ∧ w'.cell? ⟨g, (i + 1) * 8 + (j + 1) * 8 + 1, none⟩ = some (.bool q.v.h.b) ∧ w'.cell? ⟨g, (i + 1) * 8 + (j + 1) * 8 + 2, none⟩ = some (.int .i64 q.v.h.n) ∧ w'.cell? ⟨g, (i + 1) * 8 + (j + 1) * 8 + 3, none⟩ = some (.string q.v.h.s) ∧ w'.cell? ⟨g, (i + 1) * 8 + (j + 1) * 8 + 4, none⟩ = some (.string q.v.h.t) ∧ w'.cell? ⟨g, (i + 1) * 8 + (j + 1) * 8 + 5, none⟩ = some (.string q.v.h.i) ∧ w'.cell? ⟨g, (i + 1) * 8 + (j + 1) * 8 + 6, none⟩ = some (.slice q.ai q.v.l.length q.ci) ∧ w'.cell? ⟨g, (i + 1) * 8 + (j + 1) * 8 + 7, none⟩ = some (.slice q.an q.v.ns.length q.cn) ∧ w'.cell? ⟨g, (i + 1) * 8 + j * 8, none⟩ = some (.int .i64 q'.v.h.k) ∧ w'.cell? ⟨g, (i + 1) * 8 + j * 8 + 1, none⟩ = some (.bool q'.v.h.b) ∧ w'.cell? ⟨g, (i + 1) * 8 + j * 8 + 2, none⟩ = some (.int .i64 q'.v.h.n) ∧ w'.cell? ⟨g, (i + 1) * 8 + j * 8 + 3, none⟩ = some (.string q'.v.h.s) ∧ w'.cell? ⟨g, (i + 1) * 8 + j * 8 + 4, none⟩ = some (.string q'.v.h.t) ∧ w'.cell? ⟨g, (i + 1) * 8 + j * 8 + 5, none⟩ = some (.string q'.v.h.i) ∧ w'.cell? ⟨g, (i + 1) * 8 + j * 8 + 6, none⟩ = some (.slice q'.ai q'.v.l.length q'.ci) ∧ w'.cell? ⟨g, (i + 1) * 8 + j * 8 + 7, none⟩ = some (.slice q'.an q'.v.ns.length q'.cn)) (go_keep) (first
                | (go_at_call 108; refine (HC.out _ (Gr.refl _).drew.low).mono ?_; rintro e w1 ⟨rfl, gr⟩; have e0 := gr.cell e0; have d0 := gr.cell d0; have e1 := gr.cell e1; have d1 := gr.cell d1; have e2 := gr.cell e2; have d2 := gr.cell d2; have e3 := gr.cell e3; have d3 := gr.cell d3; have e4 := gr.cell e4; have d4 := gr.cell d4; have e5 := gr.cell e5; have d5 := gr.cell d5; have e6 := gr.cell e6; have d6 := gr.cell d6; have e7 := gr.cell e7; have d7 := gr.cell d7; have G4 := Lib.hid (G3.out.trans gr)))
              by_cases h0 : c = 0
              · subst h0
                have hT := HS2.out
                rw [if_pos rfl] at hT
                have HT := Lib.hid hT
                clear e0 e1 e2 e3 e4 e5 e6 e7 d0 d1 d2 d3 d4 d5 d6 d7 gr HC hT
                go_wp2_with fail
                go_roundg (n - (j + 1))
                case measure => omega
                case rel =>
                  exact ⟨k, j + 1, cs, rfl, by go_num, by omega, by omega, by omega, hcl, Lib.hid (O2.out.low G4.out.low), Lib.hid fun p hp => Rep.low (E2.out p hp) G4.out.low, Lib.hid HT.out.symm, Lib.hid fun x h1 h2 h => Q2.out x h1 h2 (by omega), Lib.hid (K2.out.trans (KeptBut.of_low G4.out.low))⟩
              · have hO := O2.out.low G4.out.low
                have hks := ownV_cells (show OwnV B _ (.slice (some ⟨g, 0, none⟩) n cap) cs from hO) hp5
                obtain ⟨s0, s1, s2, s3, s4, s5, s6, s7⟩ := cells8 hks
                have f0 := OwnR.frozen hO (k * 8)
                have f1 := OwnR.frozen hO (k * 8 + 1)
                have f2 := OwnR.frozen hO (k * 8 + 2)
                have f3 := OwnR.frozen hO (k * 8 + 3)
                have f4 := OwnR.frozen hO (k * 8 + 4)
                have f5 := OwnR.frozen hO (k * 8 + 5)
                have f6 := OwnR.frozen hO (k * 8 + 6)
                have f7 := OwnR.frozen hO (k * 8 + 7)
                have HO4 := Lib.hid hO
                have zk : (k : Int) < (n : Int) := by omega
                have hb : (!(c == 0)) = true := by simpa using h0
                have zk1 : IntKind.i64.wrap ((k : Int) + 1) = (k : Int) + 1 := by rw [IntKind.wrap_i64]; omega
                clear hO hks d0 d1 d2 d3 d4 d5 d6 d7 gr HC
                go_wp2_with fail
                · obtain ⟨O3, K3⟩ := stored8 q (show OwnV B _ (.slice (some ⟨g, 0, none⟩) n cap) cs from HO4.out) hp5 hcl.symm
                  have hT := HS2.out
                  rw [if_neg h0] at hT
                  have O4 := Lib.hid O3
                  have K4 := Lib.hid K3
                  have HT := Lib.hid hT
                  clear O3 K3 hT s0 s1 s2 s3 s4 s5 s6 s7 f0 f1 f2 f3 f4 f5 f6 f7 e0 e1 e2 e3 e4 e5 e6 e7
                  go_roundg (n - (j + 1))
                  case measure => omega
                  case rel =>
                    refine ⟨k + 1, j + 1, cs.set k q, by go_num, by go_num, by omega, by omega, by omega, by rw [List.length_set]; exact hcl, O4, Lib.hid fun p hp => ?_, Lib.hid ?_, Lib.hid fun x h1 h2 h => ?_, Lib.hid ((K2.out.trans (KeptBut.of_low G4.out.low)).trans K4.out)⟩
                    · have hpc : p ∈ cs := by
                        rcases List.mem_or_eq_of_mem_set hp with h | h
                        · exact h
                        · rw [h]; exact HQM.out
                      exact K4.out.el (Rep.low (E2.out p hpc) G4.out.low)
                    · rw [show i + 1 + (j + 1) + 1 = i + 1 + j + 1 + 1 by omega, HT.out, take_snoc (by rw [List.length_set]; exact hp5), List.getElem_set_self, List.take_set_of_le (Nat.le_refl _), List.map_append]
                      rfl
                    · rw [List.getElem_set_ne (by omega)]
                      exact Q2.out x (by simpa using h1) h2 (by omega)
                · exfalso
                  rename_i hx
                  rw [hb] at hx
                  simp at hx
            · have hend : i + 1 + j + 1 = n := by omega
              have z1 : ¬ (j : Int) + 1 < ((n - (i + 1) : Nat) : Int) := by omega
              have zk2 : (k : Int) ≤ (n : Int) := by omega
              have zk3 : (k : Int) ≤ (cap : Int) := by omega
              have zk5 : k ≤ n := by omega
              have hcell : ∀ x, x < (n - k) * 8 → (wr.cell? ⟨g, k * 8 + x, none⟩).isSome = true := fun x hx => by
                have h8 : x % 8 < 8 := Nat.mod_lt _ (by decide)
                have hxk : k + x / 8 < cs.length := by omega
                have := OwnR.cell encV_len O2.out (k + x / 8) (x % 8) hxk h8
                rw [show (k + x / 8) * 8 + x % 8 = k * 8 + x by omega, List.getElem?_eq_getElem (by rw [encV_len]; exact h8)] at this
                rw [this]; rfl
              have hfr : ∀ x, x < (n - k) * 8 → wr.frozen? ⟨g, k * 8 + x, none⟩ = false := fun x _ => OwnR.frozen O2.out _
              have hcl2 := fun ty => run_clearV wr g (k * 8) (n - k) (cap - k) ty (by omega) hcell hfr
              have K3 := kept_setCells g (zeros (n - k)) (k * 8) wr
              have hrow := row_prefix (w' := wr.setCells g (k * 8) (zeros (n - k))) (k := k) O2.out E2.out (by omega) hgB (by omega) (by omega) hcl (fun x hx => World.cell?_setCells_out g _ _ _ _ fun _ _ => .inl hx) K3
              rw [T2.out, hend, List.take_of_length_le (by simp; omega), ← HRR.out] at hrow
              have HROW := Lib.hid hrow
              have HK3 := Lib.hid K3
              clear hcell hfr hrow K3
              go_wp2_with fail
              go_ret
              exact ⟨_, rfl, HROW.out, K2.out.trans HK3.out⟩
        · have hT := HS.out
          rw [if_neg h0] at hT
          have hb : (c == 0) = false := by simpa using h0
          have HT := Lib.hid hT
          clear e0 e1 e2 e3 e4 e5 e6 e7 d0 d1 d2 d3 d4 d5 d6 d7 gr HC hT
          go_wp2_with fail
          go_roundg (n - (i + 1))
          case measure => omega
          case rel =>
            refine ⟨i + 1, by go_num, by omega, by omega, G2, Lib.hid ?_⟩
            rw [HT.out, HP.out, take_snoc (show i + 1 < (ps.map (·.v)).length by simpa using hp1), List.getElem_map]
      · have z1 : ¬ (i : Int) + 1 < (n : Int) := by omega
        have hrr : r = ps.map (·.v) := by
          have := K.out
          rw [List.take_of_length_le (by simp; omega)] at this
          rw [HRR.out]; exact this
        have HR := Lib.hid (show RowAt (fun b => B ≤ b) wr r (.slice (some ⟨g, 0, none⟩) n cap) by
          rw [hrr]; exact ownV_row OW.out EW.out (fun b h => h.1) fun x hx => by simp [Value.ownBlock] at hx; subst hx; exact hgB)
        clear hrr
        go_wp2_with fail
        go_ret
        exact ⟨_, rfl, HR.out, KeptBut.of_low G.out.low⟩
end Go.Proofs.YtmkillbanmbafaaGreat
