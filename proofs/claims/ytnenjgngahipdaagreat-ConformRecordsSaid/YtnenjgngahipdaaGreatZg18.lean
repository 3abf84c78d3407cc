/- A row that a call made itself, sorted by the library. No condition. A value stored into a row of the call's own; what is behind a row's first ones cleared. No condition. Of those in a row that are the same, the first of each run: what CompactFunc leaves. No condition. A set as it must be. Condition: all rows are short. -/
import Derived.Test.YtnenjgngahipdaaGreatZCanI
import Derived.Test.YtnenjgngahipdaaGreatZg11
import Derived.Test.YtnenjgngahipdaaGreatSort
import Derived.Shelf.SlSortCmp.WholeK
import Derived.Laws.OwnMore
import Derived.Shelf.SlSortCmp.NoneTotal
set_option linter.unusedVariables false
set_option linter.unusedSimpArgs false
set_option linter.unnecessarySimpa false
namespace Go.Proofs.YtnenjgngahipdaaGreat
open Go.RowKit Go.Sort Go.Lib
section
variable {α : Type} [Inhabited α]
theorem row_holds {e : TypeId} {k : Nat} {enc : α → List Value} (hk : ∀ x, (enc x).length = k) {B : Nat} {w : World} {g cap n : Nat} {l : List α} (h : OwnR e k enc B w (.slice (some ⟨g, 0, none⟩) n cap) l) : HoldsK enc k w g 0 l.toArray := by
  intro j hj
  have hj2 : j < l.length * k := by simpa using hj
  have hk0 : 0 < k := by rcases Nat.eq_zero_or_pos k with h0 | h0; (rw [h0] at hj2; simp at hj2); exact h0
  have hd : j / k < l.length := Nat.div_lt_of_lt_mul (by rwa [Nat.mul_comm])
  have hm : j % k < k := Nat.mod_lt _ hk0
  have hc := OwnR.cell hk h (j / k) (j % k) hd hm
  rw [Nat.div_add_mod'] at hc
  refine ⟨?_, by rw [Nat.zero_add]; exact h.frozen j⟩
  rw [Nat.zero_add, hc, get_flatK _ _ _ _ (by simpa using hj2)]
  have hx : l.toArray[j / k]! = l[j / k] := by simp [hd]
  rw [hx, List.getElem?_eq_getElem (by rw [hk]; exact hm)]
  simp [getElem!_pos, hk, hm]
theorem sort_other {enc : α → List Value} {k : Nat} (w : World) (g m : Nat) (d : Array α) (os : Array Obj) (b : Nat) (hb : b < w.heap.size) (hne : b ≠ g) : (sortWorldK enc k w g 0 m d os).heap[b]? = w.heap[b]? := by
  unfold sortWorldK
  rw [heap_grow_old _ _ (by rw [size_putRowK]; exact hb)]
  show (w.heap.modify g (onCells (putCells id 0 (flatK enc k d))))[b]? = w.heap[b]?
  rw [Array.getElem?_modify, if_neg (fun e => hne e.symm)]
theorem row_after {e : TypeId} {k : Nat} {enc : α → List Value} (hk : ∀ x, (enc x).length = k) {B : Nat} {w : World} {g cap n : Nat} {l : List α} (h : OwnR e k enc B w (.slice (some ⟨g, 0, none⟩) n cap) l) (m : Nat) (d : Array α) (os : Array Obj) (hd : d.size = l.length) :
    OwnR e k enc B (sortWorldK enc k w g 0 m d os) (.slice (some ⟨g, 0, none⟩) n cap) d.toList := by
  have hlt := (World.ownsRow.lt h g rfl).2
  rcases h.2 with ⟨hv, _⟩ | ⟨g', cap', cur, hv, h1, h2, h3, h4, h5, h6⟩
  · simp at hv
  · simp only [Value.slice.injEq, Option.some.injEq, Addr.mk.injEq] at hv
    obtain ⟨⟨rfl, -, -⟩, rfl, rfl⟩ := hv
    refine ⟨by rw [flat_len hk], .inr ⟨g, cap, putCells id 0 (flatK enc k d) cur, by simp [hd], h1, ?_, by rw [Array.length_toList, hd]; exact h3, h4, by simp [putCells, h5], ?_⟩⟩
    · unfold sortWorldK
      rw [heap_grow_old _ _ (by rw [size_putRowK]; exact hlt)]
      show (w.heap.modify g (onCells (putCells id 0 (flatK enc k d))))[g]? = _
      rw [Array.getElem?_modify, if_pos rfl, h2]
      rfl
    · rw [Array.length_toList, hd]
      apply List.ext_getElem?
      intro j
      by_cases hj : j < l.length * k
      · have hk0 : 0 < k := by rcases Nat.eq_zero_or_pos k with h0 | h0; (rw [h0] at hj; simp at hj); exact h0
        have hdd : j / k < d.toList.length := by rw [Array.length_toList, hd]; exact Nat.div_lt_of_lt_mul (by rwa [Nat.mul_comm])
        have hm : j % k < k := Nat.mod_lt _ hk0
        have hc := flat_at hk d.toList (j / k) (j % k) hdd hm
        rw [Nat.div_add_mod'] at hc
        have hjc : j < cur.size := by rw [h5]; exact Nat.lt_of_lt_of_le hj (Nat.mul_le_mul_right k h3)
        rw [hc, List.getElem?_take_of_lt hj, Array.getElem?_toList]
        have hsz : 0 + (flatK enc k d).size = l.length * k := by rw [size_flatK, hd]; omega
        simp only [putCells, Array.getElem?_mapIdx, Array.getElem?_eq_getElem hjc, Option.map_some]
        rw [if_pos ⟨Nat.zero_le _, by rw [hsz]; exact hj⟩, Nat.sub_zero, get_flatK _ _ _ _ (by rw [hd]; exact hj)]
        have hx : d[j / k]! = d.toList[j / k] := by rw [getElem!_pos d (j / k) (by simpa using hdd)]; simp
        rw [hx, List.getElem?_eq_getElem (by rw [hk]; exact hm)]
        simp [getElem!_pos, hk, hm]
      · rw [List.getElem?_eq_none (by simp; omega), List.getElem?_eq_none (by rw [flat_len hk, Array.length_toList, hd]; omega)]
end
/-- What a call leaves that may turn a row of its own: all else is as it was. -/
abbrev KeptButv (w w' : World) (r : Option Nat) : Prop := KeptBut w w' r
theorem KeptButv.refl (w : World) (r : Option Nat) : KeptButv w w r := ⟨rfl, rfl, Nat.le_refl _, fun _ _ _ => rfl⟩
theorem KeptButv.trans {a b c : World} {r : Option Nat} (h : KeptButv a b r) (k : KeptButv b c r) : KeptButv a c r :=
  ⟨k.1.trans h.1, k.2.1.trans h.2.1, Nat.le_trans h.2.2.1 k.2.2.1, fun i hi hr => (k.2.2.2 i (Nat.lt_of_lt_of_le hi h.2.2.1) hr).trans (h.2.2.2 i hi hr)⟩
theorem KeptButv.of_low {a b : World} {r : Option Nat} (h : Low a b) : KeptButv a b r := ⟨h.1, h.2.1, h.2.2.1, fun i hi _ => h.2.2.2 i hi⟩
theorem KeptButv.el {w w' : World} {B : Nat} {r : Option Nat} (h : KeptButv w w' r) {p : El} (hp : ElOk (fun b => B ≤ b ∧ some b ≠ r) w p) : ElOk (fun b => B ≤ b ∧ some b ≠ r) w' p :=
  Rep.to (fun b ha hb => ⟨ha, h.2.2.2 b hb ha.2⟩) _ hp
/-- 'ord < 0' as the library wants it. -/
theorem swo_of {α β : Type} {c : β → β → Int} (g : Good c fun _ => True) (f : α → β) : SWO (ltOf fun x y : α => c (f x) (f y)) where
  irrefl x := by simp [ltOf, g.refl (a := f x) trivial]
  trans x y z h1 h2 := by
    simp only [ltOf, decide_eq_true_eq] at *
    exact g.lt _ _ _ trivial trivial trivial h1 h2
  ntrans x y z h1 h2 := by
    simp only [ltOf, decide_eq_false_iff_not] at *
    have a := g.anti (f x) (f y) trivial trivial
    have b := g.anti (f y) (f z) trivial trivial
    have d := g.anti (f x) (f z) trivial trivial
    have := g.le (a := f z) (b := f y) (d := f x) trivial trivial trivial (by omega) (by omega)
    omega
theorem sorted_of {α β : Type} [Inhabited α] {c : β → β → Int} (f : α → β) {d : Array α} (h : SortedIn (ltOf fun x y : α => c (f x) (f y)) 0 d.size d) : Sorted c (d.toList.map f) := by
  unfold Sorted
  rw [List.pairwise_map, List.pairwise_iff_getElem]
  intro i j hi hj hij
  have h1 := h i j (Nat.zero_le _) hij (by simpa using hj)
  simp only [ltOf, decide_eq_false_iff_not] at h1
  rw [getElem!_pos d j (by simpa using hj), getElem!_pos d i (by simpa using hi)] at h1
  simpa using h1
/-- What SortFunc leaves of a row of values of the call's own. -/
def SortP (B : Nat) (v : Value) (ps : List El) (w : World) (e : Ending) (w' : World) : Prop :=
  e = .returned (.tuple #[]) ∧ ∃ qs : List El, qs.Perm ps ∧ Sorted ord (qs.map (·.v)) ∧ OwnVv B w' v qs ∧ (∀ p ∈ qs, ElOk (fun b => B ≤ b ∧ some b ≠ v.ownBlock) w' p) ∧ KeptButv w w' v.ownBlock
theorem lift_list {β : Type} {p : β → Prop} : ∀ (l : List β), (∀ x ∈ l, p x) → ∃ m : List { x // p x }, m.map (·.1) = l
  | [], _ => ⟨[], rfl⟩
  | x :: l, h => by
    obtain ⟨m, hm⟩ := lift_list l fun y hy => h y (by simp [hy])
    exact ⟨⟨x, h x (by simp)⟩ :: m, by rw [List.map_cons, hm]⟩
/-- A value with all that it leads to, away from the row. -/
def SEl (B g : Nat) (w : World) : Type := { p : El // ElOk (fun b => B ≤ b ∧ some b ≠ some g) w p }
def encSv {B g : Nat} {w : World} (a : SEl B g w) : List Value := encVv a.1
def cfS {B g : Nat} {w : World} (x y : SEl B g w) : Int := ord x.1.v y.1.v
theorem encS_lenv {B g : Nat} {w : World} (a : SEl B g w) : (encSv a).length = 8 := rfl
theorem sort_raw (B g cap : Nat) (w : World) [Inhabited (SEl B g w)] (l : List (SEl B g w)) (hown : OwnR 27 8 encSv B w (.slice (some ⟨g, 0, none⟩) l.length cap) l) (hn : l.length < 4611686018427387904) :
    Calls Tryz.prog 122 #[.slice (some ⟨g, 0, none⟩) l.length cap, ordV] w fun e w' =>
      e = .returned (.tuple #[]) ∧ ∃ d' n os, PermIn 0 l.toArray.size l.toArray d' ∧ SortedIn (ltOf cfS) 0 l.toArray.size d' ∧ w' = sortWorldK encSv 8 w g 0 n d' os := by
  have hg := (World.ownsRow.lt hown g rfl).2
  have hcmp : CmpLays (α := SEl B g w) Tryz.prog 111 #[] encSv 8 cfS g 0 l.toArray.size w := fun m os dk hdk x y => by
    have hR : ∀ z : SEl B g w, R (sortWorldK encSv 8 w g 0 m dk os) z.1.v z.1.it z.1.nm := fun z => Rep.to (fun b ha hb => ⟨trivial, sort_other w g m dk os b hb fun e => ha.2 (by rw [e])⟩) _ z.2
    exact order_c x.1.v y.1.v _ _ _ _ _ (hR x) (hR y)
  have eg : ∀ args w, (callFunc 111 args).run Tryz.prog w = .ok (.enter 111 args) w := enters_of Tryz.func111 (by kernel_rfl) rfl
  have hcon := AnyQ.slices_SortFunc Tryz.sortV 8 Tryz.isAgg27 Tryz.sizeOf27 encSv encS_lenv (fun x => encV_onev x.1) cfS (swo_of good_ord fun a : SEl B g w => a.1.v) 111 #[] g 0 cap l.toArray w eg hcmp (row_holds encS_lenv hown) hg (by simpa using hn)
  change Calls Tryz.prog 122 _ _ _ at hcon
  exact hcon
theorem sortV_some (B g n cap : Nat) (ps : List El) (w : World) (O : OwnVv B w (.slice (some ⟨g, 0, none⟩) n cap) ps) (E : ∀ p ∈ ps, ElOk (fun b => B ≤ b ∧ some b ≠ some g) w p) (h0 : ps ≠ []) (hn : ps.length < 4611686018427387904) (hnn : n = ps.length) :
    Calls Tryz.prog 122 #[.slice (some ⟨g, 0, none⟩) n cap, ordV] w (SortP B (.slice (some ⟨g, 0, none⟩) n cap) ps w) := by
  subst hnn
  obtain ⟨p0, hp0⟩ : ∃ p, p ∈ ps := by cases ps with | nil => exact absurd rfl h0 | cons p _ => exact ⟨p, by simp⟩
  haveI : Inhabited (SEl B g w) := ⟨⟨p0, E p0 hp0⟩⟩
  obtain ⟨l, hl⟩ : ∃ l : List (SEl B g w), l.map (·.1) = ps := lift_list ps E
  subst hl
  have hfl : (l.map (·.1)).flatMap encVv = l.flatMap encSv := by rw [List.flatMap_map]; rfl
  have hown : OwnR 27 8 encSv B w (.slice (some ⟨g, 0, none⟩) l.length cap) l := by
    unfold OwnVv OwnR at O; rw [hfl, List.length_map] at O; exact O
  rw [List.length_map] at hn ⊢
  refine (sort_raw B g cap w l hown hn).mono ?_
  rintro e w' ⟨rfl, d', m, os, hp, hs, rfl⟩
  obtain ⟨hsz, -, hperm⟩ := hp
  have hsz' : d'.size = l.length := by simpa using hsz
  have hperm' : d'.toList.Perm l := by
    have : (d'.extract 0 d'.size).toList.Perm (l.toArray.extract 0 l.toArray.size).toList := by
      rw [show d'.size = l.toArray.size from hsz]; exact hperm
    simpa using this
  refine ⟨rfl, d'.toList.map (·.1), hperm'.map _, ?_, ?_, ?_, rfl, rfl, size_sortWorldK_c encSv 8 w g 0 m d' os, fun b hb hne => sort_other w g m d' os b hb fun e => hne (by rw [e]; rfl)⟩
  · have := sorted_of (c := ord) (fun a : SEl B g w => a.1.v) (d := d') (by rw [hsz]; exact hs)
    rw [List.map_map]; exact this
  · have := row_after encS_lenv hown m d' os hsz'
    unfold OwnVv OwnR at *
    rw [List.flatMap_map, List.length_map]
    exact this
  · intro p hp
    obtain ⟨a, -, rfl⟩ := List.mem_map.1 hp
    exact Rep.to (fun b ha hb => ⟨ha, sort_other w g m d' os b hb fun e => ha.2 (by rw [e]; rfl)⟩) _ a.2
end Go.Proofs.YtnenjgngahipdaaGreat
namespace Go.Proofs.YtnenjgngahipdaaGreat
open Go.RowKit Go.Sort
theorem flat_set8 (q : El) : ∀ (l : List El) (k : Nat), k < l.length →
    ((((((((l.flatMap encVv).set (k * 8) (.int .i64 q.v.h.k)).set (k * 8 + 1) (.bool q.v.h.b)).set (k * 8 + 2) (.int .i64 q.v.h.n)).set (k * 8 + 3) (.string q.v.h.s)).set (k * 8 + 4) (.string q.v.h.t)).set (k * 8 + 5) (.string q.v.h.i)).set (k * 8 + 6) (.slice q.ai q.v.l.length q.ci)).set (k * 8 + 7) (.slice q.an q.v.ns.length q.cn) = (l.set k q).flatMap encVv
  | [], k, h => by simp at h
  | x :: l, 0, _ => by simp [encVv, hdc, El.it, El.nm]
  | x :: l, k + 1, h => by
    have ih := flat_set8 q l k (by simpa using h)
    rw [List.set_cons_succ, List.flatMap_cons, List.flatMap_cons, ← ih]
    have e : ∀ c (m : List Value) (u : Value), (encVv x ++ m).set ((k + 1) * 8 + c) u = encVv x ++ m.set (k * 8 + c) u := fun c m u => by
      rw [List.set_append_right _ _ (by rw [encV_lenv]; omega), encV_lenv, show (k + 1) * 8 + c - 8 = k * 8 + c by omega]
    have e0 := e 0
    simp only [Nat.add_zero] at e0
    rw [e0, e 1, e 2, e 3, e 4, e 5, e 6, e 7]
theorem kept_setCellv (w : World) (g o : Nat) (v : Value) : KeptButv w (w.setCell ⟨g, o, none⟩ v) (some g) :=
  ⟨rfl, rfl, by simp, fun b _ hb => Below.heap_setCell w ⟨g, o, none⟩ v b fun e => hb (by rw [e])⟩
theorem stored8 {B : Nat} {w : World} {g cap n : Nat} {cs : List El} {k : Nat} (q : El) (h : OwnVv B w (.slice (some ⟨g, 0, none⟩) n cap) cs) (hk : k < cs.length) (hn : n = cs.length) :
    OwnVv B ((((((((w.setCell ⟨g, k * 8, none⟩ (.int .i64 q.v.h.k)).setCell ⟨g, k * 8 + 1, none⟩ (.bool q.v.h.b)).setCell ⟨g, k * 8 + 2, none⟩ (.int .i64 q.v.h.n)).setCell ⟨g, k * 8 + 3, none⟩ (.string q.v.h.s)).setCell ⟨g, k * 8 + 4, none⟩ (.string q.v.h.t)).setCell ⟨g, k * 8 + 5, none⟩ (.string q.v.h.i)).setCell ⟨g, k * 8 + 6, none⟩ (.slice q.ai q.v.l.length q.ci)).setCell ⟨g, k * 8 + 7, none⟩ (.slice q.an q.v.ns.length q.cn)) (.slice (some ⟨g, 0, none⟩) n cap) (cs.set k q) ∧
    KeptButv w ((((((((w.setCell ⟨g, k * 8, none⟩ (.int .i64 q.v.h.k)).setCell ⟨g, k * 8 + 1, none⟩ (.bool q.v.h.b)).setCell ⟨g, k * 8 + 2, none⟩ (.int .i64 q.v.h.n)).setCell ⟨g, k * 8 + 3, none⟩ (.string q.v.h.s)).setCell ⟨g, k * 8 + 4, none⟩ (.string q.v.h.t)).setCell ⟨g, k * 8 + 5, none⟩ (.string q.v.h.i)).setCell ⟨g, k * 8 + 6, none⟩ (.slice q.ai q.v.l.length q.ci)).setCell ⟨g, k * 8 + 7, none⟩ (.slice q.an q.v.ns.length q.cn)) (some g) := by
  subst hn
  refine ⟨?_, ?_⟩
  · unfold OwnVv OwnR at *
    rw [← flat_set8 q cs k hk, List.length_set]
    have h0 := (World.ownsRow.stored h (k * 8) (.int .i64 q.v.h.k)).1
    have h1 := (World.ownsRow.stored h0 (k * 8 + 1) (.bool q.v.h.b)).1
    have h2 := (World.ownsRow.stored h1 (k * 8 + 2) (.int .i64 q.v.h.n)).1
    have h3 := (World.ownsRow.stored h2 (k * 8 + 3) (.string q.v.h.s)).1
    have h4 := (World.ownsRow.stored h3 (k * 8 + 4) (.string q.v.h.t)).1
    have h5 := (World.ownsRow.stored h4 (k * 8 + 5) (.string q.v.h.i)).1
    have h6 := (World.ownsRow.stored h5 (k * 8 + 6) (.slice q.ai q.v.l.length q.ci)).1
    exact (World.ownsRow.stored h6 (k * 8 + 7) (.slice q.an q.v.ns.length q.cn)).1
  · exact (kept_setCellv _ _ _ _).trans ((kept_setCellv _ _ _ _).trans ((kept_setCellv _ _ _ _).trans ((kept_setCellv _ _ _ _).trans ((kept_setCellv _ _ _ _).trans ((kept_setCellv _ _ _ _).trans ((kept_setCellv _ _ _ _).trans (kept_setCellv _ _ _ _)))))))
/-- The zero values that clear lays. -/
def zeros (n : Nat) : List Value := (Builtin.zeroCells #[.int .i64 0, .bool false, .int .i64 0, .string ⟨#[]⟩, .string ⟨#[]⟩, .string ⟨#[]⟩, .slice none 0 0, .slice none 0 0] n).toList
theorem zeros_len (n : Nat) : (zeros n).length = n * 8 := by simp [zeros, size_zeroCells]
theorem zeros_one (n : Nat) : ∀ v ∈ zeros n, v.oneCell' = true := by
  intro v hv
  simp only [zeros, Builtin.zeroCells] at hv
  simp only [Array.toList_map, List.mem_map] at hv
  obtain ⟨t, _, rfl⟩ := hv
  have hm : t % 8 < 8 := Nat.mod_lt _ (by decide)
  show (_ : Value).oneCell' = true
  have : ∀ c, c < 8 → ((#[.int .i64 0, .bool false, .int .i64 0, .string ⟨#[]⟩, .string ⟨#[]⟩, .string ⟨#[]⟩, .slice none 0 0, .slice none 0 0] : Array Value)[c]!).oneCell' = true := by
    intro c hc
    match c, hc with
    | 0, _ => rfl
    | 1, _ => rfl
    | 2, _ => rfl
    | 3, _ => rfl
    | 4, _ => rfl
    | 5, _ => rfl
    | 6, _ => rfl
    | 7, _ => rfl
  exact this _ hm
theorem run_clearV (w : World) (g o n c : Nat) (ty : TypeId) (hn : 0 < n) (hc : ∀ j, j < n * 8 → (w.cell? ⟨g, o + j, none⟩).isSome = true) (hf : ∀ j, j < n * 8 → w.frozen? ⟨g, o + j, none⟩ = false) :
    (Builtin.clear_ #[24] ty #[.slice (some ⟨g, o, none⟩) n c]).run Tryz.prog w = .ok (.tuple #[]) (w.setCells g o (zeros n)) := by
  have hst := run_storeCells_cells (P := Tryz.prog) g o (zeros n) 0 w (by rw [zeros_len]; simpa using hc) (by rw [zeros_len]; simpa using hf) (zeros_one n)
  simp only [Nat.add_zero] at hst
  obtain ⟨m, rfl⟩ : ∃ m, n = m + 1 := ⟨n - 1, by omega⟩
  unfold zeros at hst
  simp [Builtin.clear_, run_underlying Tryz.underlying24, Tryz.zeroValue27, hst, zeros, Value.cells]
theorem kept_setCells (g : Nat) : ∀ (vs : List Value) (o : Nat) (w : World), KeptButv w (w.setCells g o vs) (some g)
  | [], _, w => KeptButv.refl w _
  | v :: r, o, w => by rw [World.setCells]; exact (kept_setCellv w g o v).trans (kept_setCells g r (o + 1) _)
/-- The first k of a row of the call's own, where all behind may have turned. -/
theorem row_prefix {B : Nat} {w w' : World} {g cap n k : Nat} {cs : List El} (h : OwnVv B w (.slice (some ⟨g, 0, none⟩) n cap) cs) (E : ∀ p ∈ cs, ElOk (fun b => B ≤ b ∧ some b ≠ some g) w p) (hk : k ≤ cs.length) (hg : B ≤ g) (hn : n ≤ cap) (hcap : cap ≤ 9223372036854775807) (hcn : cs.length = n)
    (hc : ∀ j, j < k * 8 → w'.cell? ⟨g, j, none⟩ = w.cell? ⟨g, j, none⟩) (hK : KeptButv w w' (some g)) : RowAt (fun b => B ≤ b) w' ((cs.take k).map (·.v)) (.slice (some ⟨g, 0, none⟩) k cap) := by
  have hl : ((cs.take k).map (·.v)).length = k := by rw [List.length_map, List.length_take, Nat.min_eq_left hk]
  refine ⟨some ⟨g, 0, none⟩, cap, by rw [hl], ⟨by omega, hcap⟩, .inr ⟨g, 0, rfl, hg, repF_of fun j hj => ?_⟩⟩
  have hjk : j < k := by omega
  have hj' : j < cs.length := by omega
  have hget : ((cs.take k).map (·.v))[j] = cs[j].v := by simp
  refine ⟨cs[j].it, cs[j].nm, fun c u hu => ?_, ?_⟩
  · rw [hget] at hu
    have h8 : c < 8 := by have := (List.getElem?_eq_some_iff.1 hu).1; simpa [hdc] using this
    rw [Nat.zero_add, hc (j * 8 + c) (by omega), OwnR.cell encV_lenv h j c hj' h8]
    exact hu
  · rw [hget]
    exact Rep.to (fun b ha hb => ⟨ha.1, hK.2.2.2 b hb ha.2⟩) _ (E cs[j] (List.getElem_mem hj'))
end Go.Proofs.YtnenjgngahipdaaGreat
namespace Go.Proofs.YtnenjgngahipdaaGreat
open Go.RowKit Go.Sort
def sameV : Value := .func (.func 76) #[] #[]
theorem take_snoc {α : Type} {l : List α} {i : Nat} (h : i < l.length) : l.take (i + 1) = l.take i ++ [l[i]] := List.take_succ_eq_append_getElem h
theorem ddAt_snoc {α : Type} (c : α → α → Int) (x : α) : ∀ (l : List α) (p : α), ddAt c p (l ++ [x]) = if c x ((p :: l).getLast (by simp)) = 0 then ddAt c p l else ddAt c p l ++ [x]
  | [], p => by rw [List.nil_append, ddAt]; rfl
  | y :: l, p => by
    have ih := ddAt_snoc c x l y
    have hl : (p :: y :: l).getLast (by simp) = (y :: l).getLast (by simp) := by simp
    rw [hl, List.cons_append, ddAt, ddAt, ih]
    by_cases h1 : c y p = 0
    · rw [if_pos h1, if_pos h1]
    · rw [if_neg h1, if_neg h1]
      by_cases h2 : c x ((y :: l).getLast (by simp)) = 0
      · rw [if_pos h2, if_pos h2]
      · rw [if_neg h2, if_neg h2]; rfl
theorem take_last {α : Type} : ∀ (l : List α) (y : α) (m : Nat) (h : m ≤ l.length), (y :: l.take m).getLast (by simp) = (y :: l)[m]'(by simp; omega)
  | _, _, 0, _ => by simp
  | [], _, m + 1, h => by simp at h
  | z :: l, y, m + 1, h => by
    have ih := take_last l z m (by simpa using h)
    simp only [List.take_succ_cons, List.getElem_cons_succ]
    rw [List.getLast_cons (by simp)]
    exact ih
theorem dd_snoc {α : Type} (c : α → α → Int) {l : List α} {m : Nat} (hm : 1 ≤ m) (h : m < l.length) :
    dd c (l.take (m + 1)) = if c l[m] (l[m - 1]'(by omega)) = 0 then dd c (l.take m) else dd c (l.take m) ++ [l[m]] := by
  rw [take_snoc h]
  cases l with
  | nil => simp at h
  | cons y l =>
    obtain ⟨m, rfl⟩ : ∃ k, m = k + 1 := ⟨m - 1, by omega⟩
    have e := take_last l y m (by simp at h; omega)
    rw [List.take_succ_cons, List.cons_append, dd, dd, ddAt_snoc, e]
    simp only [Nat.add_sub_cancel]
    split
    · rfl
    · rfl
theorem dd_one {α : Type} (c : α → α → Int) {l : List α} (h : 1 ≤ l.length) : dd c (l.take 1) = l.take 1 := by
  cases l with
  | nil => simp at h
  | cons y l => rfl
/-- A row of the call's own, an element's cells. -/
theorem ownV_cells {B : Nat} {w : World} {g cap n : Nat} {l : List El} (h : OwnVv B w (.slice (some ⟨g, 0, none⟩) n cap) l) {j : Nat} (hj : j < l.length) : CellsAtv w g (j * 8) (hdc l[j].v.h (.slice l[j].ai l[j].v.l.length l[j].ci) (.slice l[j].an l[j].v.ns.length l[j].cn)) := fun c u hu => by
  have hc : c < 8 := by have := (List.getElem?_eq_some_iff.1 hu).1; simpa [hdc] using this
  rw [OwnR.cell encV_lenv h j c hj hc]
  exact hu
/-- What CompactFunc leaves. -/
def CompP (B : Nat) (r : Option Nat) (l : List V) (w : World) (e : Ending) (w' : World) : Prop := ∃ v, e = .returned v ∧ RowAt (fun b => B ≤ b) w' l v ∧ KeptButv w w' r
set_option maxHeartbeats 4000000 in
theorem comp_some (B g cap : Nat) (ps : List El) (w : World) (O : OwnVv B w (.slice (some ⟨g, 0, none⟩) ps.length cap) ps) (E : ∀ p ∈ ps, ElOk (fun b => B ≤ b ∧ some b ≠ some g) w p) (hn : ps.length ≤ 70000) :
    Calls Tryz.prog 123 #[.slice (some ⟨g, 0, none⟩) ps.length cap, sameV] w (CompP B (some g) (dd ord (ps.map (·.v))) w) := by
  obtain ⟨_, _, hv, hc1, hc2, -⟩ := O.shape
  simp only [Value.slice.injEq] at hv
  obtain ⟨-, -, rfl⟩ := hv
  unfold sameV
  have hgB : B ≤ g := ((World.ownsRow.lt O) g rfl).1
  have HO := Lib.hid O
  have HE := Lib.hid E
  clear O E
  by_cases h2 : ps.length < 2
  · have z2 : (ps.length : Int) < 2 := by omega
    have hd : dd ord (ps.map (·.v)) = ps.map (·.v) := by
      have := dd_one ord (l := ps.map (·.v))
      rcases Nat.lt_or_ge ps.length 1 with h | h
      · rw [List.eq_nil_of_length_eq_zero (show ps.length = 0 by omega)]; rfl
      · have h1 := this (by simpa using h)
        rwa [List.take_of_length_le (by simp; omega)] at h1
    rw [hd]
    have HR := Lib.hid (show RowAt (fun b => B ≤ b) w (ps.map (·.v)) (.slice (some ⟨g, 0, none⟩) ps.length cap) from ownV_row HO.out HE.out (fun b h => h.1) fun x hx => by simp [Value.ownBlock] at hx; subst hx; exact hgB)
    clear hd
    go_enter Tryz.func123, Tryz.ntmps123
    go_wp2_with fail
    go_ret
    exact ⟨_, rfl, HR.out, KeptButv.refl _ _⟩
  · have z2 : ¬ (ps.length : Int) < 2 := by omega
    obtain ⟨r, hr⟩ : ∃ r, r = dd ord (ps.map (·.v)) := ⟨_, rfl⟩
    rw [← hr]
    have HRR := Lib.hid hr
    clear hr
    generalize hnn : ps.length = n at *
    go_enter Tryz.func123, Tryz.ntmps123
    go_wp2_with fail
    go_loopg [5] n (fun gk vi wr => ∃ i : Nat, vi = .int .i64 ((i : Int) + 1) ∧ i + 1 ≤ n ∧ n - i ≤ gk ∧ Hid (Gr w wr) ∧ Hid (dd ord ((ps.map (·.v)).take (i + 1)) = (ps.map (·.v)).take (i + 1)))
    case atStart => exact ⟨0, rfl, by omega, by omega, Lib.hid (Gr.refl _), Lib.hid (dd_one ord (by simp; omega))⟩
    case round =>
      obtain ⟨i, rfl, hi, hg, G, K⟩ := hrel
      have OW := Lib.hid (show OwnVv B wr (.slice (some ⟨g, 0, none⟩) n cap) ps from HO.out.low G.out.low)
      have EW := Lib.hid (show ∀ p ∈ ps, ElOk (fun b => B ≤ b ∧ some b ≠ some g) wr p from fun p hp => Rep.low (HE.out p hp) G.out.low)
      by_cases hlt : i + 1 < n
      · have z1 : (i : Int) + 1 < (n : Int) := by omega
        have z3 : (i : Int) < (n : Int) := by omega
        have z4 : (0 : Int) ≤ (i : Int) + 1 := by omega
        have z5 : ((i : Int) + 1).toNat = i + 1 := by omega
        have z6 : IntKind.i64.wrap (i : Int) = (i : Int) := by rw [IntKind.wrap_i64]; omega
        have hp1 : i + 1 < ps.length := by omega
        have hp2 : i < ps.length := by omega
        obtain ⟨p, hp⟩ : ∃ p, p = ps[i + 1] := ⟨_, rfl⟩
        obtain ⟨p', hp'⟩ : ∃ p, p = ps[i] := ⟨_, rfl⟩
        have hcs := ownV_cells OW.out hp1
        have hcs' := ownV_cells OW.out hp2
        rw [← hp] at hcs
        rw [← hp'] at hcs'
        obtain ⟨e0, e1, e2, e3, e4, e5, e6, e7⟩ := cells8 hcs
        obtain ⟨d0, d1, d2, d3, d4, d5, d6, d7⟩ := cells8 hcs'
        have hR : R wr p.v p.it p.nm := by rw [hp]; exact (EW.out _ (List.getElem_mem hp1)).any
        have hR' : R wr p'.v p'.it p'.nm := by rw [hp']; exact (EW.out _ (List.getElem_mem hp2)).any
        have hcon := fun W (h : Low wr W) => same_c p.v p'.v W _ _ _ _ (hR.low h) (hR'.low h)
        have hsn := dd_snoc ord (l := ps.map (·.v)) (m := i + 1) (by omega) (by simpa using hp1)
        rw [K.out] at hsn
        simp only [Nat.add_sub_cancel, List.getElem_map, ← hp, ← hp'] at hsn
        obtain ⟨c, hc⟩ : ∃ c, c = ord p.v p'.v := ⟨_, rfl⟩
        rw [← hc] at hcon hsn
        have HC := Lib.hid hcon
        have HS := Lib.hid hsn
        have G1 := Lib.hid G.out.drew
        clear hcon hcs hcs' hR hR' hsn hc
        have HP := Lib.hid hp
        have HP' := Lib.hid hp'
        clear hp hp'
        unfold avv El.it El.nm at HC
        go_wp2_with fail
        go_region_held3 (fun w' => w'.cell? ⟨g, (i + 1) * 8, none⟩ = some (.int .i64 p.v.h.k) ∧ w'.cell? ⟨g, (i + 1) * 8 + 1, none⟩ = some (.bool p.v.h.b) ∧ w'.cell? ⟨g, (i + 1) * 8 + 2, none⟩ = some (.int .i64 p.v.h.n) ∧ w'.cell? ⟨g, (i + 1) * 8 + 3, none⟩ = some (.string p.v.h.s) ∧ w'.cell? ⟨g, (i + 1) * 8 + 4, none⟩ = some (.string p.v.h.t) ∧ w'.cell? ⟨g, (i + 1) * 8 + 5, none⟩ = some (.string p.v.h.i) ∧ w'.cell? ⟨g, (i + 1) * 8 + 6, none⟩ = some (.slice p.ai p.v.l.length p.ci) ∧ w'.cell? ⟨g, (i + 1) * 8 + 7, none⟩ = some (.slice p.an p.v.ns.length p.cn) ∧ w'.cell? ⟨g, i * 8, none⟩ = some (.int .i64 p'.v.h.k) ∧ w'.cell? ⟨g, i * 8 + 1, none⟩ = some (.bool p'.v.h.b) ∧ w'.cell? ⟨g, i * 8 + 2, none⟩ = some (.int .i64 p'.v.h.n) ∧ w'.cell? ⟨g, i * 8 + 3, none⟩ = some (.string p'.v.h.s) ∧ w'.cell? ⟨g, i * 8 + 4, none⟩ = some (.string p'.v.h.t) ∧ w'.cell? ⟨g, i * 8 + 5, none⟩ = some (.string p'.v.h.i) ∧ w'.cell? ⟨g, i * 8 + 6, none⟩ = some (.slice p'.ai p'.v.l.length p'.ci) ∧ w'.cell? ⟨g, i * 8 + 7, none⟩ = some (.slice p'.an p'.v.ns.length p'.cn)) (go_keep) (first
          | (go_at_call 76; refine (HC.out _ (Gr.refl _).drew.low).mono ?_; rintro e w1 ⟨rfl, gr⟩; have e0 := gr.cell e0; have d0 := gr.cell d0; have e1 := gr.cell e1; have d1 := gr.cell d1; have e2 := gr.cell e2; have d2 := gr.cell d2; have e3 := gr.cell e3; have d3 := gr.cell d3; have e4 := gr.cell e4; have d4 := gr.cell d4; have e5 := gr.cell e5; have d5 := gr.cell d5; have e6 := gr.cell e6; have d6 := gr.cell d6; have e7 := gr.cell e7; have d7 := gr.cell d7; have G2 := Lib.hid (G1.out.trans gr)))
        by_cases h0 : c = 0
        · subst h0
          have hwx : IntKind.i64.wrap ((i : Int) + 1) = (i : Int) + 1 := by rw [IntKind.wrap_i64]; omega
          have z7 : (i : Int) + 1 ≤ (cap : Int) := by omega
          have z8 : (i : Int) + 1 ≤ (n : Int) := by omega
          clear e0 e1 e2 e3 e4 e5 e6 e7 d0 d1 d2 d3 d4 d5 d6 d7 gr HC
          have hP := Lib.hid (show dd ord ((ps.map (·.v)).take (i + 1 + 1)) = (ps.map (·.v)).take (i + 1) by rw [HS.out, if_pos rfl])
          go_wp2_with fail
          have LW := Lib.hid G2.out.low
          clear z1 z3 z4 z5 z6 hwx z7 z8
          go_loopg [5, 7] n (fun gk2 vk vj wr2 => ∃ (k j : Nat) (cs : List El), vk = .int .i64 (k : Int) ∧ vj = .int .i64 ((j : Int) + 1) ∧ k ≤ i + 1 + j ∧ i + 1 + j + 1 ≤ n ∧ n - j ≤ gk2 ∧ cs.length = n ∧
            Hid (OwnVv B wr2 (.slice (some ⟨g, 0, none⟩) n cap) cs) ∧ Hid (∀ p ∈ cs, ElOk (fun b => B ≤ b ∧ some b ≠ some g) wr2 p) ∧ Hid ((cs.take k).map (·.v) = dd ord ((ps.map (·.v)).take (i + 1 + j + 1))) ∧
            Hid (∀ x (h1 : x < cs.length) (h2 : x < ps.length), i + 1 + j ≤ x → cs[x] = ps[x]) ∧ Hid (KeptButv w wr2 (some g)))
          case atStart => exact ⟨i + 1, 0, ps, rfl, rfl, by omega, by omega, by omega, hnn, Lib.hid (HO.out.low LW.out), Lib.hid fun p hp => Rep.low (HE.out p hp) LW.out, Lib.hid (by rw [List.map_take]; exact hP.out.symm), Lib.hid fun x h1 h2 _ => rfl, Lib.hid (KeptButv.of_low LW.out)⟩
          case round =>
            obtain ⟨k, j, cs, rfl, rfl, hk, hj, hg2, hcl, O2, E2, T2, Q2, K2⟩ := hrel
            by_cases hl2 : i + 1 + j + 1 < n
            · have z1 : (j : Int) + 1 < ((n - (i + 1) : Nat) : Int) := by omega
              have z3 : (j : Int) < ((n - (i + 1) : Nat) : Int) := by omega
              have z4 : (0 : Int) ≤ (j : Int) + 1 := by omega
              have z5 : ((j : Int) + 1).toNat = j + 1 := by omega
              have z6 : IntKind.i64.wrap (j : Int) = (j : Int) := by rw [IntKind.wrap_i64]; omega
              have hp1 : i + 1 + j + 1 < cs.length := by omega
              have hp2 : i + 1 + j < cs.length := by omega
              have hp3 : i + 1 + j + 1 < ps.length := by omega
              have hp4 : i + 1 + j < ps.length := by omega
              have hp5 : k < cs.length := by omega
              obtain ⟨q, hq⟩ : ∃ p, p = cs[i + 1 + j + 1] := ⟨_, rfl⟩
              obtain ⟨q', hq'⟩ : ∃ p, p = cs[i + 1 + j] := ⟨_, rfl⟩
              have hcs := ownV_cells O2.out hp1
              have hcs' := ownV_cells O2.out hp2
              rw [← hq, show (i + 1 + j + 1) * 8 = (i + 1) * 8 + (j + 1) * 8 by omega] at hcs
              rw [← hq', show (i + 1 + j) * 8 = (i + 1) * 8 + j * 8 by omega] at hcs'
              obtain ⟨e0, e1, e2, e3, e4, e5, e6, e7⟩ := cells8 hcs
              obtain ⟨d0, d1, d2, d3, d4, d5, d6, d7⟩ := cells8 hcs'
              have hR : R wr q.v q.it q.nm := by rw [hq]; exact (E2.out _ (List.getElem_mem hp1)).any
              have hR' : R wr q'.v q'.it q'.nm := by rw [hq']; exact (E2.out _ (List.getElem_mem hp2)).any
              have hcon := fun W (h : Low wr W) => same_c q.v q'.v W _ _ _ _ (hR.low h) (hR'.low h)
              have hsn := dd_snoc ord (l := ps.map (·.v)) (m := i + 1 + j + 1) (by omega) (by simpa using hp3)
              rw [← T2.out] at hsn
              simp only [Nat.add_sub_cancel, List.getElem_map, ← Q2.out _ hp1 hp3 (by omega), ← Q2.out _ hp2 hp4 (Nat.le_refl _), ← hq, ← hq'] at hsn
              obtain ⟨c, hc⟩ : ∃ c, c = ord q.v q'.v := ⟨_, rfl⟩
              rw [← hc] at hcon hsn
              have HC := Lib.hid hcon
              have HS2 := Lib.hid hsn
              have G3 := Lib.hid ((Gr.refl wr).drew)
              have hqm : q ∈ cs := by rw [hq]; exact List.getElem_mem hp1
              have HQM := Lib.hid hqm
              clear hcon hcs hcs' hR hR' hsn hc hqm hq hq'
              unfold avv El.it El.nm at HC
              go_wp2_with fail
              go_region_held3 (fun w' => w'.cell? ⟨g, (i + 1) * 8 + (j + 1) * 8, none⟩ = some (.int .i64 q.v.h.k) ∧ w'.cell? ⟨g, (i + 1) * 8 + (j + 1) * 8 + 1, none⟩ = some (.bool q.v.h.b) ∧ w'.cell? ⟨g, (i + 1) * 8 + (j + 1) * 8 + 2, none⟩ = some (.int .i64 q.v.h.n) ∧ w'.cell? ⟨g, (i + 1) * 8 + (j + 1) * 8 + 3, none⟩ = some (.string q.v.h.s) ∧ w'.cell? ⟨g, (i + 1) * 8 + (j + 1) * 8 + 4, none⟩ = some (.string q.v.h.t) ∧ w'.cell? ⟨g, (i + 1) * 8 + (j + 1) * 8 + 5, none⟩ = some (.string q.v.h.i) ∧ w'.cell? ⟨g, (i + 1) * 8 + (j + 1) * 8 + 6, none⟩ = some (.slice q.ai q.v.l.length q.ci) ∧ w'.cell? ⟨g, (i + 1) * 8 + (j + 1) * 8 + 7, none⟩ = some (.slice q.an q.v.ns.length q.cn) ∧ w'.cell? ⟨g, (i + 1) * 8 + j * 8, none⟩ = some (.int .i64 q'.v.h.k) ∧ w'.cell? ⟨g, (i + 1) * 8 + j * 8 + 1, none⟩ = some (.bool q'.v.h.b) ∧ w'.cell? ⟨g, (i + 1) * 8 + j * 8 + 2, none⟩ = some (.int .i64 q'.v.h.n) ∧ w'.cell? ⟨g, (i + 1) * 8 + j * 8 + 3, none⟩ = some (.string q'.v.h.s) ∧ w'.cell? ⟨g, (i + 1) * 8 + j * 8 + 4, none⟩ = some (.string q'.v.h.t) ∧ w'.cell? ⟨g, (i + 1) * 8 + j * 8 + 5, none⟩ = some (.string q'.v.h.i) ∧ w'.cell? ⟨g, (i + 1) * 8 + j * 8 + 6, none⟩ = some (.slice q'.ai q'.v.l.length q'.ci) ∧ w'.cell? ⟨g, (i + 1) * 8 + j * 8 + 7, none⟩ = some (.slice q'.an q'.v.ns.length q'.cn)) (go_keep) (first
                | (go_at_call 76; refine (HC.out _ (Gr.refl _).drew.low).mono ?_; rintro e w1 ⟨rfl, gr⟩; have e0 := gr.cell e0; have d0 := gr.cell d0; have e1 := gr.cell e1; have d1 := gr.cell d1; have e2 := gr.cell e2; have d2 := gr.cell d2; have e3 := gr.cell e3; have d3 := gr.cell d3; have e4 := gr.cell e4; have d4 := gr.cell d4; have e5 := gr.cell e5; have d5 := gr.cell d5; have e6 := gr.cell e6; have d6 := gr.cell d6; have e7 := gr.cell e7; have d7 := gr.cell d7; have G4 := Lib.hid (G3.out.trans gr)))
              by_cases h0 : c = 0
              · subst h0
                have hT := HS2.out
                rw [if_pos rfl] at hT
                have HT := Lib.hid hT
                clear e0 e1 e2 e3 e4 e5 e6 e7 d0 d1 d2 d3 d4 d5 d6 d7 gr HC hT
                go_wp2_with fail
                go_roundg (n - (j + 1))
                case measure => omega
                case rel =>
                  exact ⟨k, j + 1, cs, rfl, by go_num, by omega, by omega, by omega, hcl, Lib.hid (O2.out.low G4.out.low), Lib.hid fun p hp => Rep.low (E2.out p hp) G4.out.low, Lib.hid HT.out.symm, Lib.hid fun x h1 h2 h => Q2.out x h1 h2 (by omega), Lib.hid (K2.out.trans (KeptButv.of_low G4.out.low))⟩
              · have hO := O2.out.low G4.out.low
                have hks := ownV_cells (show OwnVv B _ (.slice (some ⟨g, 0, none⟩) n cap) cs from hO) hp5
                obtain ⟨s0, s1, s2, s3, s4, s5, s6, s7⟩ := cells8 hks
                have f0 := OwnR.frozen hO (k * 8)
                have f1 := OwnR.frozen hO (k * 8 + 1)
                have f2 := OwnR.frozen hO (k * 8 + 2)
                have f3 := OwnR.frozen hO (k * 8 + 3)
                have f4 := OwnR.frozen hO (k * 8 + 4)
                have f5 := OwnR.frozen hO (k * 8 + 5)
                have f6 := OwnR.frozen hO (k * 8 + 6)
                have f7 := OwnR.frozen hO (k * 8 + 7)
                have HO4 := Lib.hid hO
                have zk : (k : Int) < (n : Int) := by omega
                have hb : (!(c == 0)) = true := by simpa using h0
                have zk1 : IntKind.i64.wrap ((k : Int) + 1) = (k : Int) + 1 := by rw [IntKind.wrap_i64]; omega
                clear hO hks d0 d1 d2 d3 d4 d5 d6 d7 gr HC
                go_wp2_with fail
                · obtain ⟨O3, K3⟩ := stored8 q (show OwnVv B _ (.slice (some ⟨g, 0, none⟩) n cap) cs from HO4.out) hp5 hcl.symm
                  have hT := HS2.out
                  rw [if_neg h0] at hT
                  have O4 := Lib.hid O3
                  have K4 := Lib.hid K3
                  have HT := Lib.hid hT
                  clear O3 K3 hT s0 s1 s2 s3 s4 s5 s6 s7 f0 f1 f2 f3 f4 f5 f6 f7 e0 e1 e2 e3 e4 e5 e6 e7
                  go_roundg (n - (j + 1))
                  case measure => omega
                  case rel =>
                    refine ⟨k + 1, j + 1, cs.set k q, by go_num, by go_num, by omega, by omega, by omega, by rw [List.length_set]; exact hcl, O4, Lib.hid fun p hp => ?_, Lib.hid ?_, Lib.hid fun x h1 h2 h => ?_, Lib.hid ((K2.out.trans (KeptButv.of_low G4.out.low)).trans K4.out)⟩
                    · have hpc : p ∈ cs := by
                        rcases List.mem_or_eq_of_mem_set hp with h | h
                        · exact h
                        · rw [h]; exact HQM.out
                      exact K4.out.el (Rep.low (E2.out p hpc) G4.out.low)
                    · rw [show i + 1 + (j + 1) + 1 = i + 1 + j + 1 + 1 by omega, HT.out, take_snoc (by rw [List.length_set]; exact hp5), List.getElem_set_self, List.take_set_of_le (Nat.le_refl _), List.map_append]
                      rfl
                    · rw [List.getElem_set_ne (by omega)]
                      exact Q2.out x (by simpa using h1) h2 (by omega)
                · exfalso
                  rename_i hx
                  rw [hb] at hx
                  simp at hx
            · have hend : i + 1 + j + 1 = n := by omega
              have z1 : ¬ (j : Int) + 1 < ((n - (i + 1) : Nat) : Int) := by omega
              have zk2 : (k : Int) ≤ (n : Int) := by omega
              have zk3 : (k : Int) ≤ (cap : Int) := by omega
              have zk5 : k ≤ n := by omega
              have hcell : ∀ x, x < (n - k) * 8 → (wr.cell? ⟨g, k * 8 + x, none⟩).isSome = true := fun x hx => by
                have h8 : x % 8 < 8 := Nat.mod_lt _ (by decide)
                have hxk : k + x / 8 < cs.length := by omega
                have := OwnR.cell encV_lenv O2.out (k + x / 8) (x % 8) hxk h8
                rw [show (k + x / 8) * 8 + x % 8 = k * 8 + x by omega, List.getElem?_eq_getElem (by rw [encV_lenv]; exact h8)] at this
                rw [this]; rfl
              have hfr : ∀ x, x < (n - k) * 8 → wr.frozen? ⟨g, k * 8 + x, none⟩ = false := fun x _ => OwnR.frozen O2.out _
              have hcl2 := fun ty => run_clearV wr g (k * 8) (n - k) (cap - k) ty (by omega) hcell hfr
              have K3 := kept_setCells g (zeros (n - k)) (k * 8) wr
              have hrow := row_prefix (w' := wr.setCells g (k * 8) (zeros (n - k))) (k := k) O2.out E2.out (by omega) hgB (by omega) (by omega) hcl (fun x hx => World.cell?_setCells_out g _ _ _ _ fun _ _ => .inl hx) K3
              rw [T2.out, hend, List.take_of_length_le (by simp; omega), ← HRR.out] at hrow
              have HROW := Lib.hid hrow
              have HK3 := Lib.hid K3
              clear hcell hfr hrow K3
              go_wp2_with fail
              go_ret
              exact ⟨_, rfl, HROW.out, K2.out.trans HK3.out⟩
        · have hT := HS.out
          rw [if_neg h0] at hT
          have hb : (c == 0) = false := by simpa using h0
          have HT := Lib.hid hT
          clear e0 e1 e2 e3 e4 e5 e6 e7 d0 d1 d2 d3 d4 d5 d6 d7 gr HC hT
          go_wp2_with fail
          go_roundg (n - (i + 1))
          case measure => omega
          case rel =>
            refine ⟨i + 1, by go_num, by omega, by omega, G2, Lib.hid ?_⟩
            rw [HT.out, HP.out, take_snoc (show i + 1 < (ps.map (·.v)).length by simpa using hp1), List.getElem_map]
      · have z1 : ¬ (i : Int) + 1 < (n : Int) := by omega
        have hrr : r = ps.map (·.v) := by
          have := K.out
          rw [List.take_of_length_le (by simp; omega)] at this
          rw [HRR.out]; exact this
        have HR := Lib.hid (show RowAt (fun b => B ≤ b) wr r (.slice (some ⟨g, 0, none⟩) n cap) by
          rw [hrr]; exact ownV_row OW.out EW.out (fun b h => h.1) fun x hx => by simp [Value.ownBlock] at hx; subst hx; exact hgB)
        clear hrr
        go_wp2_with fail
        go_ret
        exact ⟨_, rfl, HR.out, KeptButv.of_low G.out.low⟩
end Go.Proofs.YtnenjgngahipdaaGreat
namespace Go.Proofs.YtnenjgngahipdaaGreat
open Go.RowKit Go.Sort
theorem sortV_c (B : Nat) (v : Value) (ps : List El) (w : World) (O : OwnVv B w v ps) (E : ∀ p ∈ ps, ElOk (fun b => B ≤ b ∧ some b ≠ v.ownBlock) w p) (hn : ps.length ≤ 70000) : Calls Tryz.prog 122 #[v, ordV] w (SortP B v ps w) := by
  obtain ⟨ao, cap, rfl, h1, h2, h3⟩ := O.shape
  by_cases h0 : ps = []
  · subst h0
    have h := AnyF.slices_SortFunc_none Tryz.sortV ao cap ordV w
    change Calls Tryz.prog 122 _ _ _ at h
    refine h.mono ?_
    rintro e w' ⟨rfl, rfl⟩
    exact ⟨rfl, [], List.Perm.refl _, by simp [Sorted], O, by simp, KeptButv.refl _ _⟩
  · rcases h3 with h3 | ⟨g, rfl, -, -⟩
    · exact absurd h3 h0
    · exact sortV_some B g ps.length cap ps w O E h0 (by omega) rfl
set_option maxHeartbeats 800000 in
theorem compV_c (B : Nat) (v : Value) (ps : List El) (w : World) (O : OwnVv B w v ps) (E : ∀ p ∈ ps, ElOk (fun b => B ≤ b ∧ some b ≠ v.ownBlock) w p) (hn : ps.length ≤ 70000) : Calls Tryz.prog 123 #[v, sameV] w (CompP B v.ownBlock (dd ord (ps.map (·.v))) w) := by
  obtain ⟨ao, cap, rfl, h1, h2, h3⟩ := O.shape
  by_cases h0 : ps = []
  · subst h0
    have HR := Lib.hid (show RowAt (fun b => B ≤ b) w (([] : List El).map (·.v)) (.slice ao 0 cap) from ⟨ao, cap, rfl, ⟨by simp, h2⟩, .inl rfl⟩)
    clear O E hn h3
    unfold sameV
    simp only [List.length_nil]
    go_enter Tryz.func123, Tryz.ntmps123
    go_wp2_with fail
    go_ret
    exact ⟨_, rfl, HR.out, KeptButv.refl _ _⟩
  · rcases h3 with h3 | ⟨g, rfl, -, -⟩
    · exact absurd h3 h0
    · exact comp_some B g cap ps w O E hn
theorem KeptButv.cellAt {w w' : World} {r : Option Nat} (h : KeptButv w w' r) {b o : Nat} {v : Value} (hc : w.cell? ⟨b, o, none⟩ = some v) (hr : some b ≠ r) : w'.cell? ⟨b, o, none⟩ = some v :=
  cell_tov hc fun hb => h.2.2.2 b hb hr
theorem KeptButv.frozenAt {w w' : World} {r : Option Nat} (h : KeptButv w w' r) {b o : Nat} (hc : w.frozen? ⟨b, o, none⟩ = false) (hb : b < w.heap.size) (hr : some b ≠ r) : w'.frozen? ⟨b, o, none⟩ = false := by
  rw [World.frozen?_of_block (w := w) (w' := w') (a := ⟨b, o, none⟩) (h.2.2.2 b hb hr)]; exact hc
/-- A result's eight cells, empty, and free to be written. -/
def Res (w : World) (r : Nat) : Prop := (r < w.heap.size ∧ CellsAtv w r 0 (hdc hd0 (.slice none 0 0) (.slice none 0 0))) ∧ ∀ o, w.frozen? ⟨r, o, none⟩ = false
theorem Res.kept {w w' : World} {r : Nat} {x : Option Nat} (h : Res w r) (k : KeptButv w w' x) (hr : some r ≠ x) : Res w' r :=
  ⟨⟨Nat.lt_of_lt_of_le h.1.1 k.2.2.1, fun j v hv => k.cellAt (h.1.2 j v hv) hr⟩, fun o => k.frozenAt (h.2 o) h.1.1 hr⟩
theorem Res.low {w w' : World} {r : Nat} (h : Res w r) (k : Low w w') : Res w' r := h.kept (KeptButv.of_low (r := none) k) (by simp)
theorem res_new (w : World) (t : TypeId) : Res (w.alloc (.cells #[.int .i64 0, .bool false, .int .i64 0, .string ⟨#[]⟩, .string ⟨#[]⟩, .string ⟨#[]⟩, .slice none 0 0, .slice none 0 0] t)) w.heap.size := by
  refine ⟨⟨by simp, fun j v hv => ?_⟩, fun o => ?_⟩
  · rw [Nat.zero_add, World.cell?_alloc_mark]
    simpa [hdc, hd0] using hv
  · simp [go_sem]
theorem Res.facts {w : World} {r : Nat} (h : Res w r) : (w.cell? ⟨r, 0, none⟩ = some (.int .i64 0) ∧ w.cell? ⟨r, 1, none⟩ = some (.bool false) ∧ w.cell? ⟨r, 2, none⟩ = some (.int .i64 0) ∧ w.cell? ⟨r, 3, none⟩ = some (.string ⟨#[]⟩) ∧ w.cell? ⟨r, 4, none⟩ = some (.string ⟨#[]⟩) ∧
    w.cell? ⟨r, 5, none⟩ = some (.string ⟨#[]⟩) ∧ w.cell? ⟨r, 6, none⟩ = some (.slice none 0 0) ∧ w.cell? ⟨r, 7, none⟩ = some (.slice none 0 0)) ∧
    (w.frozen? ⟨r, 0, none⟩ = false ∧ w.frozen? ⟨r, 1, none⟩ = false ∧ w.frozen? ⟨r, 2, none⟩ = false ∧ w.frozen? ⟨r, 3, none⟩ = false ∧ w.frozen? ⟨r, 4, none⟩ = false ∧ w.frozen? ⟨r, 5, none⟩ = false ∧ w.frozen? ⟨r, 6, none⟩ = false ∧ w.frozen? ⟨r, 7, none⟩ = false) := by
  have h8 := cells8 h.1.2
  simp only [Nat.zero_add] at h8
  exact ⟨h8, h.2 0, h.2 1, h.2 2, h.2 3, h.2 4, h.2 5, h.2 6, h.2 7⟩
theorem kept8 (w : World) (r : Nat) (c0 c1 c2 c3 c4 c5 c6 c7 : Value) : KeptButv w ((((((((w.setCell ⟨r, 0, none⟩ c0).setCell ⟨r, 1, none⟩ c1).setCell ⟨r, 2, none⟩ c2).setCell ⟨r, 3, none⟩ c3).setCell ⟨r, 4, none⟩ c4).setCell ⟨r, 5, none⟩ c5).setCell ⟨r, 6, none⟩ c6).setCell ⟨r, 7, none⟩ c7) (some r) :=
  (kept_setCellv _ _ _ _).trans ((kept_setCellv _ _ _ _).trans ((kept_setCellv _ _ _ _).trans ((kept_setCellv _ _ _ _).trans ((kept_setCellv _ _ _ _).trans ((kept_setCellv _ _ _ _).trans ((kept_setCellv _ _ _ _).trans (kept_setCellv _ _ _ _)))))))
theorem rep_V0 (A : Nat → Prop) (w : World) : Rep A w V0 (.slice none 0 0) (.slice none 0 0) := by
  unfold V0
  rw [Rep]
  exact ⟨⟨by decide, by decide, by decide⟩, ⟨none, 0, rfl, by simp, by simp, .inl rfl⟩, none, 0, rfl, ⟨by simp, by simp⟩, .inl rfl⟩
theorem names_nil (A : Nat → Prop) (w : World) : NamesAt A w [] (.slice none 0 0) := ⟨none, 0, rfl, by simp, by simp, .inl rfl⟩
/-- A set of a row, as it must be. -/
def setC (l : List V) : Int × V := if (canL l).1 = 0 then (0, .mk { hd0 with k := 5 } (uniq ord (canL l).2) []) else ((canL l).1, V0)
set_option maxHeartbeats 2000000 in
theorem canSet_c (l : List V) (ih : ∀ x ∈ l, CanC 60 x) (hs : l.length ≤ 70000 ∧ ∀ x ∈ l, Smv x) (w : World) (it : Value) (hl : Ro w l it) :
    Calls Tryz.prog 94 #[it] w (CanPost (setC l).2 (setC l).1 w) := by
  obtain ⟨al, cl, rfl, zl, zc⟩ := ro_len hl
  have L0 := Low.alloc (Low.refl w) (.cells #[.int .i64 0, .bool false, .int .i64 0, .string ⟨#[]⟩, .string ⟨#[]⟩, .string ⟨#[]⟩, .slice none 0 0, .slice none 0 0] 27)
  have R0 := Lib.hid (res_new w 27)
  have CC := Lib.hid (canI_c l ih hs _ _ (hl.low L0))
  have HL := Lib.hid L0
  have hlen := Lib.hid hs.1
  clear ih hs hl L0
  go_enter Tryz.func94, Tryz.ntmps94
  go_wp2_with fail
  refine CC.out.mono ?_
  rintro e w1 ⟨v, rfl, L1, hok⟩
  have R1 := Lib.hid (R0.out.low L1)
  have LL := Lib.hid (HL.out.trans L1)
  by_cases h0 : (canL l).1 = 0
  · obtain ⟨ps, hps, O, E⟩ := hok h0
    have hpl : ps.length ≤ 70000 := by
      have := congrArg List.length hps
      rw [List.length_map, canL_len h0] at this
      have := hlen.out
      omega
    have hsc : setC l = (0, .mk { hd0 with k := 5 } (uniq ord (canL l).2) []) := by unfold setC; rw [if_pos h0]
    have HSC := Lib.hid hsc
    have hvb : ∀ g, v.ownBlock = some g → w.heap.size < g := fun g hg => by
      have := (World.ownsRow.lt O g hg).1
      simp at this
      omega
    have hcn := canL_cn h0
    have CSo := Lib.hid (sortV_c _ v ps w1 O E hpl)
    have HV := Lib.hid hvb
    have HCN := Lib.hid hcn
    have HPS := Lib.hid hps
    have HPL := Lib.hid hpl
    clear hsc O E hok hvb hcn hps hpl L1
    obtain ⟨e0, he⟩ : ∃ e0, e0 = (canL l).1 := ⟨_, rfl⟩
    rw [← he] at h0 ⊢
    subst h0
    clear he
    go_wp2_with fail
    refine CSo.out.mono ?_
    rintro e w2 ⟨rfl, qs, hperm, hsorted, O2, E2, K2⟩
    have hql : qs.length ≤ 70000 := by rw [hperm.length_eq]; exact HPL.out
    have CCo := Lib.hid (compV_c _ v qs w2 O2 E2 hql)
    have hdd : dd ord (qs.map (·.v)) = uniq ord (canL l).2 := by
      have hp := hperm.map (·.v)
      rw [HPS.out] at hp
      exact dd_uniq good_cn (fun y x hy hx h => ord_zero hy hx h) hp hsorted HCN.out
    have HD := Lib.hid hdd
    have R2 := Lib.hid (R1.out.kept K2 fun e => by have := HV.out _ e.symm; omega)
    have KK2 := Lib.hid K2
    clear hperm hsorted O2 E2 K2 hql hdd
    go_wp2_with fail
    refine CCo.out.mono ?_
    rintro e w3 ⟨v3, rfl, R3, K3⟩
    rw [HD.out] at R3
    obtain ⟨ao, cap, rfl, zq, -⟩ := id R3
    have HR3 := Lib.hid R3
    have RR := Lib.hid (R2.out.kept K3 fun e => by have := HV.out _ e.symm; omega)
    have KK3 := Lib.hid K3
    obtain ⟨⟨c0, c1, c2, c3, c4, c5, c6, c7⟩, f0, f1, f2, f3, f4, f5, f6, f7⟩ := RR.out.facts
    clear R3 K3
    go_wp2_with fail
    refine bodyPost_ret (v := .tuple #[.agg #[.int .i64 5, .bool false, .int .i64 0, .string ⟨#[]⟩, .string ⟨#[]⟩, .string ⟨#[]⟩, .slice ao (uniq ord (canL l).2).length cap, .slice none 0 0], .int .i64 0]) (by simp [results, Tryz.results94, go_sem, World.cell?_setCell_same', c0, c1, c2, c3, c4, c5, c6, c7]; try rfl) rfl ?_
    have K8 := kept8 w3 w.heap.size (.int .i64 5) (.bool false) (.int .i64 0) (.string ⟨#[]⟩) (.string ⟨#[]⟩) (.string ⟨#[]⟩) (.slice ao (uniq ord (canL l).2).length cap) (.slice none 0 0)
    rw [HSC.out]
    refine ⟨ao, cap, none, 0, rfl, ?_, (((LL.out.kept KK2.out fun g hg => Nat.le_of_lt (HV.out g hg)).kept KK3.out fun g hg => Nat.le_of_lt (HV.out g hg)).kept K8 fun g hg => by simp at hg; omega)⟩
    refine rep_v.2 ⟨⟨Nat.zero_le _, Nat.zero_le _, Nat.zero_le _⟩, names_nil _ _, RowAt.to (fun b hb hlt => ⟨?_, K8.2.2.2 b hlt fun e => ?_⟩) HR3.out⟩
    · simp at hb; omega
    · simp at hb e; omega
  · have hsc : setC l = ((canL l).1, V0) := by unfold setC; rw [if_neg h0]
    have HSC := Lib.hid hsc
    obtain ⟨⟨c0, c1, c2, c3, c4, c5, c6, c7⟩, f0, f1, f2, f3, f4, f5, f6, f7⟩ := R1.out.facts
    have hb : ((canL l).1 == 0) = false := by simpa using h0
    clear hok hsc L1
    go_wp2_with fail
    refine bodyPost_ret (v := .tuple #[.agg #[.int .i64 0, .bool false, .int .i64 0, .string ⟨#[]⟩, .string ⟨#[]⟩, .string ⟨#[]⟩, .slice none 0 0, .slice none 0 0], .int .i64 (canL l).1]) (by simp [results, Tryz.results94, go_sem, World.cell?_setCell_same', c0, c1, c2, c3, c4, c5, c6, c7]; try rfl) rfl ?_
    have K8 := kept8 w1 w.heap.size (.int .i64 0) (.bool false) (.int .i64 0) (.string ⟨#[]⟩) (.string ⟨#[]⟩) (.string ⟨#[]⟩) (.slice none 0 0) (.slice none 0 0)
    rw [HSC.out]
    exact ⟨none, 0, none, 0, rfl, rep_V0 _ _, LL.out.kept K8 fun g hg => by simp at hg; omega⟩
end Go.Proofs.YtnenjgngahipdaaGreat
