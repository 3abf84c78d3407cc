/- A row that a call made itself, sorted by the library. No condition. -/
import Derived.Test.YtmkillbanmbafaaGreatCanI
import Derived.Test.YtmkillbanmbafaaGreatSort
import Derived.Shelf.SlSortCmp.WholeK
namespace Go.Proofs.YtmkillbanmbafaaGreat
open Go.RowKit Go.Sort Go.Lib
section
variable {α : Type} [Inhabited α]
theorem row_holds {e : TypeId} {k : Nat} {enc : α → List Value} (hk : ∀ x, (enc x).length = k) {B : Nat} {w : World} {g cap n : Nat} {l : List α} (h : OwnR e k enc B w (.slice (some ⟨g, 0, none⟩) n cap) l) : HoldsK enc k w g 0 l.toArray := by
  intro j hj
  have hj2 : j < l.length * k := by simpa using hj
  have hk0 : 0 < k := by rcases Nat.eq_zero_or_pos k with h0 | h0; (rw [h0] at hj2; simp at hj2); exact h0
  have hd : j / k < l.length := Nat.div_lt_of_lt_mul (by rwa [Nat.mul_comm])
  have hm : j % k < k := Nat.mod_lt _ hk0
  have hc := OwnR.cell hk h (j / k) (j % k) hd hm
  rw [Nat.div_add_mod'] at hc
  refine ⟨?_, by rw [Nat.zero_add]; exact h.frozen j⟩
  rw [Nat.zero_add, hc, get_flatK _ _ _ _ (by simpa using hj2)]
  have hx : l.toArray[j / k]! = l[j / k] := by simp [hd]
  rw [hx, List.getElem?_eq_getElem (by rw [hk]; exact hm)]
  simp [getElem!_pos, hk, hm]
theorem sort_other {enc : α → List Value} {k : Nat} (w : World) (g m : Nat) (d : Array α) (os : Array Obj) (b : Nat) (hb : b < w.heap.size) (hne : b ≠ g) : (sortWorldK enc k w g 0 m d os).heap[b]? = w.heap[b]? := by
  unfold sortWorldK
  rw [heap_grow_old _ _ (by rw [size_putRowK]; exact hb)]
  show (w.heap.modify g (onCells (putCells id 0 (flatK enc k d))))[b]? = w.heap[b]?
  rw [Array.getElem?_modify, if_neg (fun e => hne e.symm)]
theorem row_after {e : TypeId} {k : Nat} {enc : α → List Value} (hk : ∀ x, (enc x).length = k) {B : Nat} {w : World} {g cap n : Nat} {l : List α} (h : OwnR e k enc B w (.slice (some ⟨g, 0, none⟩) n cap) l) (m : Nat) (d : Array α) (os : Array Obj) (hd : d.size = l.length) :
    OwnR e k enc B (sortWorldK enc k w g 0 m d os) (.slice (some ⟨g, 0, none⟩) n cap) d.toList := by
  have hlt := (World.ownsRow.lt h g rfl).2
  rcases h.2 with ⟨hv, _⟩ | ⟨g', cap', cur, hv, h1, h2, h3, h4, h5, h6⟩
  · simp at hv
  · simp only [Value.slice.injEq, Option.some.injEq, Addr.mk.injEq] at hv
    obtain ⟨⟨rfl, -, -⟩, rfl, rfl⟩ := hv
    refine ⟨by rw [flat_len hk], .inr ⟨g, cap, putCells id 0 (flatK enc k d) cur, by simp [hd], h1, ?_, by rw [Array.length_toList, hd]; exact h3, h4, by simp [putCells, h5], ?_⟩⟩
    · unfold sortWorldK
      rw [heap_grow_old _ _ (by rw [size_putRowK]; exact hlt)]
      show (w.heap.modify g (onCells (putCells id 0 (flatK enc k d))))[g]? = _
      rw [Array.getElem?_modify, if_pos rfl, h2]
      rfl
    · rw [Array.length_toList, hd]
      apply List.ext_getElem?
      intro j
      by_cases hj : j < l.length * k
      · have hk0 : 0 < k := by rcases Nat.eq_zero_or_pos k with h0 | h0; (rw [h0] at hj; simp at hj); exact h0
        have hdd : j / k < d.toList.length := by rw [Array.length_toList, hd]; exact Nat.div_lt_of_lt_mul (by rwa [Nat.mul_comm])
        have hm : j % k < k := Nat.mod_lt _ hk0
        have hc := flat_at hk d.toList (j / k) (j % k) hdd hm
        rw [Nat.div_add_mod'] at hc
        have hjc : j < cur.size := by rw [h5]; exact Nat.lt_of_lt_of_le hj (Nat.mul_le_mul_right k h3)
        rw [hc, List.getElem?_take_of_lt hj, Array.getElem?_toList]
        have hsz : 0 + (flatK enc k d).size = l.length * k := by rw [size_flatK, hd]; omega
        simp only [putCells, Array.getElem?_mapIdx, Array.getElem?_eq_getElem hjc, Option.map_some]
        rw [if_pos ⟨Nat.zero_le _, by rw [hsz]; exact hj⟩, Nat.sub_zero, get_flatK _ _ _ _ (by rw [hd]; exact hj)]
        have hx : d[j / k]! = d.toList[j / k] := by rw [getElem!_pos d (j / k) (by simpa using hdd)]; simp
        rw [hx, List.getElem?_eq_getElem (by rw [hk]; exact hm)]
        simp [getElem!_pos, hk, hm]
      · rw [List.getElem?_eq_none (by simp; omega), List.getElem?_eq_none (by rw [flat_len hk, Array.length_toList, hd]; omega)]
end
/-- What a call leaves that may turn a row of its own: all else is as it was. -/
def KeptBut (w w' : World) (r : Option Nat) : Prop := w'.os = w.os ∧ w'.output = w.output ∧ w.heap.size ≤ w'.heap.size ∧ ∀ b, b < w.heap.size → some b ≠ r → w'.heap[b]? = w.heap[b]?
theorem KeptBut.refl (w : World) (r : Option Nat) : KeptBut w w r := ⟨rfl, rfl, Nat.le_refl _, fun _ _ _ => rfl⟩
theorem KeptBut.trans {a b c : World} {r : Option Nat} (h : KeptBut a b r) (k : KeptBut b c r) : KeptBut a c r :=
  ⟨k.1.trans h.1, k.2.1.trans h.2.1, Nat.le_trans h.2.2.1 k.2.2.1, fun i hi hr => (k.2.2.2 i (Nat.lt_of_lt_of_le hi h.2.2.1) hr).trans (h.2.2.2 i hi hr)⟩
theorem KeptBut.of_low {a b : World} {r : Option Nat} (h : Low a b) : KeptBut a b r := ⟨h.1, h.2.1, h.2.2.1, fun i hi _ => h.2.2.2 i hi⟩
theorem Low.kept {a b c : World} {r : Option Nat} (h : Low a b) (k : KeptBut b c r) (hr : ∀ g, r = some g → a.heap.size ≤ g) : Low a c :=
  ⟨k.1.trans h.1, k.2.1.trans h.2.1, Nat.le_trans h.2.2.1 k.2.2.1, fun i hi => (k.2.2.2 i (Nat.lt_of_lt_of_le hi h.2.2.1) fun e => by have := hr i e.symm; omega).trans (h.2.2.2 i hi)⟩
theorem KeptBut.el {w w' : World} {B : Nat} {r : Option Nat} (h : KeptBut w w' r) {p : El} (hp : ElOk (fun b => B ≤ b ∧ some b ≠ r) w p) : ElOk (fun b => B ≤ b ∧ some b ≠ r) w' p :=
  Rep.to (fun b ha hb => ⟨ha, h.2.2.2 b hb ha.2⟩) _ hp
/-- 'ord < 0' as the library wants it. -/
theorem swo_of {α β : Type} {c : β → β → Int} (g : Good c fun _ => True) (f : α → β) : SWO (ltOf fun x y : α => c (f x) (f y)) where
  irrefl x := by simp [ltOf, g.refl (a := f x) trivial]
  trans x y z h1 h2 := by
    simp only [ltOf, decide_eq_true_eq] at *
    exact g.lt _ _ _ trivial trivial trivial h1 h2
  ntrans x y z h1 h2 := by
    simp only [ltOf, decide_eq_false_iff_not] at *
    have a := g.anti (f x) (f y) trivial trivial
    have b := g.anti (f y) (f z) trivial trivial
    have d := g.anti (f x) (f z) trivial trivial
    have := g.le (a := f z) (b := f y) (d := f x) trivial trivial trivial (by omega) (by omega)
    omega
theorem sorted_of {α β : Type} [Inhabited α] {c : β → β → Int} (f : α → β) {d : Array α} (h : SortedIn (ltOf fun x y : α => c (f x) (f y)) 0 d.size d) : Sorted c (d.toList.map f) := by
  unfold Sorted
  rw [List.pairwise_map, List.pairwise_iff_getElem]
  intro i j hi hj hij
  have h1 := h i j (Nat.zero_le _) hij (by simpa using hj)
  simp only [ltOf, decide_eq_false_iff_not] at h1
  rw [getElem!_pos d j (by simpa using hj), getElem!_pos d i (by simpa using hi)] at h1
  simpa using h1
/-- What SortFunc leaves of a row of values of the call's own. -/
def SortP (B : Nat) (v : Value) (ps : List El) (w : World) (e : Ending) (w' : World) : Prop :=
  e = .returned (.tuple #[]) ∧ ∃ qs : List El, qs.Perm ps ∧ Sorted ord (qs.map (·.v)) ∧ OwnV B w' v qs ∧ (∀ p ∈ qs, ElOk (fun b => B ≤ b ∧ some b ≠ v.ownBlock) w' p) ∧ KeptBut w w' v.ownBlock
theorem lift_list {β : Type} {p : β → Prop} : ∀ (l : List β), (∀ x ∈ l, p x) → ∃ m : List { x // p x }, m.map (·.1) = l
  | [], _ => ⟨[], rfl⟩
  | x :: l, h => by
    obtain ⟨m, hm⟩ := lift_list l fun y hy => h y (by simp [hy])
    exact ⟨⟨x, h x (by simp)⟩ :: m, by rw [List.map_cons, hm]⟩
/-- A value with all that it leads to, away from the row. -/
def SEl (B g : Nat) (w : World) : Type := { p : El // ElOk (fun b => B ≤ b ∧ some b ≠ some g) w p }
def encS {B g : Nat} {w : World} (a : SEl B g w) : List Value := encV a.1
def cfS {B g : Nat} {w : World} (x y : SEl B g w) : Int := ord x.1.v y.1.v
theorem encS_len {B g : Nat} {w : World} (a : SEl B g w) : (encS a).length = 8 := rfl
theorem sort_raw (B g cap : Nat) (w : World) [Inhabited (SEl B g w)] (l : List (SEl B g w)) (hown : OwnR 37 8 encS B w (.slice (some ⟨g, 0, none⟩) l.length cap) l) (hn : l.length < 4611686018427387904) :
    Calls Tryz.prog 106 #[.slice (some ⟨g, 0, none⟩) l.length cap, ordV] w fun e w' =>
      e = .returned (.tuple #[]) ∧ ∃ d' n os, PermIn 0 l.toArray.size l.toArray d' ∧ SortedIn (ltOf cfS) 0 l.toArray.size d' ∧ w' = sortWorldK encS 8 w g 0 n d' os := by
  have hg := (World.ownsRow.lt hown g rfl).2
  have hcmp : CmpLays (α := SEl B g w) Tryz.prog 48 #[] encS 8 cfS g 0 l.toArray.size w := fun m os dk hdk x y => by
    have hR : ∀ z : SEl B g w, R (sortWorldK encS 8 w g 0 m dk os) z.1.v z.1.it z.1.nm := fun z => Rep.to (fun b ha hb => ⟨trivial, sort_other w g m dk os b hb fun e => ha.2 (by rw [e])⟩) _ z.2
    exact order_c x.1.v y.1.v _ _ _ _ _ (hR x) (hR y)
  have eg : ∀ args w, (callFunc 48 args).run Tryz.prog w = .ok (.enter 48 args) w := enters_of Tryz.func48 (by kernel_rfl) rfl
  have hcon := AnyQ.slices_SortFunc Tryz.sortV 8 Tryz.isAgg37 Tryz.sizeOf37 encS encS_len (fun x => encV_one x.1) cfS (swo_of good_ord fun a : SEl B g w => a.1.v) 48 #[] g 0 cap l.toArray w eg hcmp (row_holds encS_len hown) hg (by simpa using hn)
  change Calls Tryz.prog 106 _ _ _ at hcon
  exact hcon
theorem sortV_some (B g n cap : Nat) (ps : List El) (w : World) (O : OwnV B w (.slice (some ⟨g, 0, none⟩) n cap) ps) (E : ∀ p ∈ ps, ElOk (fun b => B ≤ b ∧ some b ≠ some g) w p) (h0 : ps ≠ []) (hn : ps.length < 4611686018427387904) (hnn : n = ps.length) :
    Calls Tryz.prog 106 #[.slice (some ⟨g, 0, none⟩) n cap, ordV] w (SortP B (.slice (some ⟨g, 0, none⟩) n cap) ps w) := by
  subst hnn
  obtain ⟨p0, hp0⟩ : ∃ p, p ∈ ps := by cases ps with | nil => exact absurd rfl h0 | cons p _ => exact ⟨p, by simp⟩
  haveI : Inhabited (SEl B g w) := ⟨⟨p0, E p0 hp0⟩⟩
  obtain ⟨l, hl⟩ : ∃ l : List (SEl B g w), l.map (·.1) = ps := lift_list ps E
  subst hl
  have hfl : (l.map (·.1)).flatMap encV = l.flatMap encS := by rw [List.flatMap_map]; rfl
  have hown : OwnR 37 8 encS B w (.slice (some ⟨g, 0, none⟩) l.length cap) l := by
    unfold OwnV OwnR at O; rw [hfl, List.length_map] at O; exact O
  rw [List.length_map] at hn ⊢
  refine (sort_raw B g cap w l hown hn).mono ?_
  rintro e w' ⟨rfl, d', m, os, hp, hs, rfl⟩
  obtain ⟨hsz, -, hperm⟩ := hp
  have hsz' : d'.size = l.length := by simpa using hsz
  have hperm' : d'.toList.Perm l := by
    have : (d'.extract 0 d'.size).toList.Perm (l.toArray.extract 0 l.toArray.size).toList := by
      rw [show d'.size = l.toArray.size from hsz]; exact hperm
    simpa using this
  refine ⟨rfl, d'.toList.map (·.1), hperm'.map _, ?_, ?_, ?_, rfl, rfl, size_sortWorldK_c encS 8 w g 0 m d' os, fun b hb hne => sort_other w g m d' os b hb fun e => hne (by rw [e]; rfl)⟩
  · have := sorted_of (c := ord) (fun a : SEl B g w => a.1.v) (d := d') (by rw [hsz]; exact hs)
    rw [List.map_map]; exact this
  · have := row_after encS_len hown m d' os hsz'
    unfold OwnV OwnR at *
    rw [List.flatMap_map, List.length_map]
    exact this
  · intro p hp
    obtain ⟨a, -, rfl⟩ := List.mem_map.1 hp
    exact Rep.to (fun b ha hb => ⟨ha, sort_other w g m d' os b hb fun e => ha.2 (by rw [e]; rfl)⟩) _ a.2
end Go.Proofs.YtmkillbanmbafaaGreat
