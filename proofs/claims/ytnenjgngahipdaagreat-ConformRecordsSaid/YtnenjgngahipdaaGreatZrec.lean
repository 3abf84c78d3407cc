/- ConformRecords answers true at every choice of names, kinds and attributes. No condition. -/
import Derived.Test.YtnenjgngahipdaaGreatZg19
import Derived.Test.YtnenjgngahipdaaGreatZg15
import Derived.Test.YtnenjgngahipdaaGreatZg18
import Derived.Test.YtnenjgngahipdaaGreatZg22
import Derived.Test.YtnenjgngahipdaaGreatZg12
import Derived.Test.YtnenjgngahipdaaGreatZg21
import Derived.Test.YtnenjgngahipdaaGreatZCfAw
import Derived.Test.YtnenjgngahipdaaGreatZCfR
import Derived.Test.YtnenjgngahipdaaGreatZg35
import Derived.Test.YtnenjgngahipdaaGreatZCfL1
import Derived.Test.YtnenjgngahipdaaGreatRows
import Derived.Test.YtnenjgngahipdaaGreatZg00
import Derived.WalkKit
import Derived.ProofKit
import Derived.OpenShut
import Derived.ShutString
import Derived.ChangeOld
import Derived.Below
import Derived.WideKeyArgs
set_option linter.unusedVariables false
set_option linter.unusedSimpArgs false
set_option linter.unnecessarySimpa false
namespace Go.Proofs.YtnenjgngahipdaaGreat
open Go.RowKit Go.Sort
set_option linter.unusedVariables false
def abcd : List ByteArray := [⟨#[97]⟩, ⟨#[98]⟩, ⟨#[99]⟩, ⟨#[100]⟩]
theorem rises_sub {l : List ByteArray} (h : l.Sublist abcd) : rises l = true := by
  have hp : abcd.Pairwise (fun x y => cmpB x y < 0) := by
    unfold abcd
    simp only [List.pairwise_cons, List.mem_cons, List.not_mem_nil, or_false, false_implies, implies_true, List.Pairwise.nil, and_true, forall_eq_or_imp, forall_eq]
    refine ⟨⟨?_, ?_, ?_⟩, ⟨?_, ?_⟩, ?_⟩ <;> decide +kernel
  rw [rises_iff]
  intro i hi
  exact List.pairwise_iff_getElem.1 (hp.sublist h) i (i + 1) (by omega) hi (by omega)
structure Ax where
  n : ByteArray
  k : Int
  o : Bool
def Ax.at (x : Ax) : At := (x.n, .mk x.k ⟨#[]⟩ [] [], x.o)
def encX (x : Ax) : List Value := [.string x.n, .int .i64 x.k, .string ⟨#[]⟩, .slice none 0 0, .slice none 0 0, .bool x.o]
theorem encX_len (x : Ax) : (encX x).length = 6 := rfl
theorem encX_one (x : Ax) : ∀ u ∈ encX x, u.oneCell' = true := by
  intro u hu
  simp only [encX, List.mem_cons, List.not_mem_nil, or_false] at hu
  rcases hu with rfl | rfl | rfl | rfl | rfl | rfl <;> rfl
theorem x_info : (Tryz.prog.info? 63).map (fun i => (i.zero, i.size, i.bytes)) = some (some (.agg #[.string ⟨#[]⟩, .int .i64 0, .string ⟨#[]⟩, .slice none 0 0, .slice none 0 0, .bool false]), 6, 96) := by kernel_rfl
/-- Such a row is a row of attributes. -/
theorem ras_own {B : Nat} {w : World} {v : Value} {zs : List Ax} (h : OwnR 63 6 encX B w v zs) (hs : ∀ x ∈ zs, x.n.size ≤ 9223372036854775807) : RAs (fun _ => True) w 1 (zs.map Ax.at) v := by
  obtain ⟨ao, cap, rfl, h1, h2, h3⟩ := h.shape
  refine ⟨ao, cap, by rw [List.length_map], ⟨by rw [List.length_map]; exact h1, h2⟩, ?_⟩
  rcases h3 with h0 | ⟨g, rfl, hb, hg⟩
  · exact .inl (by rw [h0]; rfl)
  · refine .inr ⟨g, 0, rfl, trivial, fun j hj => ⟨.slice none 0 0, .slice none 0 0, fun c u hu => ?_, ?_⟩⟩
    · have hj' : j < zs.length := by simpa using hj
      have hc : c < 6 := by have := (List.getElem?_eq_some_iff.1 hu).1; simpa [acs] using this
      rw [Nat.zero_add, OwnR.cell encX_len h j c hj' hc]
      rw [List.getElem_map] at hu
      exact hu
    · have hj' : j < zs.length := by simpa using hj
      rw [List.getElem_map]
      exact ⟨hs _ (List.getElem_mem hj'), RT.kind _ _ _ _⟩
theorem may_zs {zs : List Ax} (hk : ∀ x ∈ zs, 0 ≤ x.k ∧ x.k ≤ 6) (hs : (zs.map Ax.n).Sublist abcd) : mayB 61 (recT (zs.map Ax.at)) = true := by
  rw [mayB_succ]
  refine ⟨decide_eq_true ⟨by show (0 : Int) ≤ 8; decide, by show (8 : Int) ≤ 8; decide, fun h => by simp [recT, T.k] at h⟩, ?_, fun x hx => ?_⟩
  · have e : (recT (zs.map Ax.at)).ats.map an = zs.map Ax.n := by
      show (zs.map Ax.at).map an = _
      rw [List.map_map]; rfl
    rw [e]; exact rises_sub hs
  · have e : (recT (zs.map Ax.at)).ins = zs.map fun a => T.mk a.k ⟨#[]⟩ [] [] := by
      simp [recT, T.ins, T.l, T.ats, List.map_map, aty, Ax.at, Function.comp_def]
    rw [e] at hx
    obtain ⟨a, ha, rfl⟩ := List.mem_map.1 hx
    have h1 := hk a ha
    rw [mayB_succ]
    refine ⟨decide_eq_true ⟨h1.1, by show a.k ≤ 8; omega, fun h => ?_⟩, rfl, fun y hy => ?_⟩
    · have : a.k = 7 := h
      omega
    · simp [T.ins, T.l, T.ats] at hy
def scal (k : Int) : V := .mk { hd0 with k := k, b := true } [] []
def elB (k : Int) : El := ⟨scal k, none, 0, none, 0⟩
def recB (ys : List ByteArray) (ks : List Int) : V := .mk { hd0 with k := 6 } (ks.map scal) ys
theorem r_scal (w : World) (k : Int) : ElOk (fun _ => True) w (elB k) := by
  unfold ElOk elB
  refine rep_v.2 ⟨⟨Nat.zero_le _, Nat.zero_le _, Nat.zero_le _⟩, ⟨none, 0, rfl, by simp [scal, V.ns], by simp [scal, V.ns], .inl rfl⟩, none, 0, rfl, ⟨by simp [scal, V.l], by simp⟩, .inl rfl⟩
theorem r_recB {w : World} {ys : List ByteArray} {ks : List Int} {B : Nat} {a b : Value} (hi : OwnVv B w a (ks.map elB)) (hn : OwnR 9 1 encN B w b ys) (hs : ∀ x ∈ ys, x.size ≤ 9223372036854775807) : R w (recB ys ks) a b := by
  refine rep_v.2 ⟨⟨Nat.zero_le _, Nat.zero_le _, Nat.zero_le _⟩, ?_, ?_⟩
  · show NamesAt _ w ys b
    obtain ⟨bo, bcap, rfl, h1, h2, h3⟩ := OwnR.shape hn
    refine ⟨bo, bcap, rfl, by omega, hs, ?_⟩
    rcases h3 with h | ⟨g, rfl, -, -⟩
    · exact .inl h
    · refine .inr ⟨g, 0, rfl, trivial, fun j hj => ?_⟩
      have := OwnR.cell encN_len hn j 0 hj (by decide)
      rw [Nat.mul_one, Nat.add_zero] at this
      rw [Nat.zero_add, this]
      rfl
  · show RowAt _ w (ks.map scal) a
    have h := ownV_row hi (A := fun _ => True) (A' := fun _ => True) (fun p hp => by
      obtain ⟨z, -, rfl⟩ := List.mem_map.1 hp
      exact r_scal w z) (fun _ _ => trivial) (fun _ _ => trivial)
    rw [List.map_map] at h
    exact h
theorem recB_sm {ys : List ByteArray} {ks : List Int} (h1 : ys.length ≤ 4) (h2 : ks.length ≤ 4) : Smv (recB ys ks) := by
  rw [sm_v]
  refine ⟨by show (ks.map scal).length ≤ 70000; rw [List.length_map]; omega, by show ys.length ≤ 70000; omega, fun x hx => ?_⟩
  obtain ⟨z, -, rfl⟩ := List.mem_map.1 (show x ∈ ks.map scal from hx)
  rw [sm_v]
  exact ⟨by simp [scal, V.l], by simp [scal, V.ns], fun x hx => by simp [scal, V.l] at hx⟩
theorem recB_dep (ys : List ByteArray) (ks : List Int) : dep (recB ys ks) ≤ 2 := by
  have h : ∀ l : List Int, depL (l.map scal) ≤ 1 := fun l => by
    induction l with
    | nil => simp [depL]
    | cons k l ih => simp [depL, scal, dep]; omega
  rw [dep_v]
  have := h ks
  show depL (ks.map scal) + 1 ≤ _
  omega
/-- A type's four cells in a block of the call's own, free to be written. -/
def TyAt (w : World) (r : Nat) (c : Value) : Prop := (r < w.heap.size ∧ CellsAtv w r 0 [.int .i64 8, .string ⟨#[]⟩, .slice none 0 0, c]) ∧ ∀ o, w.frozen? ⟨r, o, none⟩ = false
theorem TyAt.kept {w w' : World} {r : Nat} {c : Value} {x : Option Nat} (h : TyAt w r c) (k : KeptButv w w' x) (hr : some r ≠ x) : TyAt w' r c :=
  ⟨⟨Nat.lt_of_lt_of_le h.1.1 k.2.2.1, fun j v hv => k.cellAt (h.1.2 j v hv) hr⟩, fun o => k.frozenAt (h.2 o) h.1.1 hr⟩
theorem ty_new (w : World) (t : TypeId) : TyAt (w.alloc (.cells #[.int .i64 8, .string ⟨#[]⟩, .slice none 0 0, .slice none 0 0] t)) w.heap.size (.slice none 0 0) := by
  refine ⟨⟨by simp, fun j v hv => ?_⟩, fun o => ?_⟩
  · rw [Nat.zero_add, World.cell?_alloc_mark]
    simpa using hv
  · simp [go_sem]
theorem TyAt.facts {w : World} {r : Nat} {c : Value} (h : TyAt w r c) : (w.cell? ⟨r, 0, none⟩ = some (.int .i64 8) ∧ w.cell? ⟨r, 1, none⟩ = some (.string ⟨#[]⟩) ∧ w.cell? ⟨r, 2, none⟩ = some (.slice none 0 0) ∧ w.cell? ⟨r, 3, none⟩ = some c) ∧ w.frozen? ⟨r, 3, none⟩ = false :=
  ⟨⟨h.1.2 0 _ rfl, h.1.2 1 _ rfl, h.1.2 2 _ rfl, h.1.2 3 _ rfl⟩, h.2 3⟩
theorem TyAt.put {w : World} {r : Nat} {c : Value} (h : TyAt w r c) (d : Value) : TyAt (w.setCell ⟨r, 3, none⟩ d) r d := by
  refine ⟨⟨by simpa using h.1.1, fun j v hv => ?_⟩, fun o => by rw [World.frozen?_setCell]; exact h.2 o⟩
  have hj : j < 4 := by have := (List.getElem?_eq_some_iff.1 hv).1; simpa using this
  rw [Nat.zero_add]
  by_cases h7 : j = 3
  · subst h7
    have : v = d := by simpa using hv.symm
    subst this
    have hb : (w.cell? ⟨r, 3, none⟩).isSome = true := by rw [h.facts.1.2.2.2]; rfl
    exact World.cell?_setCell_same' _ _ _ hb
  · rw [World.cell?_setCell_other _ _ _ _ (by first | (simp; done) | (simp; omega))]
    have := h.1.2 j v (by
      match j, hj, h7 with
      | 0, _, _ => exact hv
      | 1, _, _ => exact hv
      | 2, _, _ => exact hv
      | 3, _, h => exact absurd rfl h)
    rwa [Nat.zero_add] at this
theorem ownR_block {α : Type} {e : TypeId} {k : Nat} {enc : α → List Value} {B : Nat} {w : World} {v : Value} {l : List α} (h : OwnR e k enc B w v l) {g : Nat} (hg : v.ownBlock = some g) : ∃ cur, w.heap[g]? = some (.cells cur e) := by
  rcases h.2 with ⟨rfl, -⟩ | ⟨g', cap, cur, rfl, h1, h2, -⟩
  · simp [Value.ownBlock] at hg
  · have : g' = g := by simpa [Value.ownBlock] using hg
    subst this
    exact ⟨cur, h2⟩
/-- Rows of other types lie in other blocks. -/
theorem ownR_apart {α β : Type} {e e' : TypeId} {k k' : Nat} {enc : α → List Value} {enc' : β → List Value} {B B' : Nat} {w : World} {v v' : Value} {l : List α} {l' : List β} (h : OwnR e k enc B w v l) (h' : OwnR e' k' enc' B' w v' l') (he : e ≠ e') {g : Nat} (hg : v.ownBlock = some g) : some g ≠ v'.ownBlock := by
  intro e9
  obtain ⟨c, hc⟩ := ownR_block h hg
  obtain ⟨c', hc'⟩ := ownR_block h' e9.symm
  rw [hc] at hc'
  simp only [Option.some.injEq, Obj.cells.injEq] at hc'
  exact he hc'.2.1
/-- Where the building stands. -/
structure CSt (w1 : World) (B rb tb nb : Nat) (W : World) (a b c : Value) (xs : List El) (ys : List ByteArray) (zs : List Ax) : Prop where
  rec' : RecAt W rb a b
  ty : TyAt W tb c
  nm : CellsAtv W nb 0 [.string ⟨#[97]⟩, .string ⟨#[98]⟩, .string ⟨#[99]⟩, .string ⟨#[100]⟩]
  its : OwnVv B W a xs
  nms : OwnR 9 1 encN B W b ys
  ats : OwnR 63 6 encX B W c zs
  low : Low w1 W
  lt : rb < B ∧ tb < B ∧ nb < B ∧ w1.heap.size ≤ rb ∧ w1.heap.size ≤ tb ∧ rb ≠ tb ∧ rb ≠ nb ∧ tb ≠ nb ∧ B ≤ W.heap.size
theorem ownR_kept {α : Type} {e : TypeId} {k : Nat} {enc : α → List Value} {B : Nat} {w w' : World} {v : Value} {l : List α} {x : Option Nat} (h : OwnR e k enc B w v l) (K : KeptButv w w' x) (hx : ∀ g, v.ownBlock = some g → some g ≠ x) : OwnR e k enc B w' v l :=
  h.to fun g hg => K.2.2.2 g (World.ownsRow.lt h g hg).2 (hx g hg)
theorem box_kept {w w' : World} {n : Nat} {cs : List Value} {x : Option Nat} (h : CellsAtv w n 0 cs) (K : KeptButv w w' x) (hx : some n ≠ x) : CellsAtv w' n 0 cs := fun j v hv => by
  have := K.cellAt (h j v hv) hx
  exact this
theorem CSt.grow {w1 W W' : World} {B rb tb nb : Nat} {a b c : Value} {xs : List El} {ys : List ByteArray} {zs : List Ax} (h : CSt w1 B rb tb nb W a b c xs ys zs) (l : Low W W') : CSt w1 B rb tb nb W' a b c xs ys zs := by
  have K : KeptButv W W' none := KeptButv.of_low l
  refine ⟨h.rec'.kept K (by simp), h.ty.kept K (by simp), box_kept h.nm K (by simp), OwnR.low h.its l, OwnR.low h.nms l, OwnR.low h.ats l, h.low.trans l, ?_⟩
  obtain ⟨l1, l2, l3, l4, l5, l6, l7, l8, l9⟩ := h.lt
  exact ⟨l1, l2, l3, l4, l5, l6, l7, l8, Nat.le_trans l9 l.size⟩
theorem cst_names {w1 W w2 : World} {B rb tb nb : Nat} {a b c b2 : Value} {xs : List El} {ys ys2 : List ByteArray} {zs : List Ax} (h : CSt w1 B rb tb nb W a b c xs ys zs) (h2 : OwnR 9 1 encN B w2 b2 ys2) (bl : RowKit.Below B W w2)
    (k2 : ∀ x, x < W.heap.size → some x ≠ b.ownBlock → w2.heap[x]? = W.heap[x]?) : RecAt w2 rb a b ∧ CSt w1 B rb tb nb (w2.setCell ⟨rb, 7, none⟩ b2) a b2 c xs ys2 zs := by
  obtain ⟨l1, l2, l3, l4, l5, l6, l7, l8, l9⟩ := h.lt
  have K2 := kept_of bl k2
  have own : ∀ g, b.ownBlock = some g → B ≤ g := fun g hg => (World.ownsRow.lt h.nms g hg).1
  have ne : ∀ n, n < B → some n ≠ b.ownBlock := fun n hn e => by have := own n e.symm; omega
  have KS := kept_setCellv w2 rb 7 b2
  have R2 : RecAt w2 rb a b := h.rec'.kept K2 (ne rb l1)
  have far : ∀ {g}, B ≤ g → some g ≠ some rb := fun {g} hg e => by simp at e; omega
  refine ⟨R2, R2.names b2, (h.ty.kept K2 (ne tb l2)).kept KS (by simp; omega), box_kept (box_kept h.nm K2 (ne nb l3)) KS (by simp; omega), ?_, ?_, ?_, ?_, ?_⟩
  · exact ownR_kept (ownR_kept h.its K2 fun g hg => ownR_apart h.its h.nms (by decide) hg) KS fun g hg => far (World.ownsRow.lt h.its g hg).1
  · exact ownR_kept h2 KS fun g hg => far (World.ownsRow.lt h2 g hg).1
  · exact ownR_kept (ownR_kept h.ats K2 fun g hg => ownR_apart h.ats h.nms (by decide) hg) KS fun g hg => far (World.ownsRow.lt h.ats g hg).1
  · exact (h.low.kept K2 fun g hg => by have := own g hg; omega).kept KS fun g hg => by simp at hg; omega
  · exact ⟨l1, l2, l3, l4, l5, l6, l7, l8, by have := K2.2.2.1; simp; omega⟩
theorem cst_items {w1 W w2 : World} {B rb tb nb : Nat} {a b c a2 : Value} {xs xs2 : List El} {ys : List ByteArray} {zs : List Ax} (h : CSt w1 B rb tb nb W a b c xs ys zs) (h2 : OwnVv B w2 a2 xs2) (bl : RowKit.Below B W w2)
    (k2 : ∀ x, x < W.heap.size → some x ≠ a.ownBlock → w2.heap[x]? = W.heap[x]?) : RecAt w2 rb a b ∧ CSt w1 B rb tb nb (w2.setCell ⟨rb, 6, none⟩ a2) a2 b c xs2 ys zs := by
  obtain ⟨l1, l2, l3, l4, l5, l6, l7, l8, l9⟩ := h.lt
  have K2 := kept_of bl k2
  have own : ∀ g, a.ownBlock = some g → B ≤ g := fun g hg => (World.ownsRow.lt h.its g hg).1
  have ne : ∀ n, n < B → some n ≠ a.ownBlock := fun n hn e => by have := own n e.symm; omega
  have KS := kept_setCellv w2 rb 6 a2
  have R2 : RecAt w2 rb a b := h.rec'.kept K2 (ne rb l1)
  have far : ∀ {g}, B ≤ g → some g ≠ some rb := fun {g} hg e => by simp at e; omega
  refine ⟨R2, R2.items a2, (h.ty.kept K2 (ne tb l2)).kept KS (by simp; omega), box_kept (box_kept h.nm K2 (ne nb l3)) KS (by simp; omega), ?_, ?_, ?_, ?_, ?_⟩
  · exact ownR_kept h2 KS fun g hg => far (World.ownsRow.lt h2 g hg).1
  · exact ownR_kept (ownR_kept h.nms K2 fun g hg => ownR_apart h.nms h.its (by decide) hg) KS fun g hg => far (World.ownsRow.lt h.nms g hg).1
  · exact ownR_kept (ownR_kept h.ats K2 fun g hg => ownR_apart h.ats h.its (by decide) hg) KS fun g hg => far (World.ownsRow.lt h.ats g hg).1
  · exact (h.low.kept K2 fun g hg => by have := own g hg; omega).kept KS fun g hg => by simp at hg; omega
  · exact ⟨l1, l2, l3, l4, l5, l6, l7, l8, by have := K2.2.2.1; simp; omega⟩
theorem cst_attrs {w1 W w2 : World} {B rb tb nb : Nat} {a b c c2 : Value} {xs : List El} {ys : List ByteArray} {zs zs2 : List Ax} (h : CSt w1 B rb tb nb W a b c xs ys zs) (h2 : OwnR 63 6 encX B w2 c2 zs2) (bl : RowKit.Below B W w2)
    (k2 : ∀ x, x < W.heap.size → some x ≠ c.ownBlock → w2.heap[x]? = W.heap[x]?) : TyAt w2 tb c ∧ CSt w1 B rb tb nb (w2.setCell ⟨tb, 3, none⟩ c2) a b c2 xs ys zs2 := by
  obtain ⟨l1, l2, l3, l4, l5, l6, l7, l8, l9⟩ := h.lt
  have K2 := kept_of bl k2
  have own : ∀ g, c.ownBlock = some g → B ≤ g := fun g hg => (World.ownsRow.lt h.ats g hg).1
  have ne : ∀ n, n < B → some n ≠ c.ownBlock := fun n hn e => by have := own n e.symm; omega
  have KS := kept_setCellv w2 tb 3 c2
  have R2 : TyAt w2 tb c := h.ty.kept K2 (ne tb l2)
  have far : ∀ {g}, B ≤ g → some g ≠ some tb := fun {g} hg e => by simp at e; omega
  refine ⟨R2, (h.rec'.kept K2 (ne rb l1)).kept KS (by simp; omega), R2.put c2, box_kept (box_kept h.nm K2 (ne nb l3)) KS (by simp; omega), ?_, ?_, ?_, ?_, ?_⟩
  · exact ownR_kept (ownR_kept h.its K2 fun g hg => ownR_apart h.its h.ats (by decide) hg) KS fun g hg => far (World.ownsRow.lt h.its g hg).1
  · exact ownR_kept (ownR_kept h.nms K2 fun g hg => ownR_apart h.nms h.ats (by decide) hg) KS fun g hg => far (World.ownsRow.lt h.nms g hg).1
  · exact ownR_kept h2 KS fun g hg => far (World.ownsRow.lt h2 g hg).1
  · exact (h.low.kept K2 fun g hg => by have := own g hg; omega).kept KS fun g hg => by simp at hg; omega
  · exact ⟨l1, l2, l3, l4, l5, l6, l7, l8, by have := K2.2.2.1; simp; omega⟩
theorem cst_new {w1 W0 : World} {tv tt ts : TypeId} (h : W0 = ((w1.alloc (.cells #[.int .i64 6, .bool false, .int .i64 0, .string ⟨#[]⟩, .string ⟨#[]⟩, .string ⟨#[]⟩, .slice none 0 0, .slice none 0 0] tv)).alloc (.cells #[.int .i64 8, .string ⟨#[]⟩, .slice none 0 0, .slice none 0 0] tt)).alloc (.cells #[.string ⟨#[97]⟩, .string ⟨#[98]⟩, .string ⟨#[99]⟩, .string ⟨#[100]⟩] ts)) :
    CSt w1 W0.heap.size w1.heap.size (w1.heap.size + 1) (w1.heap.size + 1 + 1) W0 (.slice none 0 0) (.slice none 0 0) (.slice none 0 0) [] [] [] := by
  obtain ⟨V1, hV1⟩ : ∃ V, V = w1.alloc (.cells #[.int .i64 6, .bool false, .int .i64 0, .string ⟨#[]⟩, .string ⟨#[]⟩, .string ⟨#[]⟩, .slice none 0 0, .slice none 0 0] tv) := ⟨_, rfl⟩
  obtain ⟨V2, hV2⟩ : ∃ V, V = V1.alloc (.cells #[.int .i64 8, .string ⟨#[]⟩, .slice none 0 0, .slice none 0 0] tt) := ⟨_, rfl⟩
  rw [← hV1, ← hV2] at h
  have s1 : V1.heap.size = w1.heap.size + 1 := by rw [hV1]; simp
  have s2 : V2.heap.size = w1.heap.size + 1 + 1 := by rw [hV2]; simp [s1]
  have s3 : W0.heap.size = w1.heap.size + 1 + 1 + 1 := by rw [h]; simp [s2]
  have r1 : RecAt V1 w1.heap.size (.slice none 0 0) (.slice none 0 0) := by rw [hV1]; exact rec_new w1 _
  have t1 : TyAt V2 (w1.heap.size + 1) (.slice none 0 0) := by rw [hV2, ← s1]; exact ty_new V1 _
  have l1 : Low w1 V1 := by rw [hV1]; exact Low.alloc (Low.refl _) _
  have l2 : Low V1 V2 := by rw [hV2]; exact Low.alloc (Low.refl _) _
  have l3 : Low V2 W0 := by rw [h]; exact Low.alloc (Low.refl _) _
  refine ⟨r1.low (l2.trans l3), t1.kept (KeptButv.of_low (r := none) l3) (by simp), fun j v hv => ?_, OwnR.nil _ _ _ _ _, OwnR.nil _ _ _ _ _, OwnR.nil _ _ _ _ _, (l1.trans l2).trans l3, ?_⟩
  · rw [Nat.zero_add, h, ← s2, World.cell?_alloc_mark]
    simpa using hv
  · rw [s3]; refine ⟨by omega, by omega, by omega, by omega, by omega, by omega, by omega, by omega, by omega⟩
/-- What is known of the record's rows. -/
structure RFa (i : Nat) (ks : List Int) (ys : List ByteArray) : Prop where
  len : ys.length = ks.length
  sub : ys.Sublist (abcd.take i)
  kk : ∀ k ∈ ks, 1 ≤ k ∧ k ≤ 3
/-- What is known of the attributes. -/
structure ZFa (i : Nat) (zs : List Ax) : Prop where
  zl : zs.length ≤ i
  zk : ∀ x ∈ zs, 0 ≤ x.k ∧ x.k ≤ 6
  sub : (zs.map Ax.n).Sublist (abcd.take i)
theorem rfa_0 : RFa 0 [] [] := ⟨rfl, by simp, by simp⟩
theorem zfa_0 : ZFa 0 [] := ⟨by simp, by simp, by simp⟩
theorem RFa.more {i : Nat} {ks : List Int} {ys : List ByteArray} (h : RFa i ks ys) : RFa (i + 1) ks ys := ⟨h.len, h.sub.trans (List.take_sublist_take_left (by omega)), h.kk⟩
theorem ZFa.more {i : Nat} {zs : List Ax} (h : ZFa i zs) : ZFa (i + 1) zs := ⟨by have := h.zl; omega, h.zk, h.sub.trans (List.take_sublist_take_left (by omega))⟩
theorem RFa.yl {i : Nat} {ks : List Int} {ys : List ByteArray} (h : RFa i ks ys) : ys.length ≤ i := by
  have := h.sub.length_le
  rw [List.length_take] at this
  omega
theorem RFa.kl {i : Nat} {ks : List Int} {ys : List ByteArray} (h : RFa i ks ys) : ks.length ≤ i := by have := h.yl; have := h.len; omega
theorem RFa.snoc {i : Nat} {ks : List Int} {ys : List ByteArray} (h : RFa i ks ys) (hi : i < abcd.length) (x : ByteArray) (hx : x = abcd[i]) (k : Int) (hk : 1 ≤ k ∧ k ≤ 3) : RFa (i + 1) (ks ++ [k]) (ys ++ [x]) := by
  subst hx
  refine ⟨by simp [h.len], ?_, fun y hy => ?_⟩
  · rw [List.take_succ_eq_append_getElem hi]
    exact h.sub.append (List.Sublist.refl _)
  · rcases List.mem_append.1 hy with hy | hy
    · exact h.kk y hy
    · simp at hy; subst hy; exact hk
theorem ZFa.snoc {i : Nat} {zs : List Ax} (h : ZFa i zs) (hi : i < abcd.length) (x : ByteArray) (hx : x = abcd[i]) (k : Int) (o : Bool) (hk : 0 ≤ k ∧ k ≤ 6) : ZFa (i + 1) (zs ++ [⟨x, k, o⟩]) := by
  subst hx
  refine ⟨by have := h.zl; simp; exact this, fun y hy => ?_, ?_⟩
  · rcases List.mem_append.1 hy with hy | hy
    · exact h.zk y hy
    · simp at hy; subst hy; exact hk
  · rw [List.map_append, List.take_succ_eq_append_getElem hi]
    exact h.sub.append (List.Sublist.refl _)
theorem abcd_size (i : Nat) (hi : i < abcd.length) : (abcd[i]).size ≤ 9223372036854775807 := by
  have h : ∀ y ∈ abcd, y.size ≤ 9223372036854775807 := by unfold abcd; intro y hy; simp at hy; rcases hy with rfl | rfl | rfl | rfl <;> decide
  exact h _ (List.getElem_mem hi)
theorem ys_size {ys : List ByteArray} (h : ys.Sublist abcd) : ∀ x ∈ ys, x.size ≤ 9223372036854775807 := fun x hx => by
  obtain ⟨i, hi, he⟩ := List.getElem_of_mem (h.subset hx)
  rw [← he]; exact abcd_size i hi
theorem zs_size {zs : List Ax} (h : (zs.map Ax.n).Sublist abcd) : ∀ x ∈ zs, x.n.size ≤ 9223372036854775807 := fun x hx => ys_size h x.n (List.mem_map_of_mem hx)
theorem kind_b (j : Nat) (hj : j < 4) : 1 ≤ wrap64 (1 + (wrap64 (j : Int)).tmod 3) ∧ wrap64 (1 + (wrap64 (j : Int)).tmod 3) ≤ 3 := by
  match j, hj with
  | 0, _ => decide +kernel
  | 1, _ => decide +kernel
  | 2, _ => decide +kernel
  | 3, _ => decide +kernel
theorem can_scal {k : Int} (h : 1 ≤ k ∧ k ≤ 3) : (can (scal k)).1 = 0 := by
  rw [can_v]
  show (if k = 1 then _ else if k = 2 then _ else if k = 3 then _ else _ : Int × V).1 = 0
  by_cases h1 : k = 1
  · rw [if_pos h1]
  rw [if_neg h1]
  by_cases h2 : k = 2
  · rw [if_pos h2]
  rw [if_neg h2, if_pos (by omega)]
theorem abcd_nodup : abcd.Nodup := by decide +kernel
theorem recB_can {ys : List ByteArray} {ks : List Int} (hl : ys.length = ks.length) (h4 : ks.length ≤ 4) (hk : ∀ k ∈ ks, 1 ≤ k ∧ k ≤ 3) (hs : ys.Sublist abcd) : (canD (recB ys ks)).1 = 0 := by
  have hd : ¬ 50 < dptv (recB ys ks) := by have := dpt_le_dep (recB ys ks); have := recB_dep ys ks; omega
  unfold canD
  rw [if_neg hd, can_v]
  have h6 : (recB ys ks).h.k = 6 := rfl
  rw [h6]
  rw [if_neg (by decide), if_neg (by decide), if_neg (by decide), if_neg (by decide), if_neg (by decide), if_pos rfl]
  have hlen : (recB ys ks).ns.length = (recB ys ks).l.length := by show ys.length = (ks.map scal).length; rw [List.length_map]; exact hl
  have hc : canL (recB ys ks).l = (0, (recB ys ks).l.map fun x => (can x).2) := canL_of (by show (ks.map scal).length ≤ 4096; rw [List.length_map]; omega) fun x hx => by
    obtain ⟨k, hk1, rfl⟩ := List.mem_map.1 (show x ∈ ks.map scal from hx)
    exact can_scal (hk k hk1)
  rw [if_pos hlen, hc, if_pos rfl]
  unfold recC
  rw [if_pos (show (recB ys ks).ns.Nodup from hs.nodup abcd_nodup)]
theorem and3 : ∃ f : Int → Nat, ∀ y, bits BinOp.and IntKind.u16 y 3 = (f y : Int) ∧ f y < 4 := by
  refine ⟨fun y => ((BitVec.ofInt 16 y).toNat &&& 3), fun y => ?_⟩
  have h : ((BitVec.ofInt 16 y).toNat &&& 3) < 4 := by have := Nat.and_le_right (n := (BitVec.ofInt 16 y).toNat) (m := 3); omega
  refine ⟨?_, h⟩
  have h3 : (BitVec.ofInt IntKind.u16.bits 3).toNat = 3 := by decide
  have hw : ∀ n : Int, 0 ≤ n → n < 4 → IntKind.u16.wrap n = n := fun n h0 h1 => by
    simp [IntKind.wrap, IntKind.bits, IntKind.signed]; omega
  simp only [bits, BitVec.toNat_and, h3]
  exact hw _ (Int.natCast_nonneg _) (by exact_mod_cast h)
def kdR : Nat → Int
  | 0 => 3
  | 1 => 4
  | 2 => 5
  | _ => 1
theorem kd_ok (j : Nat) : 0 ≤ kdR j ∧ kdR j ≤ 6 := by unfold kdR; split <;> decide
theorem kinds_at (V : World) (T : TypeId) (j : Nat) (hj : j < 4) : (V.alloc (.cells #[.int .i64 3, .int .i64 4, .int .i64 5, .int .i64 1] T)).cell? ⟨V.heap.size, j, none⟩ = some (.int .i64 (kdR j)) := by
  match j, hj with
  | 0, _ => simp [go_sem, kdR]
  | 1, _ => simp [go_sem, kdR]
  | 2, _ => simp [go_sem, kdR]
  | 3, _ => simp [go_sem, kdR]
theorem nm_at {W : World} {nb i : Nat} (h : CellsAtv W nb 0 [.string ⟨#[97]⟩, .string ⟨#[98]⟩, .string ⟨#[99]⟩, .string ⟨#[100]⟩]) (hi : i < abcd.length) : W.cell? ⟨nb, i, none⟩ = some (.string abcd[i]) := by
  have hi4 : i < 4 := hi
  have := h i (.string abcd[i]) (by
    match i, hi4 with
    | 0, _ => rfl
    | 1, _ => rfl
    | 2, _ => rfl
    | 3, _ => rfl)
  rwa [Nat.zero_add] at this
theorem own_sl {α : Type} {e : TypeId} {k : Nat} {enc : α → List Value} {B : Nat} {w : World} {v : Value} {l : List α} (h : OwnR e k enc B w v l) : ∃ ao n cp, v = .slice ao n cp ∧ OwnR e k enc B w (.slice ao n cp) l := by
  obtain ⟨ao, cp, hv, -⟩ := OwnR.shape h
  exact ⟨ao, _, cp, hv, hv ▸ h⟩
theorem elB_snoc {ks : List Int} {k : Int} : ks.map elB ++ [elB k] = (ks ++ [k]).map elB := by simp
end Go.Proofs.YtnenjgngahipdaaGreat
namespace Go.Proofs.YtnenjgngahipdaaGreat
open Go.RowKit
set_option linter.unusedVariables false
set_option maxHeartbeats 51200000 in
set_option maxRecDepth 100000 in
theorem conformRecords_v (w : World) (h0 k0 a0 o0 : Int) :
    Calls Tryz.prog 6 #[.int .u8 h0, .int .u16 k0, .int .u8 a0, .int .u8 o0] w fun e w' => e = .returned (.bool true) ∧ Low w w' := by
  have HAw := Lib.hid (awake13_c w)
  obtain ⟨f, hf⟩ := and3
  have HF := Lib.hid hf
  clear hf
  go_enter Tryz.func6, Tryz.ntmps6
  go_wp2_with fail
  refine HAw.out.mono ?_
  rintro e w1 ⟨rfl, k1⟩
  have L1 := Lib.hid k1
  clear k1 HAw
  obtain ⟨W0, hW0⟩ : ∃ W, W = ((w1.alloc (.cells #[.int .i64 6, .bool false, .int .i64 0, .string ⟨#[]⟩, .string ⟨#[]⟩, .string ⟨#[]⟩, .slice none 0 0, .slice none 0 0] 27)).alloc (.cells #[.int .i64 8, .string ⟨#[]⟩, .slice none 0 0, .slice none 0 0] 31)).alloc (.cells #[.string ⟨#[97]⟩, .string ⟨#[98]⟩, .string ⟨#[99]⟩, .string ⟨#[100]⟩] 9) := ⟨_, rfl⟩
  have RS0 : Hid (CSt w1 W0.heap.size w1.heap.size (w1.heap.size + 1) (w1.heap.size + 1 + 1) W0 (.slice none 0 0) (.slice none 0 0) (.slice none 0 0) (([] : List Int).map elB) [] []) := Lib.hid (cst_new hW0)
  go_wp2_with fail
  rw [← hW0]
  clear hW0
  obtain ⟨B, hB⟩ : ∃ B, B = W0.heap.size := ⟨_, rfl⟩
  obtain ⟨rb, hrb⟩ : ∃ B, B = w1.heap.size := ⟨_, rfl⟩
  rw [← hB, ← hrb] at RS0
  rw [← hrb]
  clear hB hrb
  go_loopg [13] 4 (fun gk vi wr => ∃ (i : Nat) (a b c : Value) (ks : List Int) (ys : List ByteArray) (zs : List Ax), vi = .int .i64 (i : Int) ∧ i ≤ 4 ∧ 4 - i ≤ gk ∧ Hid (CSt w1 B rb (rb + 1) (rb + 1 + 1) wr a b c (ks.map elB) ys zs) ∧ Hid (RFa i ks ys ∧ ZFa i zs))
  case atStart => exact ⟨0, _, _, _, [], [], [], rfl, by decide, by decide, RS0, Lib.hid ⟨rfa_0, zfa_0⟩⟩
  case round =>
    obtain ⟨i, a, b, c, ks, ys, zs, rfl, hi, hg, RS, FA⟩ := hrel
    by_cases hlt : i < 4
    · have z1 : (i : Int) < 4 := by omega
      obtain ⟨x, hx⟩ : ∃ x, x = abcd[i]'hlt := ⟨_, rfl⟩
      have HX := Lib.hid hx
      have HXS := Lib.hid (show x.size ≤ 9223372036854775807 by rw [hx]; exact abcd_size i hlt)
      have NM := Lib.hid (fun W (h : CellsAtv W (rb + 1 + 1) 0 [.string ⟨#[97]⟩, .string ⟨#[98]⟩, .string ⟨#[99]⟩, .string ⟨#[100]⟩]) => (by have := nm_at h hlt; rwa [← hx] at this : W.cell? ⟨rb + 1 + 1, i, none⟩ = some (.string x)))
      clear hx
      cases ha : (bits BinOp.and IntKind.u8 (a0 / 2 ^ i) 1 == 1) with
      | false =>
        cases hb : (bits BinOp.and IntKind.u8 (h0 / 2 ^ i) 1 == 1) with
        | false =>
          go_wp2_with fail
          go_roundg (4 - (i + 1))
          case measure => omega
          case rel => exact ⟨i + 1, _, _, _, ks, _, zs, by go_num, by omega, by omega, RS, Lib.hid ⟨FA.out.1.more, FA.out.2.more⟩⟩
        | true =>
          have c7 : wr.cell? ⟨rb, 7, none⟩ = some b := RS.out.rec'.facts.1.2.2.2.2.2.2.2
          have c7X : ∀ X, (wr.alloc X).cell? ⟨rb, 7, none⟩ = some b := fun X => (RS.out.grow (Low.alloc (Low.refl _) X)).rec'.facts.1.2.2.2.2.2.2.2
          have cn := NM.out wr RS.out.nm
          have ZSZ := Lib.hid RS.out.lt.2.2.2.2.2.2.2.2
          go_wp2_with fail
          go_region_law (refine ownR_step2 rfl _ _ _ rfl Tryz.underlying25 n_info rfl (by decide) (by decide) encN_len encN_one B b ys rfl (RS.out.grow (Gr.drew (Gr.alloc (Gr.refl wr) _)).low).nms x ⟨wr.heap.size, 0, none⟩ 1 rfl (fun j u hj => newcell_at _ _ _ _ _ rfl hj) (by have := FA.out.1.yl; omega) (by have := ZSZ.out; simp; omega) ?_; intro b2 w2 h2 bl k2 _; obtain ⟨ao2, n2, cp2, rfl, h2⟩ := own_sl h2; obtain ⟨r2, st2⟩ := cst_names (RS.out.grow (Gr.drew (Gr.alloc (Gr.refl wr) _)).low) h2 bl k2; have f7 := r2.facts.1.2.2.2.2.2.2.2; have fz7 := r2.facts.2.2; have ST2 := Lib.hid st2; clear h2 bl k2 r2 st2)
          all_goals
            obtain ⟨WN, hWN⟩ : ∃ W, W = w2.setCell ⟨rb, 7, none⟩ (.slice ao2 n2 cp2) := ⟨_, rfl⟩
            rw [← hWN] at ST2 ⊢
            clear hWN c7 c7X f7 fz7 cn ZSZ
            have c6 : WN.cell? ⟨rb, 6, none⟩ = some a := ST2.out.rec'.facts.1.2.2.2.2.2.2.1
            have c6X : ∀ X, (WN.alloc X).cell? ⟨rb, 6, none⟩ = some a := fun X => (ST2.out.grow (Low.alloc (Low.refl _) X)).rec'.facts.1.2.2.2.2.2.2.1
            have fb : ∀ y, bits BinOp.and IntKind.u16 y 3 = (f y : Int) := fun y => (HF.out y).1
            have ZSZ := Lib.hid ST2.out.lt.2.2.2.2.2.2.2.2
            go_wp2_with (at_builtin; go_loud (refine appR rfl _ _ _ rfl Tryz.underlying24 v_infov rfl (by decide) (by decide) encV_lenv encV_onev B a (ks.map elB) rfl (ST2.out.grow (Low.alloc (Low.refl WN) _)).its (elB _) ⟨WN.heap.size, 0, none⟩ 1 rfl (fun j u hj => newcell_at _ _ _ _ _ rfl hj) (by have := FA.out.1.kl; simp; omega) (by have := ZSZ.out; simp; omega) ?_); intro a2 w4 h2 bl k2 _; obtain ⟨ao4, n4, cp4, rfl, h2⟩ := own_sl h2; obtain ⟨r4, st4⟩ := cst_items (ST2.out.grow (Low.alloc (Low.refl WN) _)) h2 bl k2; have f6 := r4.facts.1.2.2.2.2.2.2.1; have fz6 := r4.facts.2.1; have ST4 := Lib.hid (elB_snoc ▸ st4); clear h2 bl k2 r4 st4)
            go_roundg (4 - (i + 1))
            case measure => omega
            case rel => exact ⟨i + 1, _, _, _, _, _, zs, by go_num, by omega, by omega, ST4, Lib.hid ⟨FA.out.1.snoc hlt x HX.out _ (kind_b _ (HF.out _).2), FA.out.2.more⟩⟩
      | true =>
        cases hb : (bits BinOp.and IntKind.u8 (h0 / 2 ^ i) 1 == 1) with
        | false =>
          have c3 : wr.cell? ⟨rb + 1, 3, none⟩ = some c := RS.out.ty.facts.1.2.2.2
          have c3X : ∀ X, (wr.alloc X).cell? ⟨rb + 1, 3, none⟩ = some c := fun X => (RS.out.grow (Low.alloc (Low.refl _) X)).ty.facts.1.2.2.2
          have c3XY : ∀ X Y, ((wr.alloc X).alloc Y).cell? ⟨rb + 1, 3, none⟩ = some c := fun X Y => ((RS.out.grow (Low.alloc (Low.refl _) X)).grow (Low.alloc (Low.refl _) Y)).ty.facts.1.2.2.2
          have cn : wr.cell? ⟨rb + 1 + 1, i, none⟩ = some (.string x) := NM.out _ RS.out.nm
          have cnX : ∀ X, (wr.alloc X).cell? ⟨rb + 1 + 1, i, none⟩ = some (.string x) := fun X => NM.out _ (RS.out.grow (Low.alloc (Low.refl _) X)).nm
          have cl : ∀ (V : World) (T : TypeId) (y : Int), (V.alloc (.cells #[.int .i64 3, .int .i64 4, .int .i64 5, .int .i64 1] T)).cell? ⟨V.heap.size, f y, none⟩ = some (.int .i64 (kdR (f y))) := fun V T y => kinds_at V T _ (HF.out y).2
          have fb : ∀ y, bits BinOp.and IntKind.u16 y 3 = (f y : Int) := fun y => (HF.out y).1
          have f4 : ∀ y, (f y : Int) < 4 := fun y => by have := (HF.out y).2; omega
          have f40 : ∀ y, f y < 4 := fun y => (HF.out y).2
          have ZSZ := Lib.hid RS.out.lt.2.2.2.2.2.2.2.2
          go_wp2_with fail
          go_region_law (refine ownR_step2 rfl _ _ _ rfl Tryz.underlying29 x_info rfl (by decide) (by decide) encX_len encX_one B c zs rfl (RS.out.grow (Gr.drew (Gr.alloc (Gr.alloc (Gr.refl wr) _) _)).low).ats (⟨x, _, _⟩ : Ax) ⟨wr.heap.size + 1, 0, none⟩ 1 rfl (fun j u hj => newcell_at _ _ _ _ _ rfl hj) (by have := FA.out.2.zl; omega) (by have := ZSZ.out; simp; omega) ?_; intro c2 w6 h2 bl k2 _; obtain ⟨ao5, n5, cp5, rfl, h2⟩ := own_sl h2; obtain ⟨r2, st2⟩ := cst_attrs (RS.out.grow (Gr.drew (Gr.alloc (Gr.alloc (Gr.refl wr) _) _)).low) h2 bl k2; have f3 := r2.facts.1.2.2.2; have fz3 := r2.facts.2; have ST6 := Lib.hid st2; clear h2 bl k2 r2 st2)
          all_goals
            go_wp2_with fail
            go_roundg (4 - (i + 1))
            case measure => omega
            case rel => exact ⟨i + 1, _, _, _, ks, _, _, by go_num, by omega, by omega, ST6, Lib.hid ⟨FA.out.1.more, FA.out.2.snoc hlt x HX.out _ _ (kd_ok _)⟩⟩
        | true =>
          have c7 : wr.cell? ⟨rb, 7, none⟩ = some b := RS.out.rec'.facts.1.2.2.2.2.2.2.2
          have c7X : ∀ X, (wr.alloc X).cell? ⟨rb, 7, none⟩ = some b := fun X => (RS.out.grow (Low.alloc (Low.refl _) X)).rec'.facts.1.2.2.2.2.2.2.2
          have cn := NM.out wr RS.out.nm
          have ZSZ := Lib.hid RS.out.lt.2.2.2.2.2.2.2.2
          go_wp2_with fail
          go_region_law (refine ownR_step2 rfl _ _ _ rfl Tryz.underlying25 n_info rfl (by decide) (by decide) encN_len encN_one B b ys rfl (RS.out.grow (Gr.drew (Gr.alloc (Gr.refl wr) _)).low).nms x ⟨wr.heap.size, 0, none⟩ 1 rfl (fun j u hj => newcell_at _ _ _ _ _ rfl hj) (by have := FA.out.1.yl; omega) (by have := ZSZ.out; simp; omega) ?_; intro b2 w2 h2 bl k2 _; obtain ⟨ao2, n2, cp2, rfl, h2⟩ := own_sl h2; obtain ⟨r2, st2⟩ := cst_names (RS.out.grow (Gr.drew (Gr.alloc (Gr.refl wr) _)).low) h2 bl k2; have f7 := r2.facts.1.2.2.2.2.2.2.2; have fz7 := r2.facts.2.2; have ST2 := Lib.hid st2; clear h2 bl k2 r2 st2)
          all_goals
            obtain ⟨WN, hWN⟩ : ∃ W, W = w2.setCell ⟨rb, 7, none⟩ (.slice ao2 n2 cp2) := ⟨_, rfl⟩
            rw [← hWN] at ST2 ⊢
            clear hWN c7 c7X f7 fz7 cn ZSZ
            have c6 : WN.cell? ⟨rb, 6, none⟩ = some a := ST2.out.rec'.facts.1.2.2.2.2.2.2.1
            have c6X : ∀ X, (WN.alloc X).cell? ⟨rb, 6, none⟩ = some a := fun X => (ST2.out.grow (Low.alloc (Low.refl _) X)).rec'.facts.1.2.2.2.2.2.2.1
            have fb : ∀ y, bits BinOp.and IntKind.u16 y 3 = (f y : Int) := fun y => (HF.out y).1
            have ZSZ := Lib.hid ST2.out.lt.2.2.2.2.2.2.2.2
            go_wp2_with (at_builtin; go_loud (refine appR rfl _ _ _ rfl Tryz.underlying24 v_infov rfl (by decide) (by decide) encV_lenv encV_onev B a (ks.map elB) rfl (ST2.out.grow (Low.alloc (Low.refl WN) _)).its (elB _) ⟨WN.heap.size, 0, none⟩ 1 rfl (fun j u hj => newcell_at _ _ _ _ _ rfl hj) (by have := FA.out.1.kl; simp; omega) (by have := ZSZ.out; simp; omega) ?_); intro a2 w4 h2 bl k2 _; obtain ⟨ao4, n4, cp4, rfl, h2⟩ := own_sl h2; obtain ⟨r4, st4⟩ := cst_items (ST2.out.grow (Low.alloc (Low.refl WN) _)) h2 bl k2; have f6 := r4.facts.1.2.2.2.2.2.2.1; have fz6 := r4.facts.2.1; have ST4 := Lib.hid (elB_snoc ▸ st4); clear h2 bl k2 r4 st4)
            obtain ⟨WM, hWM⟩ : ∃ W, W = w4.setCell ⟨rb, 6, none⟩ (.slice ao4 n4 cp4) := ⟨_, rfl⟩
            rw [← hWM] at ST4 ⊢
            clear hWM c6 c6X f6 fz6 fb ZSZ
            have c3 : WM.cell? ⟨rb + 1, 3, none⟩ = some c := ST4.out.ty.facts.1.2.2.2
            have c3X : ∀ X, (WM.alloc X).cell? ⟨rb + 1, 3, none⟩ = some c := fun X => (ST4.out.grow (Low.alloc (Low.refl _) X)).ty.facts.1.2.2.2
            have c3XY : ∀ X Y, ((WM.alloc X).alloc Y).cell? ⟨rb + 1, 3, none⟩ = some c := fun X Y => ((ST4.out.grow (Low.alloc (Low.refl _) X)).grow (Low.alloc (Low.refl _) Y)).ty.facts.1.2.2.2
            have cn : WM.cell? ⟨rb + 1 + 1, i, none⟩ = some (.string x) := NM.out _ ST4.out.nm
            have cnX : ∀ X, (WM.alloc X).cell? ⟨rb + 1 + 1, i, none⟩ = some (.string x) := fun X => NM.out _ (ST4.out.grow (Low.alloc (Low.refl _) X)).nm
            have cl : ∀ (V : World) (T : TypeId) (y : Int), (V.alloc (.cells #[.int .i64 3, .int .i64 4, .int .i64 5, .int .i64 1] T)).cell? ⟨V.heap.size, f y, none⟩ = some (.int .i64 (kdR (f y))) := fun V T y => kinds_at V T _ (HF.out y).2
            have fb : ∀ y, bits BinOp.and IntKind.u16 y 3 = (f y : Int) := fun y => (HF.out y).1
            have f4 : ∀ y, (f y : Int) < 4 := fun y => by have := (HF.out y).2; omega
            have f40 : ∀ y, f y < 4 := fun y => (HF.out y).2
            have ZSZ := Lib.hid ST4.out.lt.2.2.2.2.2.2.2.2
            go_region_law (refine ownR_step2 rfl _ _ _ rfl Tryz.underlying29 x_info rfl (by decide) (by decide) encX_len encX_one B c zs rfl (ST4.out.grow (Gr.drew (Gr.alloc (Gr.alloc (Gr.refl WM) _) _)).low).ats (⟨x, _, _⟩ : Ax) ⟨WM.heap.size + 1, 0, none⟩ 1 rfl (fun j u hj => newcell_at _ _ _ _ _ rfl hj) (by have := FA.out.2.zl; omega) (by have := ZSZ.out; simp; omega) ?_; intro c2 w6 h2 bl k2 _; obtain ⟨ao5, n5, cp5, rfl, h2⟩ := own_sl h2; obtain ⟨r2, st2⟩ := cst_attrs (ST4.out.grow (Gr.drew (Gr.alloc (Gr.alloc (Gr.refl WM) _) _)).low) h2 bl k2; have f3 := r2.facts.1.2.2.2; have fz3 := r2.facts.2; have ST6 := Lib.hid st2; clear h2 bl k2 r2 st2)
            all_goals
              go_wp2_with fail
              go_roundg (4 - (i + 1))
              case measure => omega
              case rel => exact ⟨i + 1, _, _, _, _, _, _, by go_num, by omega, by omega, ST6, Lib.hid ⟨FA.out.1.snoc hlt x HX.out _ (kind_b _ (HF.out _).2), FA.out.2.snoc hlt x HX.out _ _ (kd_ok _)⟩⟩
    · have z1 : ¬ (i : Int) < 4 := by omega
      have hie : i = 4 := by omega
      subst hie
      obtain ⟨v, hv⟩ : ∃ v, v = recB ys ks := ⟨_, rfl⟩
      obtain ⟨t, ht⟩ : ∃ t, t = recT (zs.map Ax.at) := ⟨_, rfl⟩
      have HV := Lib.hid (show R wr v a b by rw [hv]; exact r_recB RS.out.its RS.out.nms (ys_size FA.out.1.sub))
      have HSM := Lib.hid (show Smv v by rw [hv]; exact recB_sm FA.out.1.yl FA.out.1.kl)
      have HDP := Lib.hid (show dep v ≤ 1000000 by rw [hv]; have := recB_dep ys ks; omega)
      have HMT := Lib.hid (show mayB 61 t = true by rw [ht]; exact may_zs FA.out.2.zk FA.out.2.sub)
      have HRT := Lib.hid (show RT (fun _ => True) wr 61 t (.slice none 0 0) c by
        have h := rec_rt (ras_own RS.out.ats (zs_size FA.out.2.sub))
        rw [ht]; exact RT.re (h.dp.le (by omega)) h)
      have CN := Lib.hid (rCanon_c v wr a b HV.out HSM.out HDP.out)
      obtain ⟨c3, x, hcx⟩ : ∃ c x, canD v = (c, x) := ⟨_, _, rfl⟩
      rw [hcx] at CN
      have h3 : c3 = 0 := by have h := recB_can FA.out.1.len FA.out.1.kl FA.out.1.kk FA.out.1.sub; rw [← hv, hcx] at h; exact h
      subst h3
      have HCX := Lib.hid hcx
      have HVH := Lib.hid (show v.h = { hd0 with k := 6 } by rw [hv]; rfl)
      have HTH := Lib.hid (show t.k = 8 ∧ t.n = ⟨#[]⟩ by rw [ht]; exact ⟨rfl, rfl⟩)
      unfold avv at CN
      rw [HVH.out] at CN
      unfold hd0 at CN
      clear hcx hv ht
      obtain ⟨f0, f1, f2, f3, f4, f5, f6, f7⟩ := RS.out.rec'.facts.1
      go_wp2_with fail
      refine CN.out.mono ?_
      rintro e w9 ⟨bi, di, bn, dn, rfl, hrx, k9⟩
      have L9 := Lib.hid k9
      have HRX := Lib.hid (rep_any hrx)
      clear k9 hrx CN f0 f1 f2 f3 f4 f5 f6 f7
      go_upto_region 16 with fail
      refine gen_w (P := fun W => Code.wp _ _ _ _ W) (fun V2 hV2 => ?_)
      have LQ2 := Lib.hid (show Low w9 V2 by rw [hV2]; exact low_new (Low.refl _) _)
      have LV2 := Lib.hid (L9.out.trans LQ2.out)
      have BX := Lib.hid (BoxAt.made (cs := [.int .i64 x.h.k, .bool x.h.b, .int .i64 x.h.n, .string x.h.s, .string x.h.t, .string x.h.i, .slice bi x.l.length di, .slice bn x.ns.length dn]) hV2 rfl rfl)
      have TX := Lib.hid (RS.out.grow LV2.out).ty
      have LWW := Lib.hid (L1.out.trans (RS.out.low.trans LV2.out))
      obtain ⟨xb, hxb⟩ : ∃ b, b = w9.heap.size := ⟨_, rfl⟩
      rw [← hxb] at BX ⊢
      clear hV2 hxb
      haveI := InL.some V2
      have g0 := fun q : InL V2 => q.cell (BX.out.at 0 _ rfl)
      have g1 := fun q : InL V2 => q.cell (BX.out.at 1 _ rfl)
      have g2 := fun q : InL V2 => q.cell (BX.out.at 2 _ rfl)
      have g3 := fun q : InL V2 => q.cell (BX.out.at 3 _ rfl)
      have g4 := fun q : InL V2 => q.cell (BX.out.at 4 _ rfl)
      have g5 := fun q : InL V2 => q.cell (BX.out.at 5 _ rfl)
      have g6 := fun q : InL V2 => q.cell (BX.out.at 6 _ rfl)
      have g7 := fun q : InL V2 => q.cell (BX.out.at 7 _ rfl)
      have t0 := fun q : InL V2 => q.cell TX.out.facts.1.1
      have t1 := fun q : InL V2 => q.cell TX.out.facts.1.2.1
      have t2 := fun q : InL V2 => q.cell TX.out.facts.1.2.2.1
      have t3 := fun q : InL V2 => q.cell TX.out.facts.1.2.2.2
      have HRV := Lib.hid (show R V2 x (.slice bi x.l.length di) (.slice bn x.ns.length dn) from Rep.low HRX.out LQ2.out)
      have HSX := Lib.hid (show Smv x by have := canD_sm (v := v) (by rw [HCX.out]) HSM.out; rwa [HCX.out] at this)
      have HOX := Lib.hid (show Okv x by have := canD_okv (v := v) (by rw [HCX.out]); rwa [HCX.out] at this)
      obtain ⟨q1, hq1⟩ : ∃ q, q = isV 61 x t := ⟨_, rfl⟩
      have C1 := Lib.hid fun q : InL V2 => Calls.low q (value13_c 61 x t q.w _ _ _ _ HSX.out HMT.out (Rep.low HRV.out q.ok) (HRT.out.low (LV2.out.trans q.ok)))
      rw [valS_can HCX.out, ← hq1] at C1
      have C2 := Lib.hid fun q : InL V2 => Calls.low q (rv_c 61 x t q.w _ _ _ _ HOX.out HMT.out (Rep.low HRV.out q.ok) (HRT.out.low (LV2.out.trans q.ok)))
      rw [← hq1] at C2
      unfold avv tv at C1 C2
      rw [HTH.out.1, HTH.out.2] at C1 C2
      have rr : (q1 == q1) = true := by simp
      clear hq1
      refine wp_region_low mixedT (by kernel_rfl) ?_
      repeat (go_big_quiet_step (first | with_reducible exact C1.out _ | with_reducible exact C2.out _))
      refine wpQuiet_nil ?_
      rintro W8 ⟨p8, hW8⟩
      have L8 := Lib.hid (show Low V2 W8 by rw [hW8]; exact p8.ok)
      clear hW8 p8 g0 g1 g2 g3 g4 g5 g6 g7 t0 t1 t2 t3 C1 C2 this
      go_wp2_with fail
      go_ret
      exact ⟨rfl, LWW.out.trans L8.out⟩
end Go.Proofs.YtnenjgngahipdaaGreat
namespace Go.Proofs.YtnenjgngahipdaaGreat.conformRecords
open Go.ChangeShapes Go.WideShapes Go.ChangeAt Go.RowKit
open Go.ChangeMaps (open_string shut_string)
set_option linter.unusedVariables false
theorem own : ownKnob Tryz.prog.godebug = none := by kernel_rfl
theorem laidOut : laidOutB Tryz.prog = true := by kernel_rfl
set_option maxRecDepth 100000 in
theorem lifted (os : Os) (started : os.Started) (H : Type) (enc : TypeId × Value → H) :
    ReturnsInHanded {} Tryz.checked os 6 .any (Rows.conformRecordsSpec.pre6 enc Tryz.prog Tryz.f6 Rows.conformRecordsRow.domain false) (Rows.conformRecordsSpec.post enc Tryz.prog Tryz.f6 false true false false) := by
  refine returnsInHanded_of_change (C := Tryz.checked) own started (by kernel_rfl) Tryz.func6
    (ChangeSpec.witness6 (enc := enc) (C := Tryz.checked) false ⟨#[], #[.int .u8 0, .int .u16 0, .int .u8 0, .int .u8 0], []⟩ 8 (by kernel_rfl) (by kernel_rfl) (by kernel_rfl) (by kernel_rfl)) ?_
  intro W base args ds gs before hval0 hW hcnd _
  have hval : ∀ (j : Nat) t v, Tryz.f6.params[j]? = some t → args[j]? = some v → Value.okWide Tryz.prog W .any base t v := hval0
  have hW' := hW
  obtain ⟨p, q, hA0, hV, rfl, hfz, hnd⟩ := hW
  have hA : DataW.TrodAll enc Tryz.prog W 0 (fun _ => true) true Tryz.f6.params.toList args.toList ds p := hA0
  rw [Tryz.params6] at hA hval
  obtain ⟨v0, vs0, d0, ds0, p0, q0, hargs, rfl, rfl, h0, r0⟩ := trodAll_cons hA
  obtain ⟨v1, vs1, d1, ds1, p1, q1, rfl, rfl, rfl, h1, r1⟩ := trodAll_cons r0
  obtain ⟨v2, vs2, d2, ds2, p2, q2, rfl, rfl, rfl, h2, r2⟩ := trodAll_cons r1
  obtain ⟨v3, vs3, d3, ds3, p3, q3, rfl, rfl, rfl, h3, r3⟩ := trodAll_cons r2
  obtain ⟨rfl, rfl, rfl⟩ := trodAll_nil r3
  obtain rfl : args = #[v0, v1, v2, v3] := by cases args; simp_all
  obtain ⟨rfl, rfl⟩ := trodVars_none hV
  have k0 := h0
  have k1 := h1
  have k2 := h2
  have k3 := h3
  obtain ⟨b0, rfl, rfl, rfl, w0⟩ := open_int Tryz.underlying5 (hval 0 5 v0 rfl rfl) h0
  obtain ⟨b1, rfl, rfl, rfl, w1⟩ := open_int Tryz.underlying59 (hval 1 59 v1 rfl rfl) h1
  obtain ⟨b2, rfl, rfl, rfl, w2⟩ := open_int Tryz.underlying5 (hval 2 5 v2 rfl rfl) h2
  obtain ⟨b3, rfl, rfl, rfl, w3⟩ := open_int Tryz.underlying5 (hval 3 5 v3 rfl rfl) h3
  clear hA0 hval0
  refine (conformRecords_v W b0 b1 b2 b3).mono fun e W' ⟨he, hg⟩ => ?_
  subst he
  have hlt := hW'.lt
  exact ⟨_, rfl, post_of_low (pv := []) hW' (fun _ _ _ => (trodAll_cons_mk (shut_bool Tryz.underlying4 _) trodAll_mk0)) (fun sp hs => (trodAll_cons_mk (shut_int Tryz.underlying5 w0) (trodAll_cons_mk (shut_int Tryz.underlying59 w1) (trodAll_cons_mk (shut_int Tryz.underlying5 w2) (trodAll_cons_mk (shut_int Tryz.underlying5 w3) trodAll_mk0))))) (fun _ _ => rfl) rfl
    hg (ok_one (by kernel_rfl) rfl (okWide_bool_mk Tryz.underlying4 _))⟩
theorem over : Rows.conformRecordsRow.holds Tryz.pinned (OpenSpec.ofChange Rows.conformRecordsSpec) :=
  OpenClaim.holds_of_wide 6 Tryz.f6 rfl rfl rfl rfl rfl rfl rfl ⟨rfl, rfl, rfl, rfl, rfl⟩ rfl rfl rfl rfl rfl (by kernel_rfl) Tryz.func6 (by kernel_rfl)
    (of_decide_eq_true (by kernel_rfl)) (by unfold Func.isWrapper; first | (rw [if_pos (by decide +kernel)]; kernel_rfl) | (rw [if_neg (by decide +kernel)]; exact ⟨rfl, rfl⟩))
    (fun os started H enc _ => lifted os started H enc)
theorem proved : Rows.ConformRecordsSaid := over
#print axioms proved
end Go.Proofs.YtnenjgngahipdaaGreat.conformRecords
