/- A record as it must be. Condition: all rows are short. -/
import Derived.Test.YtdblkjcimegoeaaFldW
namespace Go.Proofs.Ytdblkjcimegoeaa
open Go.RowKit Go.Sort
def recS (ns : List ByteArray) (l : List V) : Int × V := if ns.length = l.length then (if (canL l).1 = 0 then recC ns (canL l).2 else ((canL l).1, V0)) else (1, V0)
theorem zipF_names {ns : List ByteArray} {ps : List El} (h : ns.length = ps.length) : (zipF ns ps).map (·.name) = ns := by
  unfold zipF
  rw [List.map_zipWith]
  apply List.ext_getElem
  · simp; omega
  · intro i h1 h2; simp
theorem zipF_pairs {ns : List ByteArray} {ps : List El} : (zipF ns ps).map (fun f => (f.name, f.p.v)) = ns.zip (ps.map (·.v)) := by
  unfold zipF
  rw [List.map_zipWith]
  apply List.ext_getElem
  · simp
  · intro i h1 h2; simp
theorem rises_nodup {l : List ByteArray} (h : Rises cmpT l) : l.Nodup :=
  List.Pairwise.imp (fun {a b} (hab : cmpT a b < 0) e => by subst e; rw [good_text.refl trivial] at hab; omega) h
theorem recC_ok {ns : List ByteArray} {ps : List El} {fs : List Fd} (hl : ns.length = ps.length) (hp : fs.Perm (zipF ns ps)) (hr : Rises cmpT (fs.map (·.name))) :
    recC ns (ps.map (·.v)) = (0, .mk { hd0 with k := 6 } (fs.map fun f => f.p.v) (fs.map (·.name))) := by
  have hn : ns.Nodup := by
    have h1 := hp.map (·.name)
    rw [zipF_names hl] at h1
    exact (h1.nodup_iff).1 (rises_nodup hr)
  have hL : (fs.map fun f => (f.name, f.p.v)).Perm (ns.zip (ps.map (·.v))) := by
    have h1 := hp.map fun f => (f.name, f.p.v)
    rwa [zipF_pairs] at h1
  have hR : Rises cmpP (fs.map fun f => (f.name, f.p.v)) := by
    unfold Rises at hr ⊢
    rw [List.pairwise_map] at hr ⊢
    exact hr
  have hE : ∀ y x : ByteArray × V, y ∈ ns.zip (ps.map (·.v)) → x ∈ ns.zip (ps.map (·.v)) → cmpP y x = 0 → y = x := by
    intro y x hy hx h
    rw [← hL.mem_iff] at hy hx
    obtain ⟨i, hi, rfl⟩ := List.getElem_of_mem hy
    obtain ⟨j, hj, rfl⟩ := List.getElem_of_mem hx
    rcases Nat.lt_trichotomy i j with hij | hij | hij
    · have := List.pairwise_iff_getElem.1 hR i j hi hj hij
      omega
    · subst hij; rfl
    · have h1 := List.pairwise_iff_getElem.1 hR j i hj hi hij
      have h2 := good_pair.anti ((fs.map fun f => (f.name, f.p.v))[i]) ((fs.map fun f => (f.name, f.p.v))[j]) trivial trivial
      omega
  have g : Good cmpP fun z => z ∈ ns.zip (ps.map (·.v)) := good_pair.mono fun _ _ => trivial
  have hu : uniq cmpP (ns.zip (ps.map (·.v))) = fs.map fun f => (f.name, f.p.v) :=
    rises_unique g (fun x hx => (mem_uniq g hE (fun _ h => h)).1 hx) (fun x hx => hL.mem_iff.1 hx) (uniq_rises g hE fun _ h => h) hR fun z => by rw [mem_uniq g hE fun _ h => h, hL.mem_iff]
  unfold recC
  rw [if_pos hn, hu, List.map_map, List.map_map]
  rfl
theorem recC_twice {ns : List ByteArray} {ps : List El} {fs : List Fd} {m : List V} (hl : ns.length = ps.length) (hp : fs.Perm (zipF ns ps)) {i : Nat} (hi : i + 1 < fs.length) (he : fs[i + 1].name = fs[i].name) : recC ns m = (13, V0) := by
  have hn : ¬ ns.Nodup := fun h => by
    have h1 := hp.map (·.name)
    rw [zipF_names hl] at h1
    have h2 := (h1.nodup_iff).2 h
    have h3 := List.pairwise_iff_getElem.1 h2 i (i + 1) (by simp; omega) (by simpa using hi) (by omega)
    simp at h3
    exact h3 he.symm
  unfold recC
  rw [if_neg hn]
def encN (s : ByteArray) : List Value := [.string s]
theorem encN_len (s : ByteArray) : (encN s).length = 1 := rfl
theorem encN_one (s : ByteArray) : ∀ u ∈ encN s, u.oneCell' = true := by
  intro u hu
  simp [encN] at hu
  subst hu
  rfl
theorem n_info : (Try.prog.info? 9).map (fun i => (i.zero, i.size, i.bytes)) = some (some (.string ⟨#[]⟩), 1, 16) := by kernel_rfl
/-- A record's eight cells in a block of the call's own, free to be written. -/
def RecAt (w : World) (r : Nat) (a b : Value) : Prop := (r < w.heap.size ∧ CellsAt w r 0 (hdc { hd0 with k := 6 } a b)) ∧ ∀ o, w.frozen? ⟨r, o, none⟩ = false
theorem RecAt.kept {w w' : World} {r : Nat} {a b : Value} {x : Option Nat} (h : RecAt w r a b) (k : KeptBut w w' x) (hr : some r ≠ x) : RecAt w' r a b :=
  ⟨⟨Nat.lt_of_lt_of_le h.1.1 k.2.2.1, fun j v hv => k.cellAt (h.1.2 j v hv) hr⟩, fun o => k.frozenAt (h.2 o) h.1.1 hr⟩
theorem RecAt.low {w w' : World} {r : Nat} {a b : Value} (h : RecAt w r a b) (k : Low w w') : RecAt w' r a b := h.kept (KeptBut.of_low (r := none) k) (by simp)
theorem rec_new (w : World) (t : TypeId) : RecAt (w.alloc (.cells #[.int .i64 6, .bool false, .int .i64 0, .string ⟨#[]⟩, .string ⟨#[]⟩, .string ⟨#[]⟩, .slice none 0 0, .slice none 0 0] t)) w.heap.size (.slice none 0 0) (.slice none 0 0) := by
  refine ⟨⟨by simp, fun j v hv => ?_⟩, fun o => ?_⟩
  · rw [Nat.zero_add, World.cell?_alloc_mark]
    simpa [hdc, hd0] using hv
  · simp [go_sem]
theorem RecAt.facts {w : World} {r : Nat} {a b : Value} (h : RecAt w r a b) : (w.cell? ⟨r, 0, none⟩ = some (.int .i64 6) ∧ w.cell? ⟨r, 1, none⟩ = some (.bool false) ∧ w.cell? ⟨r, 2, none⟩ = some (.int .i64 0) ∧ w.cell? ⟨r, 3, none⟩ = some (.string ⟨#[]⟩) ∧ w.cell? ⟨r, 4, none⟩ = some (.string ⟨#[]⟩) ∧
    w.cell? ⟨r, 5, none⟩ = some (.string ⟨#[]⟩) ∧ w.cell? ⟨r, 6, none⟩ = some a ∧ w.cell? ⟨r, 7, none⟩ = some b) ∧ w.frozen? ⟨r, 6, none⟩ = false ∧ w.frozen? ⟨r, 7, none⟩ = false := by
  have h8 := cells8 h.1.2
  simp only [Nat.zero_add] at h8
  exact ⟨h8, h.2 6, h.2 7⟩
theorem RecAt.names {w : World} {r : Nat} {a b : Value} (h : RecAt w r a b) (c : Value) : RecAt (w.setCell ⟨r, 7, none⟩ c) r a c := by
  refine ⟨⟨by simpa using h.1.1, fun j v hv => ?_⟩, fun o => by rw [World.frozen?_setCell]; exact h.2 o⟩
  have hj : j < 8 := by have := (List.getElem?_eq_some_iff.1 hv).1; simpa [hdc] using this
  rw [Nat.zero_add]
  by_cases h7 : j = 7
  · subst h7
    have : v = c := by simpa [hdc] using hv.symm
    subst this
    have hb : (w.cell? ⟨r, 7, none⟩).isSome = true := by rw [h.facts.1.2.2.2.2.2.2.2]; rfl
    exact World.cell?_setCell_same' _ _ _ hb
  · rw [World.cell?_setCell_other _ _ _ _ (by first | (simp; done) | (simp; omega))]
    have := h.1.2 j v (by
      match j, hj, h7 with
      | 0, _, _ => exact hv
      | 1, _, _ => exact hv
      | 2, _, _ => exact hv
      | 3, _, _ => exact hv
      | 4, _, _ => exact hv
      | 5, _, _ => exact hv
      | 6, _, _ => exact hv
      | 7, _, h => exact absurd rfl h)
    rwa [Nat.zero_add] at this
theorem RecAt.items {w : World} {r : Nat} {a b : Value} (h : RecAt w r a b) (c : Value) : RecAt (w.setCell ⟨r, 6, none⟩ c) r c b := by
  refine ⟨⟨by simpa using h.1.1, fun j v hv => ?_⟩, fun o => by rw [World.frozen?_setCell]; exact h.2 o⟩
  have hj : j < 8 := by have := (List.getElem?_eq_some_iff.1 hv).1; simpa [hdc] using this
  rw [Nat.zero_add]
  by_cases h7 : j = 6
  · subst h7
    have : v = c := by simpa [hdc] using hv.symm
    subst this
    have hb : (w.cell? ⟨r, 6, none⟩).isSome = true := by rw [h.facts.1.2.2.2.2.2.2.1]; rfl
    exact World.cell?_setCell_same' _ _ _ hb
  · rw [World.cell?_setCell_other _ _ _ _ (by first | (simp; done) | (simp; omega))]
    have := h.1.2 j v (by
      match j, hj, h7 with
      | 0, _, _ => exact hv
      | 1, _, _ => exact hv
      | 2, _, _ => exact hv
      | 3, _, _ => exact hv
      | 4, _, _ => exact hv
      | 5, _, _ => exact hv
      | 6, _, h => exact absurd rfl h
      | 7, _, _ => exact hv)
    rwa [Nat.zero_add] at this
theorem kept_of {w w' : World} {B : Nat} {r : Option Nat} (h : RowKit.Below B w w') (k : ∀ b, b < w.heap.size → some b ≠ r → w'.heap[b]? = w.heap[b]?) : KeptBut w w' r := ⟨h.os, h.output, h.size, k⟩
theorem rises_snoc {l : List ByteArray} {x y : ByteArray} (h : Rises cmpT (l ++ [y])) (hs : cmpT y x < 0) : Rises cmpT ((l ++ [y]) ++ [x]) := by
  unfold Rises at *
  rw [List.pairwise_append]
  refine ⟨h, by simp, fun a ha b hb => ?_⟩
  simp at hb
  subst hb
  rcases List.mem_append.1 ha with ha | ha
  · have := (List.pairwise_append.1 h).2.2 a ha y (by simp)
    exact good_text.lt a y b trivial trivial trivial this hs
  · simp at ha; subst ha; exact hs
end Go.Proofs.Ytdblkjcimegoeaa
