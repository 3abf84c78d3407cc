/- A value stored into a row of the call's own; what is behind a row's first ones cleared. No condition. -/
import Derived.Test.YtdblkjcimegoeaaSortW
import Derived.Laws.OwnMore
namespace Go.Proofs.Ytdblkjcimegoeaa
open Go.RowKit Go.Sort
theorem flat_set8 (q : El) : ∀ (l : List El) (k : Nat), k < l.length →
    ((((((((l.flatMap encV).set (k * 8) (.int .i64 q.v.h.k)).set (k * 8 + 1) (.bool q.v.h.b)).set (k * 8 + 2) (.int .i64 q.v.h.n)).set (k * 8 + 3) (.string q.v.h.s)).set (k * 8 + 4) (.string q.v.h.t)).set (k * 8 + 5) (.string q.v.h.i)).set (k * 8 + 6) (.slice q.ai q.v.l.length q.ci)).set (k * 8 + 7) (.slice q.an q.v.ns.length q.cn) = (l.set k q).flatMap encV
  | [], k, h => by simp at h
  | x :: l, 0, _ => by simp [encV, hdc, El.it, El.nm]
  | x :: l, k + 1, h => by
    have ih := flat_set8 q l k (by simpa using h)
    rw [List.set_cons_succ, List.flatMap_cons, List.flatMap_cons, ← ih]
    have e : ∀ c (m : List Value) (u : Value), (encV x ++ m).set ((k + 1) * 8 + c) u = encV x ++ m.set (k * 8 + c) u := fun c m u => by
      rw [List.set_append_right _ _ (by rw [encV_len]; omega), encV_len, show (k + 1) * 8 + c - 8 = k * 8 + c by omega]
    have e0 := e 0
    simp only [Nat.add_zero] at e0
    rw [e0, e 1, e 2, e 3, e 4, e 5, e 6, e 7]
theorem kept_setCell (w : World) (g o : Nat) (v : Value) : KeptBut w (w.setCell ⟨g, o, none⟩ v) (some g) :=
  ⟨rfl, rfl, by simp, fun b _ hb => Below.heap_setCell w ⟨g, o, none⟩ v b fun e => hb (by rw [e])⟩
theorem stored8 {B : Nat} {w : World} {g cap n : Nat} {cs : List El} {k : Nat} (q : El) (h : OwnV B w (.slice (some ⟨g, 0, none⟩) n cap) cs) (hk : k < cs.length) (hn : n = cs.length) :
    OwnV B ((((((((w.setCell ⟨g, k * 8, none⟩ (.int .i64 q.v.h.k)).setCell ⟨g, k * 8 + 1, none⟩ (.bool q.v.h.b)).setCell ⟨g, k * 8 + 2, none⟩ (.int .i64 q.v.h.n)).setCell ⟨g, k * 8 + 3, none⟩ (.string q.v.h.s)).setCell ⟨g, k * 8 + 4, none⟩ (.string q.v.h.t)).setCell ⟨g, k * 8 + 5, none⟩ (.string q.v.h.i)).setCell ⟨g, k * 8 + 6, none⟩ (.slice q.ai q.v.l.length q.ci)).setCell ⟨g, k * 8 + 7, none⟩ (.slice q.an q.v.ns.length q.cn)) (.slice (some ⟨g, 0, none⟩) n cap) (cs.set k q) ∧
    KeptBut w ((((((((w.setCell ⟨g, k * 8, none⟩ (.int .i64 q.v.h.k)).setCell ⟨g, k * 8 + 1, none⟩ (.bool q.v.h.b)).setCell ⟨g, k * 8 + 2, none⟩ (.int .i64 q.v.h.n)).setCell ⟨g, k * 8 + 3, none⟩ (.string q.v.h.s)).setCell ⟨g, k * 8 + 4, none⟩ (.string q.v.h.t)).setCell ⟨g, k * 8 + 5, none⟩ (.string q.v.h.i)).setCell ⟨g, k * 8 + 6, none⟩ (.slice q.ai q.v.l.length q.ci)).setCell ⟨g, k * 8 + 7, none⟩ (.slice q.an q.v.ns.length q.cn)) (some g) := by
  subst hn
  refine ⟨?_, ?_⟩
  · unfold OwnV OwnR at *
    rw [← flat_set8 q cs k hk, List.length_set]
    have h0 := (World.ownsRow.stored h (k * 8) (.int .i64 q.v.h.k)).1
    have h1 := (World.ownsRow.stored h0 (k * 8 + 1) (.bool q.v.h.b)).1
    have h2 := (World.ownsRow.stored h1 (k * 8 + 2) (.int .i64 q.v.h.n)).1
    have h3 := (World.ownsRow.stored h2 (k * 8 + 3) (.string q.v.h.s)).1
    have h4 := (World.ownsRow.stored h3 (k * 8 + 4) (.string q.v.h.t)).1
    have h5 := (World.ownsRow.stored h4 (k * 8 + 5) (.string q.v.h.i)).1
    have h6 := (World.ownsRow.stored h5 (k * 8 + 6) (.slice q.ai q.v.l.length q.ci)).1
    exact (World.ownsRow.stored h6 (k * 8 + 7) (.slice q.an q.v.ns.length q.cn)).1
  · exact (kept_setCell _ _ _ _).trans ((kept_setCell _ _ _ _).trans ((kept_setCell _ _ _ _).trans ((kept_setCell _ _ _ _).trans ((kept_setCell _ _ _ _).trans ((kept_setCell _ _ _ _).trans ((kept_setCell _ _ _ _).trans (kept_setCell _ _ _ _)))))))
/-- The zero values that clear lays. -/
def zeros (n : Nat) : List Value := (Builtin.zeroCells #[.int .i64 0, .bool false, .int .i64 0, .string ⟨#[]⟩, .string ⟨#[]⟩, .string ⟨#[]⟩, .slice none 0 0, .slice none 0 0] n).toList
theorem zeros_len (n : Nat) : (zeros n).length = n * 8 := by simp [zeros, size_zeroCells]
theorem zeros_one (n : Nat) : ∀ v ∈ zeros n, v.oneCell' = true := by
  intro v hv
  simp only [zeros, Builtin.zeroCells] at hv
  simp only [Array.toList_map, List.mem_map] at hv
  obtain ⟨t, _, rfl⟩ := hv
  have hm : t % 8 < 8 := Nat.mod_lt _ (by decide)
  show (_ : Value).oneCell' = true
  have : ∀ c, c < 8 → ((#[.int .i64 0, .bool false, .int .i64 0, .string ⟨#[]⟩, .string ⟨#[]⟩, .string ⟨#[]⟩, .slice none 0 0, .slice none 0 0] : Array Value)[c]!).oneCell' = true := by
    intro c hc
    match c, hc with
    | 0, _ => rfl
    | 1, _ => rfl
    | 2, _ => rfl
    | 3, _ => rfl
    | 4, _ => rfl
    | 5, _ => rfl
    | 6, _ => rfl
    | 7, _ => rfl
  exact this _ hm
theorem run_clearV (w : World) (g o n c : Nat) (ty : TypeId) (hn : 0 < n) (hc : ∀ j, j < n * 8 → (w.cell? ⟨g, o + j, none⟩).isSome = true) (hf : ∀ j, j < n * 8 → w.frozen? ⟨g, o + j, none⟩ = false) :
    (Builtin.clear_ #[27] ty #[.slice (some ⟨g, o, none⟩) n c]).run Try.prog w = .ok (.tuple #[]) (w.setCells g o (zeros n)) := by
  have hst := run_storeCells_cells (P := Try.prog) g o (zeros n) 0 w (by rw [zeros_len]; simpa using hc) (by rw [zeros_len]; simpa using hf) (zeros_one n)
  simp only [Nat.add_zero] at hst
  obtain ⟨m, rfl⟩ : ∃ m, n = m + 1 := ⟨n - 1, by omega⟩
  unfold zeros at hst
  simp [Builtin.clear_, run_underlying Try.underlying27, Try.zeroValue29, hst, zeros, Value.cells]
theorem kept_setCells (g : Nat) : ∀ (vs : List Value) (o : Nat) (w : World), KeptBut w (w.setCells g o vs) (some g)
  | [], _, w => KeptBut.refl w _
  | v :: r, o, w => by rw [World.setCells]; exact (kept_setCell w g o v).trans (kept_setCells g r (o + 1) _)
/-- The first k of a row of the call's own, where all behind may have turned. -/
theorem row_prefix {B : Nat} {w w' : World} {g cap n k : Nat} {cs : List El} (h : OwnV B w (.slice (some ⟨g, 0, none⟩) n cap) cs) (E : ∀ p ∈ cs, ElOk (fun b => B ≤ b ∧ some b ≠ some g) w p) (hk : k ≤ cs.length) (hg : B ≤ g) (hn : n ≤ cap) (hcap : cap ≤ 9223372036854775807) (hcn : cs.length = n)
    (hc : ∀ j, j < k * 8 → w'.cell? ⟨g, j, none⟩ = w.cell? ⟨g, j, none⟩) (hK : KeptBut w w' (some g)) : RowAt (fun b => B ≤ b) w' ((cs.take k).map (·.v)) (.slice (some ⟨g, 0, none⟩) k cap) := by
  have hl : ((cs.take k).map (·.v)).length = k := by rw [List.length_map, List.length_take, Nat.min_eq_left hk]
  refine ⟨some ⟨g, 0, none⟩, cap, by rw [hl], ⟨by omega, hcap⟩, .inr ⟨g, 0, rfl, hg, repF_of fun j hj => ?_⟩⟩
  have hjk : j < k := by omega
  have hj' : j < cs.length := by omega
  have hget : ((cs.take k).map (·.v))[j] = cs[j].v := by simp
  refine ⟨cs[j].it, cs[j].nm, fun c u hu => ?_, ?_⟩
  · rw [hget] at hu
    have h8 : c < 8 := by have := (List.getElem?_eq_some_iff.1 hu).1; simpa [hdc] using this
    rw [Nat.zero_add, hc (j * 8 + c) (by omega), OwnR.cell encV_len h j c hj' h8]
    exact hu
  · rw [hget]
    exact Rep.to (fun b ha hb => ⟨ha.1, hK.2.2.2 b hb ha.2⟩) _ (E cs[j] (List.getElem_mem hj'))
end Go.Proofs.Ytdblkjcimegoeaa
