/- Of what was there nothing has turned: a word for what a call leaves of memory, and the last step of a law's proof from it. No condition. -/
import Derived.Test.YtijjbfdbhfjfmaaChecked
import Derived.WalkKit
import Derived.Carry
import Derived.ChangeSame
import Derived.ProofKit
import Derived.Deep.Draws
namespace Go.Proofs.Ytijjbfdbhfjfmaa
open Go.RowKit Go.ChangeShapes Go.WideShapes
/-- Each block that was there is as it was, and the streams. -/
def Low (w w' : World) : Prop := w'.os = w.os ∧ w'.output = w.output ∧ w.heap.size ≤ w'.heap.size ∧ ∀ k, k < w.heap.size → w'.heap[k]? = w.heap[k]?
theorem Low.refl (w : World) : Low w w := ⟨rfl, rfl, Nat.le_refl _, fun _ _ => rfl⟩
theorem Low.trans {a b c : World} (h : Low a b) (k : Low b c) : Low a c :=
  ⟨k.1.trans h.1, k.2.1.trans h.2.1, Nat.le_trans h.2.2.1 k.2.2.1, fun i hi => (k.2.2.2 i (Nat.lt_of_lt_of_le hi h.2.2.1)).trans (h.2.2.2 i hi)⟩
theorem Low.size {w w' : World} (h : Low w w') : w.heap.size ≤ w'.heap.size := h.2.2.1
theorem Low.of_below {w w' : World} (h : Below w.heap.size w w') : Low w w' := ⟨h.os, h.output, h.size, h.block⟩
theorem Low.drewN (w : World) (n : Nat) : Low w (w.drewN n) := ⟨rfl, rfl, Nat.le_refl _, fun _ _ => rfl⟩
theorem Low.of_drew {w w' : World} (h : ∃ n, w' = w.drewN n) : Low w w' := by obtain ⟨n, rfl⟩ := h; exact Low.drewN w n
theorem grown_block {W W' : World} (h : Grown W W') {k : Nat} (hk : k < W.heap.size) : W'.heap[k]? = W.heap[k]? := by
  have h3 := h.1.2.2 k hk
  cases e : W.heap[k]? with
  | none => rw [e] at h3; cases e' : W'.heap[k]? <;> simp_all
  | some o =>
    cases e' : W'.heap[k]? with
    | none => rw [e, e'] at h3; cases o <;> simp at h3
    | some o' =>
      rw [e, e'] at h3
      cases o <;> cases o' <;> simp at h3
      · obtain ⟨a, b, c, d⟩ := h3
        subst a b
        rw [Array.ext_getElem? d]
      all_goals simp_all
theorem Low.of_grown {w w' : World} (h : Grown w w') : Low w w' := ⟨h.1.1, h.1.2.1, h.2.2, fun _ hk => grown_block h hk⟩
theorem Low.cell {w w' : World} (h : Low w w') {p : Addr} (hp : p.block < w.heap.size) : w'.cell? p = w.cell? p := World.cell?_of_block (w := w) (h.2.2.2 p.block hp)
theorem Low.frozen {w w' : World} (h : Low w w') {p : Addr} (hp : p.block < w.heap.size) : w'.frozen? p = w.frozen? p := World.frozen?_of_block (w := w) (h.2.2.2 p.block hp)
theorem cell_lt {w : World} {p : Addr} {v : Value} (h : w.cell? p = some v) : p.block < w.heap.size := by
  rcases Nat.lt_or_ge p.block w.heap.size with k | k
  · exact k
  · have e : w.heap[p.block]? = none := by simp; exact k
    cases p with
    | mk b o f => simp [World.cell?, e] at h
theorem Low.keep {w w' : World} (h : Low w w') {p : Addr} {v : Value} (hc : w.cell? p = some v) : w'.cell? p = some v := (h.cell (cell_lt hc)).trans hc
theorem Low.frame {w w' : World} (h : Low w w') (may : MemPlace → Prop) : w.keptBut w' may := by
  refine ⟨h.1, h.2.1, fun i hi => ?_⟩
  rw [h.2.2.2 i hi]
  split <;> simp_all
theorem Low.same {W W' : World} (h : Low W W') {p : MemPlace} (hp : p.block < W.heap.size) : W.sameAt W' p := by
  cases p with
  | cell b o => exact World.cell?_of_block (w := W) (h.2.2.2 b hp)
  | map b => exact h.2.2.2 b hp
theorem low_trod {H : Type} {enc : TypeId × Value → H} {P : Program} {t : TypeId} (hl : laidOutB P = true) (hr : P.readableRec t = true) (hrow : t < P.types.size) {W W' : World} {v : Value} {d : DataW H} {ps : List MemPlace}
    (h : DataW.Trod enc P W 0 (fun _ => true) true t v d ps) (hb : Low W W') (hlt : ∀ x ∈ ps, x.block < W.heap.size) :
    DataW.Trod enc P W' 0 (fun b => decide (b < W.heap.size)) true t v d ps :=
  WideElems.Trod_stays hl hr hrow h (fun x hx => hb.same (hlt x hx)) (fun x hx => by simpa using hlt x hx)
/-- The last step of a law's proof, where it is known alone that what was there is as it was. -/
theorem post_of_low {H : Type} {enc : TypeId × Value → H} {P : Program} {f : Func} {s : ChangeSpec} {apart fresh handsOn again : Bool} {W W' : World} {args : Array Value} {v : Value} {ds gs : List (DataW H)} {before pa pv : List MemPlace}
    (hW : DataW.Whole enc P f.params.toList s.vars apart W args.toList ds gs before)
    (hres : ∀ (b : Nat) (sp : Nat → Bool) (hd : Bool), DataW.TrodAll enc P W' b sp hd f.resultTypes.toList (v.resultList f.resultTypes.size) (s.fn H (ds ++ gs)).results [])
    (hargs : ∀ sp : Nat → Bool, (∀ p ∈ before, sp p.block = true) → DataW.TrodAll enc P W' 0 sp true f.params.toList args.toList (s.fn H (ds ++ gs)).args pa)
    (hvars : ∀ sp : Nat → Bool, (∀ p ∈ before, sp p.block = true) → DataW.TrodVars enc P W' sp s.vars (s.fn H (ds ++ gs)).vars pv)
    (hps : before = pa ++ pv) (hb : Low W W')
    (hok : ∀ (j : Nat) (t : TypeId) (r : Value), f.resultTypes[j]? = some t → (v.resultList f.resultTypes.size)[j]? = some r → Value.okWide P W' .any 0 t r) :
    s.post enc P f apart fresh handsOn again W args v W' := by
  have hlt : ∀ p ∈ before, p.block < W.heap.size := fun p hp => hW.lt p hp
  have old : ∀ p ∈ before, (fun b => decide (b < W.heap.size)) p.block = true := fun p hp => decide_eq_true (hlt p hp)
  refine ⟨ds, gs, before, [], pa, pv, hW, hres _ _ _, hargs _ old, hvars _ old, World.keptBut_mono (fun p hp => ⟨hp, ?_⟩) (hb.frame (· ∈ before)), fun _ => ?_⟩
  · rw [hps, List.mem_append] at hp
    exact .inr hp
  · obtain ⟨_, _, _, _, _, hz, hn⟩ := hW
    refine ⟨hok, _, _, ([] ++ pa) ++ pv, ⟨[] ++ pa, pv, trodAll_append (hargs _ fun _ _ => rfl) (hres _ _ _), hvars _ fun _ _ => rfl, rfl, fun b off hp => ?_, fun ha => ?_⟩, fun p hp _ => ?_⟩
    · have hin : MemPlace.cell b off ∈ before := by rw [hps]; simpa using hp
      rw [hb.frozen (hlt _ hin)]
      exact hz b off hin
    · have h := hn ha
      rw [hps] at h
      simpa using h
    · rw [hps]
      simpa using hp
end Go.Proofs.Ytijjbfdbhfjfmaa
