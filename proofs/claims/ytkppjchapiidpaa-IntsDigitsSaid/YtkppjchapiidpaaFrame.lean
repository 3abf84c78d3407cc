/- A reading of what came in stays where the world has only grown. No condition. -/
import Derived.Test.YtkppjchapiidpaaPlain
import Derived.Carry
namespace Go.Proofs.Ytkppjchapiidpaa
open Go.RowKit
theorem grown_block {W W' : World} (h : Grown W W') {k : Nat} (hk : k < W.heap.size) : W'.heap[k]? = W.heap[k]? := by
  have h3 := h.1.2.2 k hk
  cases e : W.heap[k]? with
  | none => rw [e] at h3; cases e' : W'.heap[k]? <;> simp_all
  | some o =>
    cases e' : W'.heap[k]? with
    | none => rw [e, e'] at h3; cases o <;> simp at h3
    | some o' =>
      rw [e, e'] at h3
      cases o <;> cases o' <;> simp at h3
      · obtain ⟨a, b, c, d⟩ := h3
        subst a b
        rw [Array.ext_getElem? d]
      all_goals simp_all
theorem grown_same {W W' : World} (h : Grown W W') {p : MemPlace} (hp : p.block < W.heap.size) : W.sameAt W' p := by
  cases p with
  | cell b o => exact World.cell?_of_block (w := W) (grown_block h hp)
  | map b => exact grown_block h hp
theorem grown_trod {H : Type} {enc : TypeId × Value → H} {P : Program} {t : TypeId} (hl : laidOutB P = true) (hr : P.readableRec t = true) (hrow : t < P.types.size) {W W' : World} {v : Value} {d : DataW H} {ps : List MemPlace}
    (h : DataW.Trod enc P W 0 (fun _ => true) true t v d ps) (hb : Grown W W') (hlt : ∀ x ∈ ps, x.block < W.heap.size) :
    DataW.Trod enc P W' 0 (fun b => decide (b < W.heap.size)) true t v d ps :=
  WideElems.Trod_stays hl hr hrow h (fun x hx => grown_same hb (hlt x hx)) (fun x hx => by simpa using hlt x hx)
end Go.Proofs.Ytkppjchapiidpaa
