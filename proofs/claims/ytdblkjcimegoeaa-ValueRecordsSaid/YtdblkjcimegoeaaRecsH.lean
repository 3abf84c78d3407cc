/- A record has, as it must be, just the attributes that it was given, in the order of their names; given twice they are refused. No condition. -/
import Derived.Test.YtdblkjcimegoeaaRecF
import Derived.Test.YtdblkjcimegoeaaRCanN
import Derived.Test.YtdblkjcimegoeaaFindL
import Derived.Laws.Cover1
namespace Go.Proofs.Ytdblkjcimegoeaa
open Go.RowKit Go.Sort
theorem low_boxN {w wr : World} {c0 c1 c2 c3 c4 c5 c6 c7 : Value} {t : TypeId} (n : Nat) (h : Low (w.alloc (.cells #[c0, c1, c2, c3, c4, c5, c6, c7] t)) wr) (hn : w.heap.size = n) :
    wr.cell? ⟨n, 0, none⟩ = some c0 ∧ wr.cell? ⟨n, 1, none⟩ = some c1 ∧ wr.cell? ⟨n, 2, none⟩ = some c2 ∧ wr.cell? ⟨n, 3, none⟩ = some c3 ∧ wr.cell? ⟨n, 4, none⟩ = some c4 ∧ wr.cell? ⟨n, 5, none⟩ = some c5 ∧ wr.cell? ⟨n, 6, none⟩ = some c6 ∧ wr.cell? ⟨n, 7, none⟩ = some c7 := by subst hn; exact low_box h
theorem low_boxB {w wr : World} {c0 c1 c2 c3 c4 c5 c6 c7 : Value} {t : TypeId} (n : Nat) (h : Low (w.alloc (.cells #[c0, c1, c2, c3, c4, c5, c6, c7] t)) wr) (hn : w.heap.size = n) :
    (∀ X, (wr.alloc X).cell? ⟨n, 0, none⟩ = some c0) ∧ (∀ X, (wr.alloc X).cell? ⟨n, 1, none⟩ = some c1) ∧ (∀ X, (wr.alloc X).cell? ⟨n, 2, none⟩ = some c2) ∧ (∀ X, (wr.alloc X).cell? ⟨n, 3, none⟩ = some c3) ∧ (∀ X, (wr.alloc X).cell? ⟨n, 4, none⟩ = some c4) ∧ (∀ X, (wr.alloc X).cell? ⟨n, 5, none⟩ = some c5) ∧ (∀ X, (wr.alloc X).cell? ⟨n, 6, none⟩ = some c6) ∧ (∀ X, (wr.alloc X).cell? ⟨n, 7, none⟩ = some c7) := by subst hn; exact low_boxA h
theorem put8r {w : World} {r : Nat} {c0 c1 c2 c3 c4 c5 c6 c7 d0 d1 d2 d3 d4 d5 d6 d7 : Value} (h : w.cell? ⟨r, 0, none⟩ = some c0 ∧ w.cell? ⟨r, 1, none⟩ = some c1 ∧ w.cell? ⟨r, 2, none⟩ = some c2 ∧ w.cell? ⟨r, 3, none⟩ = some c3 ∧ w.cell? ⟨r, 4, none⟩ = some c4 ∧ w.cell? ⟨r, 5, none⟩ = some c5 ∧ w.cell? ⟨r, 6, none⟩ = some c6 ∧ w.cell? ⟨r, 7, none⟩ = some c7) :
    ((((((((w.setCell ⟨r, 0, none⟩ d0).setCell ⟨r, 1, none⟩ d1).setCell ⟨r, 2, none⟩ d2).setCell ⟨r, 3, none⟩ d3).setCell ⟨r, 4, none⟩ d4).setCell ⟨r, 5, none⟩ d5).setCell ⟨r, 6, none⟩ d6).setCell ⟨r, 7, none⟩ d7).cell? ⟨r, 0, none⟩ = some d0 ∧ ((((((((w.setCell ⟨r, 0, none⟩ d0).setCell ⟨r, 1, none⟩ d1).setCell ⟨r, 2, none⟩ d2).setCell ⟨r, 3, none⟩ d3).setCell ⟨r, 4, none⟩ d4).setCell ⟨r, 5, none⟩ d5).setCell ⟨r, 6, none⟩ d6).setCell ⟨r, 7, none⟩ d7).cell? ⟨r, 1, none⟩ = some d1 ∧ ((((((((w.setCell ⟨r, 0, none⟩ d0).setCell ⟨r, 1, none⟩ d1).setCell ⟨r, 2, none⟩ d2).setCell ⟨r, 3, none⟩ d3).setCell ⟨r, 4, none⟩ d4).setCell ⟨r, 5, none⟩ d5).setCell ⟨r, 6, none⟩ d6).setCell ⟨r, 7, none⟩ d7).cell? ⟨r, 2, none⟩ = some d2 ∧ ((((((((w.setCell ⟨r, 0, none⟩ d0).setCell ⟨r, 1, none⟩ d1).setCell ⟨r, 2, none⟩ d2).setCell ⟨r, 3, none⟩ d3).setCell ⟨r, 4, none⟩ d4).setCell ⟨r, 5, none⟩ d5).setCell ⟨r, 6, none⟩ d6).setCell ⟨r, 7, none⟩ d7).cell? ⟨r, 3, none⟩ = some d3 ∧ ((((((((w.setCell ⟨r, 0, none⟩ d0).setCell ⟨r, 1, none⟩ d1).setCell ⟨r, 2, none⟩ d2).setCell ⟨r, 3, none⟩ d3).setCell ⟨r, 4, none⟩ d4).setCell ⟨r, 5, none⟩ d5).setCell ⟨r, 6, none⟩ d6).setCell ⟨r, 7, none⟩ d7).cell? ⟨r, 4, none⟩ = some d4 ∧ ((((((((w.setCell ⟨r, 0, none⟩ d0).setCell ⟨r, 1, none⟩ d1).setCell ⟨r, 2, none⟩ d2).setCell ⟨r, 3, none⟩ d3).setCell ⟨r, 4, none⟩ d4).setCell ⟨r, 5, none⟩ d5).setCell ⟨r, 6, none⟩ d6).setCell ⟨r, 7, none⟩ d7).cell? ⟨r, 5, none⟩ = some d5 ∧ ((((((((w.setCell ⟨r, 0, none⟩ d0).setCell ⟨r, 1, none⟩ d1).setCell ⟨r, 2, none⟩ d2).setCell ⟨r, 3, none⟩ d3).setCell ⟨r, 4, none⟩ d4).setCell ⟨r, 5, none⟩ d5).setCell ⟨r, 6, none⟩ d6).setCell ⟨r, 7, none⟩ d7).cell? ⟨r, 6, none⟩ = some d6 ∧ ((((((((w.setCell ⟨r, 0, none⟩ d0).setCell ⟨r, 1, none⟩ d1).setCell ⟨r, 2, none⟩ d2).setCell ⟨r, 3, none⟩ d3).setCell ⟨r, 4, none⟩ d4).setCell ⟨r, 5, none⟩ d5).setCell ⟨r, 6, none⟩ d6).setCell ⟨r, 7, none⟩ d7).cell? ⟨r, 7, none⟩ = some d7 := by
  obtain ⟨e0, e1, e2, e3, e4, e5, e6, e7⟩ := h
  refine ⟨?_, ?_, ?_, ?_, ?_, ?_, ?_, ?_⟩ <;> simp [go_sem, e0, e1, e2, e3, e4, e5, e6, e7]
theorem r_rec {w : World} {ns : List ByteArray} {zs : List Int} {B : Nat} {a b : Value} (hi : OwnV B w a (zs.map fun z => (⟨nV z, none, 0, none, 0⟩ : El))) (hn : OwnR 9 1 encN B w b ns) (hs : ∀ x ∈ ns, x.size ≤ 9223372036854775807) : R w (recV ns zs) a b := by
  refine rep_v.2 ⟨⟨Nat.zero_le _, Nat.zero_le _, Nat.zero_le _⟩, ?_, ?_⟩
  · show NamesAt _ w ns b
    obtain ⟨bo, bcap, hb, h1, h2, -⟩ := OwnR.shape hn
    refine ⟨bo, bcap, hb, by omega, hs, ?_⟩
    rcases OwnR.shape2 hn with ⟨-, h⟩ | ⟨g, c9, h3, h4⟩
    · exact .inl h
    · rw [hb] at h3
      simp only [Value.slice.injEq] at h3
      obtain ⟨rfl, -, -⟩ := h3
      refine .inr ⟨g, 0, rfl, trivial, fun j hj => ?_⟩
      rw [hb] at hn
      have := OwnR.cell encN_len hn j 0 hj (by decide)
      rw [Nat.mul_one, Nat.add_zero] at this
      rw [Nat.zero_add, this]
      rfl
  · show RowAt _ w (zs.map nV) a
    have h := ownV_row hi (A := fun _ => True) (A' := fun _ => True) (fun p hp => by
      obtain ⟨z, -, rfl⟩ := List.mem_map.1 hp
      exact r_nV w z) (fun _ _ => trivial) (fun _ _ => trivial)
    rw [List.map_map] at h
    exact h
theorem less_of : ∀ l m : List UInt8, Lib.compareBytes l m < 0 → Op.bytesLess l m = true
  | [], [], h => by simp [Lib.compareBytes] at h
  | [], _ :: _, _ => rfl
  | _ :: _, [], h => by simp [Lib.compareBytes] at h
  | a :: l, b :: m, h => by
    unfold Lib.compareBytes at h
    unfold Op.bytesLess
    by_cases h1 : a < b
    · simp [h1]
    · by_cases h2 : b < a
      · rw [if_neg h1, if_pos h2] at h; simp at h
      · rw [if_neg h1, if_neg h2] at h
        have e : a = b := by
          apply UInt8.toNat_inj.1
          have q1 : ¬ a.toNat < b.toNat := h1
          have q2 : ¬ b.toNat < a.toNat := h2
          omega
        rw [e, less_of l m h]
        simp
theorem geq_no {s t : ByteArray} (h : cmpT s t < 0) (T : TypeId) : binOp .geq T (.string s) (.string t) = pure (.bool false) := by
  have e : ∀ b : ByteArray, b.toList = b.data.toList := fun b => by
    rw [ByteArray.toList_eq]
  rw [binOp_string_geq, e, e, less_of _ _ h]
  rfl
def elZ (z : Int) : El := ⟨nV z, none, 0, none, 0⟩
/-- Is a name among the first ones there twice? -/
def dupB (ns : List ByteArray) (i : Nat) : Bool := !decide ((ns.take i).Nodup)
theorem dupB_zero (ns : List ByteArray) : dupB ns 0 = false := by simp [dupB]
theorem dupB_succ {ns : List ByteArray} {i : Nat} (h : i < ns.length) : dupB ns (i + 1) = (dupB ns i || (ns.take i).any fun y => decide (y = ns[i])) := by
  unfold dupB
  rw [List.take_succ_eq_append_getElem h]
  rw [Bool.eq_iff_iff]
  simp only [Bool.not_eq_true', decide_eq_false_iff_not, Bool.or_eq_true, List.any_eq_true, decide_eq_true_eq, List.nodup_append, List.nodup_cons, List.not_mem_nil, not_false_eq_true, List.nodup_nil, and_self, List.mem_singleton, ne_eq, forall_eq, true_and]
  constructor
  · intro h
    by_cases h1 : (ns.take i).Nodup
    · refine .inr ?_
      simp only [h1, true_and] at h
      simp only [Classical.not_forall, Classical.not_not] at h
      obtain ⟨x, hx, he⟩ := h
      exact ⟨x, hx, he⟩
    · exact .inl h1
  · rintro (h | ⟨x, hx, he⟩) ⟨h1, h2⟩
    · exact h h1
    · exact h2 x hx he
theorem any_take {ns : List ByteArray} {k : Nat} (h : k < ns.length) (x : ByteArray) : ((ns.take (k + 1)).any fun y => decide (y = x)) = (((ns.take k).any fun y => decide (y = x)) || decide (ns[k] = x)) := by
  rw [List.take_succ_eq_append_getElem h, List.any_append]
  simp
end Go.Proofs.Ytdblkjcimegoeaa
