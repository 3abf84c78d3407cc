/- Plain texts out of quotes, more: what a strict reading, byte by byte, comes to. No condition. -/
import Derived.Test.YtdblkjcimegoeaaDoorUnqP
namespace Go.Proofs.YtdblkjcimegoeaaDoor
/-- What stands between the first and the last byte. -/
def midL (s : List UInt8) : List UInt8 := (s.drop 1).dropLast
def unqL (s : List UInt8) : Option (List UInt8) := if quoteL (loo (midL s)) = s then some (loo (midL s)) else none
def unqT (s : List UInt8) : List UInt8 := (unqL s).getD []
def unqE (s : List UInt8) : Int := if (unqL s).isSome then 0 else 10
theorem mid_quote (t : List UInt8) : midL (quoteL t) = quoI t := by simp [midL, quoteL]
theorem unq_some {s t : List UInt8} (h : quoteL t = s) : unqL s = some t := by
  unfold unqL
  rw [← h, mid_quote, loo_quo, if_pos rfl]
theorem unq_none {s : List UInt8} (h : ∀ t, quoteL t ≠ s) : unqL s = none := if_neg (h _)
theorem unq_back {s t : List UInt8} (h : unqL s = some t) : quoteL t = s := by
  unfold unqL at h
  split at h
  · simp at h; rw [← h]; assumption
  · simp at h
theorem unqT_some {s t : List UInt8} (h : quoteL t = s) : unqT s = t ∧ unqE s = 0 := by unfold unqT unqE; rw [unq_some h]; exact ⟨rfl, rfl⟩
theorem unqT_none {s : List UInt8} (h : ∀ t, quoteL t ≠ s) : unqT s = [] ∧ unqE s = 10 := by unfold unqT unqE; rw [unq_none h]; exact ⟨rfl, rfl⟩
theorem quote_parts {s : List UInt8} (h : 2 ≤ s.length) (h0 : s.head? = some 34) (h1 : s.getLast? = some 34) : s = 34 :: (midL s ++ [34]) := by
  match s, h with
  | c :: d :: r, _ =>
    simp at h0
    have : (c :: d :: r).getLast? = (d :: r).getLast? := by simp
    rw [this] at h1
    have hd : midL (c :: d :: r) = (d :: r).dropLast := rfl
    rw [hd, h0]
    congr 1
    have hne : d :: r ≠ [] := by simp
    rw [List.getLast?_eq_some_getLast hne] at h1
    have h1 : (d :: r).getLast hne = 34 := by simpa using h1
    have := List.dropLast_concat_getLast hne
    rw [h1] at this
    exact this.symm
theorem quote_iff {s : List UInt8} (h : s = 34 :: (midL s ++ [34])) (t : List UInt8) : quoteL t = s ↔ quoI t = midL s := by
  constructor
  · intro e; rw [← e, mid_quote]
  · intro e; rw [h]; unfold quoteL; rw [e]
theorem quote_ends (t s : List UInt8) (h : quoteL t = s) : 2 ≤ s.length ∧ s.head? = some 34 ∧ s.getLast? = some 34 := by
  subst h
  unfold quoteL
  refine ⟨by simp, rfl, ?_⟩
  rw [← List.cons_append, List.getLast?_concat]
theorem quo1_pos (c : UInt8) : 1 ≤ (quo1 c).length := by
  unfold quo1; repeat' split
  all_goals simp
/-- Where the strict reading stands: 'p' bytes are read, and tell 't'; whatever is told by all begins with it. -/
def UAt (l t : List UInt8) (p : Nat) : Prop := p ≤ l.length ∧ quoI t = l.take p ∧ ∀ t', quoI t' = l → ∃ t2, t' = t ++ t2 ∧ quoI t2 = l.drop p
theorem uat_start (l : List UInt8) : UAt l [] 0 := ⟨Nat.zero_le _, rfl, fun t' h => ⟨t', rfl, h⟩⟩
theorem uat_next {l t : List UInt8} {p n : Nat} {c : UInt8} (h : UAt l t p) (hf : fstL (l.drop p) = some (c, n)) : UAt l (t ++ [c]) (p + n) ∧ 1 ≤ n ∧ p + n ≤ l.length := by
  obtain ⟨h1, h2, h3⟩ := h
  obtain ⟨g1, g2, g3⟩ := fst_back hf
  rw [List.length_drop] at g3
  refine ⟨⟨by omega, ?_, fun t' e => ?_⟩, g2, by omega⟩
  · rw [quoI_append, h2, List.take_add, g1]; simp [quoI]
  · obtain ⟨t2, e1, e2⟩ := h3 t' e
    match t2 with
    | [] =>
      have e2 : [] = l.drop p := e2
      rw [← e2] at hf; simp [fstL] at hf
    | d :: t3 =>
      rw [quoI_cons] at e2
      rw [← e2, fst_quo] at hf
      simp at hf
      obtain ⟨rfl, rfl⟩ := hf
      refine ⟨t3, by rw [e1]; simp, ?_⟩
      rw [← List.drop_drop, ← e2]; simp
theorem uat_none {l t : List UInt8} {p : Nat} (h : UAt l t p) (hp : p < l.length) (hf : fstL (l.drop p) = none) (t' : List UInt8) : quoI t' ≠ l := by
  intro e
  obtain ⟨t2, e1, e2⟩ := h.2.2 t' e
  match t2 with
  | [] =>
    have : (l.drop p).length = 0 := by rw [← e2]; rfl
    rw [List.length_drop] at this; omega
  | d :: t3 => rw [quoI_cons] at e2; rw [← e2, fst_quo] at hf; simp at hf
theorem uat_end {l t : List UInt8} (h : UAt l t l.length) : quoI t = l := by rw [h.2.1, List.take_length]
theorem uat_len {l t : List UInt8} {p : Nat} (h : UAt l t p) : t.length ≤ p := by
  have e : (quoI t).length ≤ p := by rw [h.2.1, List.length_take]; omega
  have : t.length ≤ (quoI t).length := by
    clear h e
    induction t with
    | nil => exact Nat.le_refl _
    | cons c r ih =>
      rw [quoI_cons, List.length_append, List.length_cons]
      have : 1 ≤ (quo1 c).length := quo1_pos c
      omega
  omega
end Go.Proofs.YtdblkjcimegoeaaDoor
