/- Types ats trees: how deep they are, whether they may be, which are below which, the least one above two, by definition; being below is an order and the least one is the least. No condition. -/
import Derived.Test.YtijjbfdbhfjfmaaLow
import Derived.Lib.Small
import Derived.Shelf.Small.Strs
namespace Go.Proofs.Ytijjbfdbhfjfmaa
open Go.RowKit
set_option linter.unusedVariables false
inductive T where
  | mk (k : Int) (n : ByteArray) (l : List T) (ats : List (ByteArray × T × Bool))
abbrev At := ByteArray × T × Bool
namespace T
def k : T → Int | .mk k _ _ _ => k
def n : T → ByteArray | .mk _ n _ _ => n
def l : T → List T | .mk _ _ l _ => l
def ats : T → List At | .mk _ _ _ ats => ats
end T
theorem T.eta : ∀ t : T, t = .mk t.k t.n t.l t.ats | .mk _ _ _ _ => rfl
abbrev an (x : At) : ByteArray := x.1
abbrev aty (x : At) : T := x.2.1
abbrev ao (x : At) : Bool := x.2.2
def noT : T := .mk 0 ⟨#[]⟩ [] []
def boolT : T := .mk 3 ⟨#[]⟩ [] []
def T.hd (t : T) : T := t.l.headD noT
/-- All that is right inside. -/
def T.ins (t : T) : List T := t.l ++ t.ats.map aty
theorem ins_l {t x : T} (h : x ∈ t.l) : x ∈ t.ins := List.mem_append.2 (.inl h)
theorem ins_as {t : T} {x : At} (h : x ∈ t.ats) : aty x ∈ t.ins := List.mem_append.2 (.inr (List.mem_map.2 ⟨x, h, rfl⟩))
/-! ### How deep -/
/-- No deeper than so many. -/
def Dp : Nat → T → Prop
  | 0, _ => False
  | n + 1, t => ∀ x ∈ t.ins, Dp n x
theorem Dp.succ : ∀ {n : Nat} {t : T}, Dp n t → Dp (n + 1) t
  | 0, _, h => h.elim
  | n + 1, _, h => fun x hx => Dp.succ (h x hx)
theorem Dp.le {n m : Nat} {t : T} (h : Dp n t) (hm : n ≤ m) : Dp m t := by
  induction m with
  | zero => obtain rfl : n = 0 := by omega
            exact h
  | succ m ih =>
    rcases Nat.lt_or_ge n (m + 1) with k | k
    · exact (ih (by omega)).succ
    · obtain rfl : n = m + 1 := by omega
      exact h
def mxL : List Nat → Nat
  | [] => 0
  | x :: l => max x (mxL l)
theorem mxL_append (l m : List Nat) : mxL (l ++ m) = max (mxL l) (mxL m) := by
  induction l with
  | nil => simp [mxL]
  | cons x l ih => rw [List.cons_append, mxL, mxL, ih]; omega
theorem mxL_le {l : List Nat} {n : Nat} : mxL l ≤ n ↔ ∀ x ∈ l, x ≤ n := by
  induction l with
  | nil => simp [mxL]
  | cons x l ih => rw [mxL, Nat.max_le, ih]; simp
theorem mxL_lt {l : List Nat} {n : Nat} : n < mxL l ↔ ∃ x ∈ l, n < x := by
  rw [← Nat.not_le, mxL_le]
  constructor
  · intro h
    refine Classical.byContradiction fun h2 => h fun x hx => Nat.not_lt.1 fun h3 => h2 ⟨x, hx, h3⟩
  · rintro ⟨x, hx, h3⟩ h
    exact absurd (h x hx) (Nat.not_le.2 h3)
/-- How deep a type is nested. -/
def dpt : Nat → T → Nat
  | 0, _ => 0
  | n + 1, t => mxL (t.ins.map (dpt n)) + 1
theorem dpt_le : ∀ (n : Nat) (t : T), dpt n t ≤ n
  | 0, _ => Nat.le_refl _
  | n + 1, t => by
    rw [dpt]
    have : mxL (t.ins.map (dpt n)) ≤ n := mxL_le.2 fun x hx => by
      obtain ⟨y, -, rfl⟩ := List.mem_map.1 hx
      exact dpt_le n y
    omega
/-- Is it deeper than so many? -/
def dG : Nat → T → Bool
  | 0, _ => true
  | n + 1, t => t.ins.any (dG n)
theorem dG_iff : ∀ (L n : Nat) (t : T), Dp n t → dG L t = decide (L < dpt n t)
  | 0, 0, _, h => h.elim
  | 0, n + 1, t, _ => by rw [dG, dpt]; simp
  | L + 1, 0, _, h => h.elim
  | L + 1, n + 1, t, h => by
    rw [dG, dpt, Bool.eq_iff_iff, List.any_eq_true, decide_eq_true_iff]
    rw [show L + 1 < mxL (t.ins.map (dpt n)) + 1 ↔ L < mxL (t.ins.map (dpt n)) by omega, mxL_lt]
    constructor
    · rintro ⟨x, hx, hd⟩
      rw [dG_iff L n x (h x hx), decide_eq_true_iff] at hd
      exact ⟨_, List.mem_map.2 ⟨x, hx, rfl⟩, hd⟩
    · rintro ⟨d, hd, hlt⟩
      obtain ⟨x, hx, rfl⟩ := List.mem_map.1 hd
      exact ⟨x, hx, by rw [dG_iff L n x (h x hx), decide_eq_true_iff]; exact hlt⟩
theorem dG_no {L n : Nat} {t : T} (h : Dp n t) (hl : n ≤ L) : dG L t = false := by
  rw [dG_iff L n t h, decide_eq_false_iff_not]
  have := dpt_le n t
  omega
/-! ### What may be -/
def cmpB (a b : ByteArray) : Int := Lib.compareBytes a.data.toList b.data.toList
/-- Each name is less than the next one. -/
def rises : List ByteArray → Bool
  | [] => true
  | [_] => true
  | x :: y :: l => decide (cmpB x y < 0) && rises (y :: l)
theorem rises_iff : ∀ l : List ByteArray, rises l = true ↔ ∀ i (h : i + 1 < l.length), cmpB (l[i]'(by omega)) l[i + 1] < 0
  | [] => by simp [rises]
  | [_] => by simp [rises]
  | x :: y :: l => by
    rw [rises, Bool.and_eq_true, decide_eq_true_iff, rises_iff (y :: l)]
    constructor
    · rintro ⟨h1, h2⟩ i h
      match i, h with
      | 0, _ => exact h1
      | i + 1, h => exact h2 i (by simpa using h)
    · intro h
      exact ⟨h 0 (by simp), fun i hi => h (i + 1) (by simpa using hi)⟩
def mayH (t : T) : Bool := decide (0 ≤ t.k ∧ t.k ≤ 8 ∧ (t.k = 7 → t.l.length = 1))
def mayB : Nat → T → Bool
  | 0, _ => false
  | n + 1, t => mayH t && rises (t.ats.map an) && t.ins.all (mayB n)
theorem mayB_succ {n : Nat} {t : T} : mayB (n + 1) t = true ↔ mayH t = true ∧ rises (t.ats.map an) = true ∧ ∀ x ∈ t.ins, mayB n x = true := by
  rw [mayB, Bool.and_eq_true, Bool.and_eq_true, List.all_eq_true]
  exact ⟨fun h => ⟨h.1.1, h.1.2, h.2⟩, fun h => ⟨⟨h.1, h.2.1⟩, h.2.2⟩⟩
theorem may_set {n : Nat} {t : T} (h : mayB (n + 1) t = true) (hk : t.k = 7) : ∃ x, t.l = [x] ∧ t.hd = x ∧ mayB n x = true := by
  obtain ⟨h1, -, h3⟩ := mayB_succ.1 h
  unfold mayH at h1
  obtain ⟨-, -, h4⟩ := of_decide_eq_true h1
  obtain ⟨x, hx⟩ := List.length_eq_one_iff.1 (h4 hk)
  exact ⟨x, hx, by unfold T.hd; rw [hx]; rfl, h3 x (ins_l (by rw [hx]; simp))⟩
theorem may_as {n : Nat} {t : T} (h : mayB (n + 1) t = true) {x : At} (hx : x ∈ t.ats) : mayB n (aty x) = true := (mayB_succ.1 h).2.2 _ (ins_as hx)
/-! ### Which are below which -/
/-- Two rows have the same names, and something is so of each pair. -/
def pairB (f : At → At → Bool) : List At → List At → Bool
  | [], [] => true
  | x :: l, y :: m => decide (an x = an y) && f x y && pairB f l m
  | _, _ => false
theorem pairB_iff {f : At → At → Bool} : ∀ l m : List At, pairB f l m = true ↔ l.length = m.length ∧ ∀ j (h1 : j < l.length) (h2 : j < m.length), an l[j] = an m[j] ∧ f l[j] m[j] = true
  | [], [] => by simp [pairB]
  | [], _ :: _ => by simp [pairB]
  | _ :: _, [] => by simp [pairB]
  | x :: l, y :: m => by
    rw [pairB, Bool.and_eq_true, Bool.and_eq_true, decide_eq_true_iff, pairB_iff l m]
    constructor
    · rintro ⟨⟨h1, h2⟩, h3, h4⟩
      refine ⟨by simp [h3], fun j j1 j2 => ?_⟩
      match j, j1, j2 with
      | 0, _, _ => exact ⟨h1, h2⟩
      | j + 1, j1, j2 => exact h4 j (by simpa using j1) (by simpa using j2)
    · rintro ⟨h3, h4⟩
      refine ⟨?_, by simpa using h3, fun j j1 j2 => h4 (j + 1) (by simpa using j1) (by simpa using j2)⟩
      exact h4 0 (by simp) (by simp)
def trB (t : T) : Bool := decide (t.k = 1 ∨ t.k = 2 ∨ t.k = 3)
def belB : Nat → T → T → Bool
  | 0, _, _ => false
  | n + 1, a, b =>
    if a.k = 0 ∨ ((a.k = 1 ∨ a.k = 2) ∧ b.k = 3) then true
    else if a.k ≠ b.k then false
    else if a.k = 6 then decide (a.n = b.n)
    else if a.k = 7 then belB n a.hd b.hd
    else if a.k = 8 then pairB (fun x y => (!ao x || ao y) && belB n (aty x) (aty y)) a.ats b.ats
    else true
def smB : Nat → T → T → Bool
  | 0, _, _ => false
  | n + 1, a, b =>
    if a.k ≠ b.k then false
    else if a.k = 6 then decide (a.n = b.n)
    else if a.k = 7 then smB n a.hd b.hd
    else if a.k = 8 then pairB (fun x y => (ao x == ao y) && smB n (aty x) (aty y)) a.ats b.ats
    else true
theorem smB_bel : ∀ (n : Nat) (a b : T), smB n a b = (belB n a b && belB n b a)
  | 0, _, _ => rfl
  | n + 1, a, b => by
    rw [smB, belB, belB]
    by_cases hk : a.k = b.k
    · have hk' : b.k = a.k := hk.symm
      by_cases h0 : a.k = 0
      · simp [h0, hk']
      by_cases h6 : a.k = 6
      · simp [h6, hk']
        by_cases hn : a.n = b.n
        · simp [hn]
        · simp [hn]
      by_cases h7 : a.k = 7
      · simp [h7, hk', smB_bel n]
      by_cases h8 : a.k = 8
      · simp only [h8, hk', ne_eq, not_true, if_false, if_true]
        simp only [show ¬ ((8 : Int) = 0 ∨ ((8 : Int) = 1 ∨ (8 : Int) = 2) ∧ (8 : Int) = 3) by decide, show ¬ (8 : Int) = 6 by decide, show ¬ (8 : Int) = 7 by decide, if_false]
        rw [Bool.eq_iff_iff, Bool.and_eq_true, pairB_iff, pairB_iff, pairB_iff]
        constructor
        · rintro ⟨h1, h2⟩
          refine ⟨⟨h1, fun j j1 j2 => ?_⟩, h1.symm, fun j j1 j2 => ?_⟩
          · obtain ⟨h3, h4⟩ := h2 j j1 j2
            rw [smB_bel n, Bool.and_eq_true, Bool.and_eq_true, beq_iff_eq] at h4
            refine ⟨h3, ?_⟩
            rw [h4.1, h4.2.1]; simp
          · obtain ⟨h3, h4⟩ := h2 j j2 j1
            rw [smB_bel n, Bool.and_eq_true, Bool.and_eq_true, beq_iff_eq] at h4
            refine ⟨h3.symm, ?_⟩
            rw [h4.1, h4.2.2]; simp
        · rintro ⟨⟨h1, h2⟩, -, h4⟩
          refine ⟨h1, fun j j1 j2 => ?_⟩
          obtain ⟨h5, h6⟩ := h2 j j1 j2
          obtain ⟨-, h8⟩ := h4 j j2 j1
          refine ⟨h5, ?_⟩
          rw [Bool.and_eq_true] at h6 h8 ⊢
          refine ⟨?_, by rw [smB_bel n, h6.2, h8.2]; rfl⟩
          have h7 := h6.1
          have h9 := h8.1
          revert h7 h9
          generalize ao a.ats[j] = p
          generalize ao b.ats[j] = q
          cases p <;> cases q <;> simp
      · simp [h0, h6, h7, h8, hk']
    · have hk' : ¬ b.k = a.k := fun h => hk h.symm
      by_cases hA : a.k = 0 ∨ ((a.k = 1 ∨ a.k = 2) ∧ b.k = 3)
      · by_cases hB : b.k = 0 ∨ ((b.k = 1 ∨ b.k = 2) ∧ a.k = 3)
        · exfalso; omega
        · simp [hk, hk', hB]
      · simp [hk, hA]
theorem bel_refl : ∀ (n : Nat) (t : T), mayB n t = true → belB n t t = true
  | 0, _, h => by simp [mayB] at h
  | n + 1, t, h => by
    rw [belB]
    by_cases h0 : t.k = 0
    · simp [h0]
    by_cases h6 : t.k = 6
    · simp [h6]
    by_cases h7 : t.k = 7
    · obtain ⟨x, -, h1, h2⟩ := may_set h h7
      simp [h7, h1, bel_refl n x h2]
    by_cases h8 : t.k = 8
    · have : pairB (fun x y => (!ao x || ao y) && belB n (aty x) (aty y)) t.ats t.ats = true := (pairB_iff _ _).2 ⟨rfl, fun j j1 j2 => ⟨rfl, by
        rw [bel_refl n _ (may_as h (List.getElem_mem j1))]; cases ao t.ats[j] <;> rfl⟩⟩
      simp [h8, this]
    · simp [h6, h7, h8]
theorem bel_trans : ∀ (n : Nat) (a b c : T), belB n a b = true → belB n b c = true → belB n a c = true
  | 0, _, _, _, h, _ => by simp [belB] at h
  | n + 1, a, b, c, h1, h2 => by
    rw [belB] at h1 h2 ⊢
    by_cases h0 : a.k = 0
    · simp [h0]
    by_cases hab : a.k = b.k
    · rw [← hab] at h2
      by_cases hac : a.k = c.k
      · rw [← hac] at h2 ⊢
        rw [← hab] at h1
        by_cases h6 : a.k = 6
        · simp [h6] at h1 h2 ⊢
          exact h1.trans h2
        by_cases h7 : a.k = 7
        · simp [h7] at h1 h2 ⊢
          exact bel_trans n _ _ _ h1 h2
        by_cases h8 : a.k = 8
        · simp only [h8, ne_eq, not_true, if_false, if_true, show ¬ ((8 : Int) = 0 ∨ ((8 : Int) = 1 ∨ (8 : Int) = 2) ∧ (8 : Int) = 3) by decide, show ¬ (8 : Int) = 6 by decide, show ¬ (8 : Int) = 7 by decide] at h1 h2 ⊢
          rw [pairB_iff] at h1 h2 ⊢
          refine ⟨h1.1.trans h2.1, fun j j1 j2 => ?_⟩
          have j3 : j < b.ats.length := by rw [← h1.1]; exact j1
          obtain ⟨p1, p2⟩ := h1.2 j j1 j3
          obtain ⟨q1, q2⟩ := h2.2 j j3 j2
          rw [Bool.and_eq_true] at p2 q2 ⊢
          refine ⟨p1.trans q1, ?_, bel_trans n _ _ _ p2.2 q2.2⟩
          have p3 := p2.1
          have q3 := q2.1
          revert p3 q3
          generalize ao a.ats[j] = p
          generalize ao b.ats[j] = q
          generalize ao c.ats[j] = r
          cases p <;> cases q <;> cases r <;> simp
        · simp [h6, h7, h8]
      · by_cases hx : a.k = 0 ∨ ((a.k = 1 ∨ a.k = 2) ∧ c.k = 3)
        · simp [hx]
        · simp [hx, hac] at h2
    · by_cases hx : a.k = 0 ∨ ((a.k = 1 ∨ a.k = 2) ∧ b.k = 3)
      · rcases hx with hx | ⟨hx, hb⟩
        · exact absurd hx h0
        by_cases hc : c.k = 3
        · simp [hx, hc]
        · have hcb : ¬ (3 : Int) = c.k := fun h => hc h.symm
          simp [hb, hc, hcb] at h2
      · simp [hx, hab] at h1
/-! ### The least one above two -/
def pairJ (f : T → T → Option T) : List At → List At → Option (List At)
  | [], [] => some []
  | x :: l, y :: m => if an x = an y then (f (aty x) (aty y)).bind fun t => (pairJ f l m).map fun r => (an x, t, ao x || ao y) :: r else none
  | _, _ => none
theorem pairJ_some {f : T → T → Option T} : ∀ {l m r : List At}, pairJ f l m = some r ↔ l.length = m.length ∧ l.length = r.length ∧
    ∀ j (h1 : j < l.length) (h2 : j < m.length) (h3 : j < r.length), an l[j] = an m[j] ∧ f (aty l[j]) (aty m[j]) = some (aty r[j]) ∧ an r[j] = an l[j] ∧ ao r[j] = (ao l[j] || ao m[j])
  | [], [], r => by
    rw [pairJ]
    constructor
    · intro h; simp only [Option.some.injEq] at h; subst h; simp
    · rintro ⟨-, h, -⟩; rw [List.eq_nil_of_length_eq_zero h.symm]
  | [], _ :: _, r => by simp [pairJ]
  | _ :: _, [], r => by simp [pairJ]
  | x :: l, y :: m, r => by
    rw [pairJ]
    by_cases hn : an x = an y
    · rw [if_pos hn]
      cases hf : f (aty x) (aty y) with
      | none =>
        simp only [Option.bind_none, reduceCtorEq, false_iff]
        rintro ⟨h1, h2, h3⟩
        have := (h3 0 (by simp) (by simp) (by rw [← h2]; simp)).2.1
        simp only [List.getElem_cons_zero] at this
        rw [hf] at this; simp at this
      | some t =>
        rw [Option.bind_some, Option.map_eq_some_iff]
        constructor
        · rintro ⟨r', hr, rfl⟩
          obtain ⟨h1, h2, h3⟩ := pairJ_some.1 hr
          refine ⟨by simp [h1], by simp [h2], fun j j1 j2 j3 => ?_⟩
          match j, j1, j2, j3 with
          | 0, _, _, _ => exact ⟨hn, hf, rfl, rfl⟩
          | j + 1, j1, j2, j3 => exact h3 j (by simpa using j1) (by simpa using j2) (by simpa using j3)
        · rintro ⟨h1, h2, h3⟩
          match r, h2, h3 with
          | z :: r, h2, h3 =>
            refine ⟨r, pairJ_some.2 ⟨by simpa using h1, by simpa using h2, fun j j1 j2 j3 => h3 (j + 1) (by simpa using j1) (by simpa using j2) (by simpa using j3)⟩, ?_⟩
            obtain ⟨-, h4, h5, h6⟩ := h3 0 (by simp) (by simp) (by simp)
            simp only [List.getElem_cons_zero] at h4 h5 h6
            rw [hf, Option.some.injEq] at h4
            obtain ⟨z1, z2, z3⟩ := z
            simp only [an, aty, ao] at h4 h5 h6
            rw [h4, h5, h6]
    · rw [if_neg hn]
      simp only [reduceCtorEq, false_iff]
      rintro ⟨h1, h2, h3⟩
      exact hn (h3 0 (by simp) (by simp) (by rw [← h2]; simp)).1
/-- Where each pair's has one the row has. -/
theorem pairJ_ex {f : T → T → Option T} : ∀ {l m : List At}, l.length = m.length → (∀ j (h1 : j < l.length) (h2 : j < m.length), an l[j] = an m[j] ∧ f (aty l[j]) (aty m[j]) ≠ none) → ∃ r, pairJ f l m = some r
  | [], [], _, _ => ⟨[], rfl⟩
  | [], _ :: _, h, _ => by simp at h
  | _ :: _, [], h, _ => by simp at h
  | x :: l, y :: m, h, hx => by
    obtain ⟨r, hr⟩ := pairJ_ex (f := f) (l := l) (m := m) (by simpa using h) fun j h1 h2 => hx (j + 1) (by simpa using h1) (by simpa using h2)
    obtain ⟨h1, h2⟩ := hx 0 (by simp) (by simp)
    simp only [List.getElem_cons_zero] at h1 h2
    obtain ⟨t, ht⟩ := Option.ne_none_iff_exists'.1 h2
    exact ⟨_, by rw [pairJ, if_pos h1, ht, hr]; rfl⟩
def jn : Nat → T → T → Option T
  | 0, _, _ => none
  | n + 1, a, b =>
    if belB (n + 1) a b = true then some b
    else if belB (n + 1) b a = true then some a
    else if trB a = true ∧ trB b = true then some boolT
    else if a.k ≠ b.k then none
    else if a.k = 7 then (jn n a.hd b.hd).map fun t => .mk 7 ⟨#[]⟩ [t] []
    else if a.k = 8 then (pairJ (jn n) a.ats b.ats).map fun r => .mk 8 ⟨#[]⟩ [] r
    else none
theorem bel8 {n : Nat} {a b : T} (ha : a.k = 8) (hb : b.k = 8) : belB (n + 1) a b = pairB (fun x y => (!ao x || ao y) && belB n (aty x) (aty y)) a.ats b.ats := by
  rw [belB]; simp [ha, hb]
theorem bel7 {n : Nat} {a b : T} (ha : a.k = 7) (hb : b.k = 7) : belB (n + 1) a b = belB n a.hd b.hd := by
  rw [belB]; simp [ha, hb]
/-- Of what two are not below one another, but both below a third. -/
theorem bel_kinds {n : Nat} {a b c : T} (h1 : ¬ belB (n + 1) a b = true) (h2 : ¬ belB (n + 1) b a = true) (h3 : belB (n + 1) a c = true) (h4 : belB (n + 1) b c = true) :
    (trB a = true ∧ trB b = true ∧ c.k = 3) ∨ (a.k = b.k ∧ a.k = c.k ∧ (a.k = 7 ∨ a.k = 8) ∧ trB a = false) := by
  rw [belB] at h1 h2 h3 h4
  have a0 : ¬ a.k = 0 := fun h => h1 (by simp [h])
  have b0 : ¬ b.k = 0 := fun h => h2 (by simp [h])
  by_cases h : trB a = true ∧ trB b = true
  · refine .inl ⟨h.1, h.2, ?_⟩
    obtain ⟨p, q⟩ := h
    unfold trB at p q
    have p := of_decide_eq_true p
    have q := of_decide_eq_true q
    refine Classical.byContradiction fun hc => ?_
    have e1 : a.k = c.k := Classical.byContradiction fun hn => by simp [a0, hc, hn] at h3
    have e2 : b.k = c.k := Classical.byContradiction fun hn => by simp [b0, hc, hn] at h4
    have e3 : a.k = b.k := e1.trans e2.symm
    refine h1 ?_
    have g6 : ¬ a.k = 6 := by omega
    have g7 : ¬ a.k = 7 := by omega
    have g8 : ¬ a.k = 8 := by omega
    simp [← e3, g6, g7, g8]
  · refine .inr ?_
    have tr : ∀ x : T, trB x = true ↔ (x.k = 1 ∨ x.k = 2 ∨ x.k = 3) := fun x => by unfold trB; exact decide_eq_true_iff
    have e : a.k = b.k ∧ a.k = c.k := by
      by_cases hac : a.k = c.k
      · by_cases hbc : b.k = c.k
        · exact ⟨hac.trans hbc.symm, hac⟩
        · refine absurd ?_ h
          have : (b.k = 1 ∨ b.k = 2) ∧ c.k = 3 := Classical.byContradiction fun hn => by simp [b0, hn, hbc] at h4
          rw [tr, tr]; omega
      · refine absurd ?_ h
        have h5 : (a.k = 1 ∨ a.k = 2) ∧ c.k = 3 := Classical.byContradiction fun hn => by simp [a0, hn, hac] at h3
        have h6 : b.k = 3 ∨ b.k = 1 ∨ b.k = 2 := Classical.byContradiction fun hn => by
          have hbc : ¬ b.k = c.k := by omega
          have hn2 : ¬ (b.k = 1 ∨ b.k = 2) := by omega
          simp [b0, hn2, hbc] at h4
        rw [tr, tr]; omega
    have htr : trB a = false := by
      rw [Bool.eq_false_iff]
      intro ht
      exact h ⟨ht, by rw [tr] at ht ⊢; rw [← e.1]; exact ht⟩
    refine ⟨e.1, e.2, ?_, htr⟩
    refine Classical.byContradiction fun hn => h1 ?_
    have g7 : ¬ a.k = 7 := fun x => hn (.inl x)
    have g8 : ¬ a.k = 8 := fun x => hn (.inr x)
    by_cases g6 : a.k = 6
    · have n1 : a.n = c.n := by simpa [← e.2, g6] using h3
      have n2 : b.n = c.n := by simpa [← e.1, ← e.2, g6] using h4
      simp [← e.1, g6, n1, n2]
    · simp [← e.1, g6, g7, g8]
theorem jn_up : ∀ (n : Nat) (a b t : T), mayB n a = true → mayB n b = true → jn n a b = some t → belB n a t = true ∧ belB n b t = true
  | 0, _, _, _, h, _, _ => by simp [mayB] at h
  | n + 1, a, b, t, ha, hb, h => by
    rw [jn] at h
    by_cases h1 : belB (n + 1) a b = true
    · rw [if_pos h1, Option.some.injEq] at h; subst h
      exact ⟨h1, bel_refl _ _ hb⟩
    rw [if_neg h1] at h
    by_cases h2 : belB (n + 1) b a = true
    · rw [if_pos h2, Option.some.injEq] at h; subst h
      exact ⟨bel_refl _ _ ha, h2⟩
    rw [if_neg h2] at h
    by_cases h3 : trB a = true ∧ trB b = true
    · rw [if_pos h3, Option.some.injEq] at h; subst h
      obtain ⟨p, q⟩ := h3
      unfold trB at p q
      have p := of_decide_eq_true p
      have q := of_decide_eq_true q
      have hk : boolT.k = 3 := rfl
      have up : ∀ x : T, (x.k = 1 ∨ x.k = 2 ∨ x.k = 3) → belB (n + 1) x boolT = true := fun x hx => by
        rw [belB]
        rcases hx with hx | hx | hx <;> simp [hk, hx]
      exact ⟨up a p, up b q⟩
    rw [if_neg h3] at h
    by_cases h4 : a.k = b.k
    · rw [if_neg (by simpa using h4)] at h
      by_cases h7 : a.k = 7
      · rw [if_pos h7, Option.map_eq_some_iff] at h
        obtain ⟨s, hs, rfl⟩ := h
        obtain ⟨x, -, hx, mx⟩ := may_set ha h7
        obtain ⟨y, -, hy, my⟩ := may_set hb (h4 ▸ h7)
        rw [bel7 h7 rfl, bel7 (h4 ▸ h7) rfl]
        rw [hx, hy] at hs ⊢
        exact jn_up n x y s mx my hs
      · rw [if_neg h7] at h
        by_cases h8 : a.k = 8
        · rw [if_pos h8, Option.map_eq_some_iff] at h
          obtain ⟨r, hr, rfl⟩ := h
          rw [bel8 h8 rfl, bel8 (h4 ▸ h8) rfl, pairB_iff, pairB_iff]
          obtain ⟨p1, p2, p3⟩ := pairJ_some.1 hr
          refine ⟨⟨p2, fun j j1 j2 => ?_⟩, p1.symm.trans p2, fun j j1 j2 => ?_⟩
          · obtain ⟨q1, q2, q3, q4⟩ := p3 j j1 (by rw [← p1]; exact j1) j2
            obtain ⟨u1, u2⟩ := jn_up n _ _ _ (may_as ha (List.getElem_mem j1)) (may_as hb (List.getElem_mem _)) q2
            exact ⟨q3.symm, by
              show ((!ao a.ats[j] || ao r[j]) && belB n (aty a.ats[j]) (aty r[j])) = true
              rw [u1, q4]; cases ao a.ats[j] <;> rfl⟩
          · obtain ⟨q1, q2, q3, q4⟩ := p3 j (by rw [p1]; exact j1) j1 j2
            obtain ⟨u1, u2⟩ := jn_up n _ _ _ (may_as ha (List.getElem_mem _)) (may_as hb (List.getElem_mem j1)) q2
            exact ⟨q1.symm.trans q3.symm, by
              show ((!ao b.ats[j] || ao r[j]) && belB n (aty b.ats[j]) (aty r[j])) = true
              rw [u2, q4]; cases ao b.ats[j] <;> simp⟩
        · rw [if_neg h8] at h; simp at h
    · rw [if_pos h4] at h; simp at h
theorem jn_least : ∀ (n : Nat) (a b t c : T), jn n a b = some t → belB n a c = true → belB n b c = true → belB n t c = true
  | 0, _, _, _, _, h, _, _ => by simp [jn] at h
  | n + 1, a, b, t, c, h, hac, hbc => by
    rw [jn] at h
    by_cases h1 : belB (n + 1) a b = true
    · rw [if_pos h1, Option.some.injEq] at h; subst h
      exact hbc
    rw [if_neg h1] at h
    by_cases h2 : belB (n + 1) b a = true
    · rw [if_pos h2, Option.some.injEq] at h; subst h
      exact hac
    rw [if_neg h2] at h
    have hk := bel_kinds h1 h2 hac hbc
    by_cases h3 : trB a = true ∧ trB b = true
    · rw [if_pos h3, Option.some.injEq] at h; subst h
      rcases hk with ⟨-, -, hc⟩ | ⟨-, -, -, hk⟩
      · rw [belB]; simp [hc, show boolT.k = 3 from rfl]
      · rw [h3.1] at hk; simp at hk
    rw [if_neg h3] at h
    rcases hk with hk | ⟨h4, h5, -, -⟩
    · exact absurd ⟨hk.1, hk.2.1⟩ h3
    rw [if_neg (by simpa using h4)] at h
    by_cases h7 : a.k = 7
    · rw [if_pos h7, Option.map_eq_some_iff] at h
      obtain ⟨s, hs, rfl⟩ := h
      have c7 : c.k = 7 := h5 ▸ h7
      rw [bel7 h7 c7] at hac
      rw [bel7 (h4 ▸ h7) c7] at hbc
      rw [bel7 rfl c7]
      exact jn_least n _ _ s _ hs hac hbc
    · rw [if_neg h7] at h
      by_cases h8 : a.k = 8
      · rw [if_pos h8, Option.map_eq_some_iff] at h
        obtain ⟨r, hr, rfl⟩ := h
        have c8 : c.k = 8 := h5 ▸ h8
        rw [bel8 h8 c8, pairB_iff] at hac
        rw [bel8 (h4 ▸ h8) c8, pairB_iff] at hbc
        rw [bel8 rfl c8, pairB_iff]
        obtain ⟨p1, p2, p3⟩ := pairJ_some.1 hr
        have hl : r.length = c.ats.length := p2.symm.trans hac.1
        refine ⟨hl, fun j j1 j2 => ?_⟩
        have j3 : j < a.ats.length := by rw [p2]; exact j1
        have j4 : j < b.ats.length := by rw [← p1]; exact j3
        obtain ⟨q1, q2, q3, q4⟩ := p3 j j3 j4 j1
        obtain ⟨u1, u2⟩ := hac.2 j j3 j2
        obtain ⟨v1, v2⟩ := hbc.2 j j4 j2
        rw [Bool.and_eq_true] at u2 v2
        refine ⟨q3.trans u1, ?_⟩
        show ((!ao r[j] || ao c.ats[j]) && belB n (aty r[j]) (aty c.ats[j])) = true
        rw [jn_least n _ _ _ _ q2 u2.2 v2.2, q4]
        have u3 := u2.1
        have v3 := v2.1
        revert u3 v3
        generalize ao a.ats[j] = p
        generalize ao b.ats[j] = q
        generalize ao c.ats[j] = s
        cases p <;> cases q <;> cases s <;> simp
      · rw [if_neg h8] at h; simp at h
theorem jn_ex : ∀ (n : Nat) (a b c : T), belB n a c = true → belB n b c = true → jn n a b ≠ none
  | 0, _, _, _, h, _ => by simp [belB] at h
  | n + 1, a, b, c, hac, hbc => by
    rw [jn]
    by_cases h1 : belB (n + 1) a b = true
    · rw [if_pos h1]; simp
    rw [if_neg h1]
    by_cases h2 : belB (n + 1) b a = true
    · rw [if_pos h2]; simp
    rw [if_neg h2]
    by_cases h3 : trB a = true ∧ trB b = true
    · rw [if_pos h3]; simp
    rw [if_neg h3]
    rcases bel_kinds h1 h2 hac hbc with hk | ⟨h4, h5, h6, -⟩
    · exact absurd ⟨hk.1, hk.2.1⟩ h3
    rw [if_neg (by simpa using h4)]
    by_cases h7 : a.k = 7
    · rw [if_pos h7]
      have c7 : c.k = 7 := h5 ▸ h7
      rw [bel7 h7 c7] at hac
      rw [bel7 (h4 ▸ h7) c7] at hbc
      obtain ⟨s, hs⟩ := Option.ne_none_iff_exists'.1 (jn_ex n _ _ _ hac hbc)
      rw [hs]; simp
    · have h8 : a.k = 8 := by rcases h6 with h | h; exact absurd h h7; exact h
      rw [if_neg h7, if_pos h8]
      have c8 : c.k = 8 := h5 ▸ h8
      rw [bel8 h8 c8, pairB_iff] at hac
      rw [bel8 (h4 ▸ h8) c8, pairB_iff] at hbc
      obtain ⟨r, hr⟩ := pairJ_ex (f := jn n) (l := a.ats) (m := b.ats) (hac.1.trans hbc.1.symm) fun j j1 j2 => by
        obtain ⟨u1, u2⟩ := hac.2 j j1 (by rw [← hac.1]; exact j1)
        obtain ⟨v1, v2⟩ := hbc.2 j j2 (by rw [← hbc.1]; exact j2)
        rw [Bool.and_eq_true] at u2 v2
        exact ⟨u1.trans v1.symm, jn_ex n _ _ _ u2.2 v2.2⟩
      rw [hr]; simp
end Go.Proofs.Ytijjbfdbhfjfmaa
