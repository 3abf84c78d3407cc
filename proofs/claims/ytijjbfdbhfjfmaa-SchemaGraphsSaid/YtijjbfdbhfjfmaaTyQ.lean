/- Types whose rows are short; what the least type above two is like. No condition. -/
import Derived.Test.YtijjbfdbhfjfmaaTyP
namespace Go.Proofs.Ytijjbfdbhfjfmaa
/-- No deeper than so many, no row of more than a hundred. -/
def Sm : Nat → T → Prop
  | 0, _ => False
  | n + 1, t => t.l.length ≤ 100 ∧ t.ats.length ≤ 100 ∧ ∀ x ∈ t.ins, Sm n x
theorem Sm.dp : ∀ {n : Nat} {t : T}, Sm n t → Dp n t
  | 0, _, h => h
  | _ + 1, _, h => fun x hx => Sm.dp (h.2.2 x hx)
theorem Sm.succ : ∀ {n : Nat} {t : T}, Sm n t → Sm (n + 1) t
  | 0, _, h => h.elim
  | _ + 1, _, h => ⟨h.1, h.2.1, fun x hx => Sm.succ (h.2.2 x hx)⟩
theorem sm_of {m : Nat} {t : T} (g1 : t.l.length ≤ 100) (g2 : t.ats.length ≤ 100) (h1 : ∀ j (h : j < t.l.length), Sm m t.l[j]) (h2 : ∀ j (h : j < t.ats.length), Sm m (aty t.ats[j])) : Sm (m + 1) t := ⟨g1, g2, fun x hx => by
  rcases List.mem_append.1 hx with hx | hx
  · obtain ⟨j, hj, rfl⟩ := List.getElem_of_mem hx; exact h1 j hj
  · obtain ⟨y, hy, rfl⟩ := List.mem_map.1 hx
    obtain ⟨j, hj, rfl⟩ := List.getElem_of_mem hy; exact h2 j hj⟩
theorem Sm.len {n : Nat} {t : T} (h : Sm n t) : t.l.length ≤ 100 ∧ t.ats.length ≤ 100 := by
  cases n with
  | zero => exact h.elim
  | succ n => exact ⟨h.1, h.2.1⟩
theorem Sm.insl {n : Nat} {t : T} (h : Sm n t) : t.ins.length ≤ 200 := by
  have := h.len
  simp only [T.ins, List.length_append, List.length_map]; omega
theorem Sm.hd {n : Nat} {t : T} (h : Sm (n + 1) t) (hl : t.l ≠ []) : Sm n t.hd := by
  cases hx : t.l with
  | nil => exact absurd hx hl
  | cons x l => unfold T.hd; rw [hx]; exact h.2.2 x (ins_l (by rw [hx]; simp))
theorem sm_kind (n : Nat) (k : Int) : Sm (n + 1) (.mk k ⟨#[]⟩ [] []) := ⟨by show ([] : List T).length ≤ 100; simp, by show ([] : List At).length ≤ 100; simp, fun x hx => by simp [T.ins, T.l, T.ats] at hx⟩
theorem may_kind (n : Nat) (k : Int) (h : 0 ≤ k ∧ k ≤ 6) : mayB (n + 1) (.mk k ⟨#[]⟩ [] []) = true := mayB_succ.2 ⟨decide_eq_true ⟨h.1, by show k ≤ 8; omega, fun hk => by have : k = 7 := hk; omega⟩, rfl, fun x hx => by simp [T.ins, T.l, T.ats] at hx⟩
theorem jn_ih {P : Nat → T → Prop} (h3 : ∀ n, P (n + 1) boolT) (h7 : ∀ n (a b s : T), P (n + 1) a → P (n + 1) b → a.k = 7 → b.k = 7 → jn n a.hd b.hd = some s → P n s → P (n + 1) (.mk 7 ⟨#[]⟩ [s] []))
    (hhd : ∀ n (a : T), P (n + 1) a → a.k = 7 → P n a.hd) (has : ∀ n (a : T) (x : At), P (n + 1) a → x ∈ a.ats → P n (aty x))
    (h8 : ∀ n (a b : T) (r : List At), P (n + 1) a → P (n + 1) b → a.ats.length = r.length → (∀ j (h1 : j < a.ats.length) (h2 : j < r.length), an r[j] = an a.ats[j] ∧ P n (aty r[j])) → P (n + 1) (.mk 8 ⟨#[]⟩ [] r)) :
    ∀ (n : Nat) (a b t : T), P n a → P n b → jn n a b = some t → P n t
  | 0, _, _, _, _, _, h => by simp [jn] at h
  | n + 1, a, b, t, ha, hb, h => by
    rw [jn] at h
    by_cases c1 : belB (n + 1) a b = true
    · rw [if_pos c1, Option.some.injEq] at h; exact h ▸ hb
    rw [if_neg c1] at h
    by_cases c2 : belB (n + 1) b a = true
    · rw [if_pos c2, Option.some.injEq] at h; exact h ▸ ha
    rw [if_neg c2] at h
    by_cases c3 : trB a = true ∧ trB b = true
    · rw [if_pos c3, Option.some.injEq] at h; exact h ▸ h3 n
    rw [if_neg c3] at h
    by_cases c4 : a.k = b.k
    · rw [if_neg (by simpa using c4)] at h
      by_cases c7 : a.k = 7
      · rw [if_pos c7, Option.map_eq_some_iff] at h
        obtain ⟨s, hs, rfl⟩ := h
        exact h7 n a b s ha hb c7 (c4 ▸ c7) hs (jn_ih h3 h7 hhd has h8 n _ _ s (hhd n a ha c7) (hhd n b hb (c4 ▸ c7)) hs)
      · rw [if_neg c7] at h
        by_cases c8 : a.k = 8
        · rw [if_pos c8, Option.map_eq_some_iff] at h
          obtain ⟨r, hr, rfl⟩ := h
          obtain ⟨p1, p2, p3⟩ := pairJ_some.1 hr
          refine h8 n a b r ha hb p2 fun j h1 h2 => ?_
          have h4 : j < b.ats.length := by rw [← p1]; exact h1
          obtain ⟨-, q2, q3, -⟩ := p3 j h1 h4 h2
          exact ⟨q3, jn_ih h3 h7 hhd has h8 n _ _ _ (has n a _ ha (List.getElem_mem h1)) (has n b _ hb (List.getElem_mem h4)) q2⟩
        · rw [if_neg c8] at h; simp at h
    · rw [if_pos c4] at h; simp at h
theorem jn_may (n : Nat) (a b t : T) (ha : mayB n a = true) (hb : mayB n b = true) (h : jn n a b = some t) : mayB n t = true := by
  refine jn_ih (P := fun n t => mayB n t = true) (fun n => may_kind n 3 ⟨by decide, by decide⟩) (fun n a b s _ _ _ _ _ hs => ?_) (fun n a h k => ?_) (fun n a x h hx => may_as h hx) (fun n a b r ha _ hl hx => ?_) n a b t ha hb h
  · refine mayB_succ.2 ⟨rfl, rfl, fun x hx => ?_⟩
    have : x = s := by simpa [T.ins, T.l, T.ats] using hx
    rw [this]; exact hs
  · obtain ⟨x, -, hx, mx⟩ := may_set h k; rw [hx]; exact mx
  · obtain ⟨-, h2, -⟩ := mayB_succ.1 ha
    refine mayB_succ.2 ⟨rfl, ?_, fun x hx' => ?_⟩
    · have : (T.mk 8 ⟨#[]⟩ [] r).ats.map an = a.ats.map an := List.ext_getElem (by simp [T.ats] at hl ⊢; exact hl.symm) fun j h1 h2 => by
        have j1 : j < r.length := by simpa [T.ats] using h1
        have j2 : j < a.ats.length := by rw [hl]; exact j1
        show (r.map an)[j]'(by simpa using j1) = _
        rw [List.getElem_map, List.getElem_map]
        exact (hx j j2 j1).1
      rw [this]; exact h2
    · simp only [T.ins, T.l, T.ats, List.nil_append, List.mem_map] at hx'
      obtain ⟨y, hy, rfl⟩ := hx'
      obtain ⟨j, hj, rfl⟩ := List.getElem_of_mem hy
      exact (hx j (by rw [hl]; exact hj) hj).2
theorem jn_sm (n : Nat) (a b t : T) (ha : Sm n a ∧ mayB n a = true) (hb : Sm n b ∧ mayB n b = true) (h : jn n a b = some t) : Sm n t ∧ mayB n t = true := by
  refine ⟨?_, jn_may n a b t ha.2 hb.2 h⟩
  refine (jn_ih (P := fun n t => Sm n t ∧ mayB n t = true) (fun n => ⟨sm_kind n 3, may_kind n 3 ⟨by decide, by decide⟩⟩) (fun n a b s ha hb k7 k7' hj hs => ⟨?_, ?_⟩) (fun n a h k => ?_) (fun n a x h hx => ⟨h.1.2.2 _ (ins_as hx), may_as h.2 hx⟩) (fun n a b r ha hb hl hx => ⟨?_, ?_⟩) n a b t ha hb h).1
  · refine ⟨by show [s].length ≤ 100; simp, by show ([] : List At).length ≤ 100; simp, fun x hx => ?_⟩
    have : x = s := by simpa [T.ins, T.l, T.ats] using hx
    rw [this]; exact hs.1
  · refine mayB_succ.2 ⟨rfl, rfl, fun x hx => ?_⟩
    have : x = s := by simpa [T.ins, T.l, T.ats] using hx
    rw [this]; exact hs.2
  · obtain ⟨x, hl, hx, mx⟩ := may_set h.2 k
    exact ⟨h.1.hd (by rw [hl]; simp), by rw [hx]; exact mx⟩
  · refine ⟨by show ([] : List T).length ≤ 100; simp, by show r.length ≤ 100; rw [← hl]; exact ha.1.len.2, fun x hx' => ?_⟩
    simp only [T.ins, T.l, T.ats, List.nil_append, List.mem_map] at hx'
    obtain ⟨y, hy, rfl⟩ := hx'
    obtain ⟨j, hj, rfl⟩ := List.getElem_of_mem hy
    exact (hx j (by rw [hl]; exact hj) hj).2.1
  · obtain ⟨-, h2, -⟩ := mayB_succ.1 ha.2
    refine mayB_succ.2 ⟨rfl, ?_, fun x hx' => ?_⟩
    · have : (T.mk 8 ⟨#[]⟩ [] r).ats.map an = a.ats.map an := List.ext_getElem (by simp [T.ats] at hl ⊢; exact hl.symm) fun j h1 h2 => by
        have j1 : j < r.length := by simpa [T.ats] using h1
        have j2 : j < a.ats.length := by rw [hl]; exact j1
        show (r.map an)[j]'(by simpa using j1) = _
        rw [List.getElem_map, List.getElem_map]
        exact (hx j j2 j1).1
      rw [this]; exact h2
    · simp only [T.ins, T.l, T.ats, List.nil_append, List.mem_map] at hx'
      obtain ⟨y, hy, rfl⟩ := hx'
      obtain ⟨j, hj, rfl⟩ := List.getElem_of_mem hy
      exact (hx j (by rw [hl]; exact hj) hj).2.2
end Go.Proofs.Ytijjbfdbhfjfmaa
