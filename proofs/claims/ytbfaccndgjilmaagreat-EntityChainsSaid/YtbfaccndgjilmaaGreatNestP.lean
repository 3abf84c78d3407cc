/- What a value as it must be keeps: its depth; a value in sets of one member each. No condition. -/
import Derived.Test.YtbfaccndgjilmaaGreatCanon
namespace Go.Proofs.YtbfaccndgjilmaaGreat
theorem dptL_same {l m : List V} (h : ∀ z, z ∈ l ↔ z ∈ m) : dptL l = dptL m :=
  Nat.le_antisymm (dptL_le.2 fun x hx => (dptL_le.1 (Nat.le_refl _)) x ((h x).1 hx)) (dptL_le.2 fun x hx => (dptL_le.1 (Nat.le_refl _)) x ((h x).2 hx))
theorem dptL_map {f : V → V} : ∀ {l : List V}, (∀ x ∈ l, dpt (f x) = dpt x) → dptL (l.map f) = dptL l
  | [], _ => rfl
  | x :: l, h => by rw [List.map_cons, dptL, dptL, h x (by simp), dptL_map fun y hy => h y (by simp [hy])]
theorem dpt_one {k : Int} {h : Hd} (hk : h.k = k) (h5 : k ≠ 5) (h6 : k ≠ 6) (l : List V) (ns : List ByteArray) : dpt (.mk h l ns) = 1 := by
  rw [dpt, if_neg (by omega)]
theorem dpt_up {h : Hd} (hk : h.k = 5 ∨ h.k = 6) (l : List V) (ns : List ByteArray) : dpt (.mk h l ns) = dptL l + 1 := by
  rw [dpt, if_pos hk]
theorem zip_only {ns : List ByteArray} {m : List V} (hn : ns.Nodup) {y x : ByteArray × V} (hy : y ∈ ns.zip m) (hx : x ∈ ns.zip m) (h : cmpP y x = 0) : y = x := by
  have h1 : y.1 = x.1 := cmpT_zero h
  obtain ⟨i, hi, rfl⟩ := List.getElem_of_mem hy
  obtain ⟨j, hj, rfl⟩ := List.getElem_of_mem hx
  simp only [List.getElem_zip] at h1 ⊢
  have hi' : i < ns.length := by simp at hi; omega
  have hj' : j < ns.length := by simp at hj; omega
  have hij : i = j := (List.getElem_inj (h₀ := hi') (h₁ := hj') hn).1 h1
  subst hij
  rfl
theorem recC_mem {ns : List ByteArray} {m : List V} (hn : ns.Nodup) (z : ByteArray × V) : z ∈ uniq cmpP (ns.zip m) ↔ z ∈ ns.zip m :=
  mem_uniq (S := fun p => p ∈ ns.zip m) (good_pair.mono fun _ _ => trivial) (fun _ _ hy hx h => zip_only hn hy hx h) fun _ h => h
theorem recC_items {ns : List ByteArray} {m : List V} (hn : ns.Nodup) (hl : ns.length = m.length) (z : V) : z ∈ (uniq cmpP (ns.zip m)).map (·.2) ↔ z ∈ m := by
  rw [List.mem_map]
  constructor
  · rintro ⟨p, hp, rfl⟩
    exact mem_zip_snd ((recC_mem hn p).1 hp)
  · intro hz
    obtain ⟨i, hi, rfl⟩ := List.getElem_of_mem hz
    refine ⟨(ns[i]'(by omega), m[i]), (recC_mem hn _).2 ?_, rfl⟩
    rw [List.mem_iff_getElem]
    exact ⟨i, by simp; omega, by simp⟩
theorem dpt_can_n (n : Nat) : ∀ v : V, dep v ≤ n → (can v).1 = 0 → dpt (can v).2 = dpt v := by
  induction n with
  | zero => intro v h; rw [dep_v] at h; omega
  | succ n ih =>
    intro v hd h
    have hI : (canL v.l).1 = 0 → dptL (canL v.l).2 = dptL v.l ∧ ∀ x ∈ (canL v.l).2, Cn x := fun h0 => by
      obtain ⟨h1, h2⟩ := canL_ok h0
      rw [h2]
      refine ⟨dptL_map fun x hx => ih x (by have := dep_mem hx; rw [dep_v] at hd; omega) (h1 x hx), fun x hx => ?_⟩
      obtain ⟨y, hy, rfl⟩ := List.mem_map.1 hx
      exact can_cn (h1 y hy)
    have up : v.h.k = 5 ∨ v.h.k = 6 → dpt v = dptL v.l + 1 := fun h => by rw [dpt_v]; unfold V.nest; rw [if_pos h]
    have one : ∀ k : Int, v.h.k = k → k ≠ 5 → k ≠ 6 → dpt v = 1 := fun k hk h5 h6 => by rw [v.eta]; exact dpt_one hk h5 h6 _ _
    rw [can_v] at h ⊢
    by_cases k1 : v.h.k = 1
    · rw [if_pos k1, one 1 k1 (by decide) (by decide), dpt_one (k := 1) rfl (by decide) (by decide)]
    rw [if_neg k1] at h ⊢
    by_cases k2 : v.h.k = 2
    · rw [if_pos k2, one 2 k2 (by decide) (by decide), dpt_one (k := 2) rfl (by decide) (by decide)]
    rw [if_neg k2] at h ⊢
    by_cases k3 : v.h.k = 3
    · rw [if_pos k3, one 3 k3 (by decide) (by decide), dpt_one (k := 3) rfl (by decide) (by decide)]
    rw [if_neg k3] at h ⊢
    by_cases k4 : v.h.k = 4
    · rw [if_pos k4, one 4 k4 (by decide) (by decide), dpt_one (k := 4) rfl (by decide) (by decide)]
    rw [if_neg k4] at h ⊢
    by_cases k5 : v.h.k = 5
    · rw [if_pos k5] at h ⊢
      by_cases h0 : (canL v.l).1 = 0
      · obtain ⟨e1, e2⟩ := hI h0
        rw [if_pos h0, up (.inl k5)]
        rw [dpt_up (.inl rfl)]
        rw [dptL_same fun z => mem_uniq good_cn (fun y x hy hx h => ord_zero hy hx h) e2]
        rw [e1]
      · rw [if_neg h0] at h; exact absurd h h0
    rw [if_neg k5] at h ⊢
    by_cases k6 : v.h.k = 6
    · rw [if_pos k6] at h ⊢
      by_cases hl : v.ns.length = v.l.length
      · rw [if_pos hl] at h ⊢
        by_cases h0 : (canL v.l).1 = 0
        · obtain ⟨e1, e2⟩ := hI h0
          rw [if_pos h0] at h ⊢
          unfold recC at h ⊢
          by_cases hn : v.ns.Nodup
          · rw [if_pos hn, up (.inr k6)]
            rw [dpt_up (.inr rfl)]
            rw [dptL_same fun z => recC_items hn (by have := canL_len h0; omega) z]
            rw [e1]
          · rw [if_neg hn] at h; simp at h
        · rw [if_neg h0] at h; exact absurd h h0
      · rw [if_neg hl] at h; simp at h
    · rw [if_neg k6] at h; simp at h
theorem dpt_can {v : V} (h : (can v).1 = 0) : dpt (can v).2 = dpt v := dpt_can_n (dep v) v (Nat.le_refl _) h
def wrapV (v : V) : V := .mk { hd0 with k := 5 } [v] []
def nestV (v : V) : Nat → V
  | 0 => v
  | n + 1 => wrapV (nestV v n)
theorem dpt_wrap (v : V) : dpt (wrapV v) = dpt v + 1 := by
  unfold wrapV
  rw [dpt_up (.inl rfl)]
  simp [dptL]
theorem dpt_nest (v : V) : ∀ n, dpt (nestV v n) = dpt v + n
  | 0 => rfl
  | n + 1 => by rw [nestV, dpt_wrap, dpt_nest v n]; omega
theorem dep_nest (v : V) : ∀ n, dep (nestV v n) = dep v + n
  | 0 => rfl
  | n + 1 => by rw [nestV, wrapV, dep_v]; simp [V.l, depL, dep_nest v n]; omega
theorem sm_nest {v : V} (h : Sm v) : ∀ n, Sm (nestV v n)
  | 0 => h
  | n + 1 => by rw [nestV, wrapV, sm_v]; simp [V.l, V.ns]; exact sm_nest h n
theorem can_wrap (v : V) : can (wrapV v) = if (can v).1 = 0 then (0, wrapV (can v).2) else ((can v).1, V0) := by
  rw [can_v]
  have e : (wrapV v).h.k = 5 := rfl
  have el : (wrapV v).l = [v] := rfl
  rw [e, el, if_neg (by decide), if_neg (by decide), if_neg (by decide), if_neg (by decide), if_pos rfl]
  by_cases h : (can v).1 = 0
  · rw [if_pos h, canL_of (by simp) (by simpa using h), if_pos rfl]
    rfl
  · have : canL [v] = ((can v).1, []) := by unfold canL limL; rw [canK, if_neg h, if_neg h]
    rw [if_neg h, this, if_neg h]
theorem can_nest (v : V) : ∀ n, (can (nestV v n)).1 = (can v).1
  | 0 => rfl
  | n + 1 => by
    rw [nestV, can_wrap]
    have := can_nest v n
    by_cases h : (can (nestV v n)).1 = 0
    · rw [if_pos h, ← this, h]
    · rw [if_neg h, this]
/-- What comes of a value in n sets. -/
theorem canD_nest {v : V} {n : Nat} (h : ¬ 50 < dpt v + n) : (canD (nestV v n)).1 = (canD v).1 ∧ ((canD v).1 = 0 → dpt (canD (nestV v n)).2 = dpt v + n) := by
  unfold canD
  rw [if_neg (by rw [dpt_nest]; exact h), if_neg (by omega)]
  exact ⟨can_nest v n, fun h0 => by rw [dpt_can (by rw [can_nest]; exact h0), dpt_nest]⟩
theorem canD_nest_deep {v : V} {n : Nat} (h : 50 < dpt v + n) : canD (nestV v n) = (11, V0) := by
  unfold canD
  rw [if_pos (by rw [dpt_nest]; exact h)]
end Go.Proofs.YtbfaccndgjilmaaGreat
