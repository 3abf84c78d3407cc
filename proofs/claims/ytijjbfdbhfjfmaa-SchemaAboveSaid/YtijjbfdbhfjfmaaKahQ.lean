/- Plain: names to which no step leads are taken away in a list that grows while it is gone through. No condition. -/
import Derived.Test.YtijjbfdbhfjfmaaScP
namespace Go.Proofs.Ytijjbfdbhfjfmaa
section
variable {α : Type} [DecidableEq α]
theorem Kahn.re {P : α → List α} {K M L L' : List α} {c : α → Int} (h : Kahn P K M L c) (e : ∀ n, n ∈ L ↔ n ∈ L') : Kahn P K M L' c :=
  ⟨h.cnt, fun n hn h0 => (e n).1 (h.low n hn h0), fun n hn => h.nil n ((e n).2 hn), h.rnd, h.sub⟩
structure KQ (P : α → List α) (K M L : List α) (i : Nat) (c : α → Int) : Prop where
  k : Kahn P K M (L.drop i) c
  nil : ∀ n ∈ L, c n = 0
  nd : L.Nodup
  pm : (L.take i ++ M).Perm K
  sub : ∀ n ∈ L, n ∈ K
structure KQi (P : α → List α) (K M L : List α) (i : Nat) (c : α → Int) (x : α) (j : Nat) : Prop where
  k : KahnIn P K M (L.drop (i + 1)) c x j
  nil : ∀ n ∈ L, c n = 0
  nd : L.Nodup
  pm : (L.take (i + 1) ++ M.erase x).Perm K
  sub : ∀ n ∈ L, n ∈ K
  xm : x ∈ M
  lx : i < L.length
theorem KQ.take {P : α → List α} {K M L : List α} {i : Nat} {c : α → Int} {x : α} (h : KQ P K M L i c) (hM : M.Nodup) (hx : L[i]? = some x) : KQi P K M L i c x 0 := by
  obtain ⟨hi, e⟩ := List.getElem?_eq_some_iff.1 hx
  have hd : L.drop i = x :: L.drop (i + 1) := by rw [List.drop_eq_getElem_cons hi, e]
  have hxK : x ∈ K := h.sub x (e ▸ List.getElem_mem hi)
  have hxt : x ∉ L.take i := fun hm => by
    obtain ⟨k, hk, e2⟩ := List.getElem_of_mem hm
    have hk2 : k < i := by simp at hk; omega
    rw [List.getElem_take] at e2
    have := (List.nodup_iff_pairwise_ne.1 h.nd)
    rw [List.pairwise_iff_getElem] at this
    exact this k i (by omega) hi hk2 (e2.trans e.symm)
  have hxM : x ∈ M := by
    rcases List.mem_append.1 (h.pm.symm.subset hxK) with h1 | h1
    · exact absurd h1 hxt
    · exact h1
  refine ⟨Kahn.take hM (h.k.re (L' := L.drop (i + 1) ++ [x]) fun n => ?_), h.nil, h.nd, ?_, h.sub, hxM, hi⟩
  · rw [hd]; simp [or_comm]
  · rw [List.take_succ_eq_append_getElem hi, e, List.append_assoc]
    exact ((List.perm_cons_erase hxM).symm.append_left _).trans h.pm
theorem KQi.pos {P : α → List α} {K M L : List α} {i j : Nat} {c : α → Int} {x : α} (h : KQi P K M L i c x j) (hj : j < (P x).length) : 0 < c (P x)[j] := by
  have := h.k.cnt (P x)[j]
  rw [if_pos h.xm, List.drop_eq_getElem_cons hj, List.count_cons] at this
  simp at this
  omega
def lowC (c : α → Int) (p : α) : α → Int := fun n => if n = p then c n - 1 else c n
theorem KQi.keep {P : α → List α} {K M L : List α} {i j : Nat} {c : α → Int} {x p : α} (h : KQi P K M L i c x j) (hj : j < (P x).length) (hp : (P x)[j] = p) (h0 : ¬ c p - 1 = 0) : KQi P K M L i (lowC c p) x (j + 1) := by
  have hs := h.k.step h.xm hj
  have hpos := h.pos hj
  rw [hp] at hs hpos
  rw [if_neg h0] at hs
  refine ⟨hs, fun n hn => ?_, h.nd, h.pm, h.sub, h.xm, h.lx⟩
  unfold lowC
  by_cases e : n = p
  · have := h.nil n hn
    rw [e] at this; omega
  · rw [if_neg e]; exact h.nil n hn
theorem KQi.zero {P : α → List α} {K M L : List α} {i j : Nat} {c : α → Int} {x p : α} (h : KQi P K M L i c x j) (hj : j < (P x).length) (hp : (P x)[j] = p) (hK : p ∈ K) (h0 : c p - 1 = 0) : KQi P K M (L ++ [p]) i (lowC c p) x (j + 1) := by
  have hs := h.k.step h.xm hj
  have hpos := h.pos hj
  rw [hp] at hs hpos
  rw [if_pos h0] at hs
  have hpL : p ∉ L := fun hm => by have := h.nil p hm; omega
  have hd : (L ++ [p]).drop (i + 1) = L.drop (i + 1) ++ [p] := List.drop_append_of_le_length (by have := h.lx; omega)
  have ht : (L ++ [p]).take (i + 1) = L.take (i + 1) := List.take_append_of_le_length (by have := h.lx; omega)
  refine ⟨by rw [hd]; exact hs, fun n hn => ?_, ?_, by rw [ht]; exact h.pm, fun n hn => ?_, h.xm, by have := h.lx; simp; omega⟩
  · unfold lowC
    rcases List.mem_append.1 hn with hn | hn
    · rw [if_neg (fun e : n = p => hpL (e ▸ hn))]; exact h.nil n hn
    · simp at hn
      rw [if_pos hn, hn]; exact h0
  · rw [List.nodup_append]
    refine ⟨h.nd, by simp, fun a ha b hb => ?_⟩
    simp at hb
    rw [hb]
    exact fun e => hpL (e ▸ ha)
  · rcases List.mem_append.1 hn with hn | hn
    · exact h.sub n hn
    · simp at hn; rw [hn]; exact hK
theorem KQi.done {P : α → List α} {K M L : List α} {i j : Nat} {c : α → Int} {x : α} (h : KQi P K M L i c x j) (hj : (P x).length ≤ j) : KQ P K (M.erase x) L (i + 1) c :=
  ⟨h.k.done fun _ => hj, h.nil, h.nd, h.pm, h.sub⟩
theorem KQ.len {P : α → List α} {K M L : List α} {i : Nat} {c : α → Int} (h : KQ P K M L i c) : L.length ≤ K.length := len_sub L K h.nd h.sub
theorem KQ.fin {P : α → List α} {K M L : List α} {i : Nat} {c : α → Int} (h : KQ P K M L i c) (hi : L.length ≤ i) : L.length < K.length ↔ ∃ a, Way (fun x y => x ∈ K ∧ y ∈ P x ∧ y ∈ K) a a := by
  have hk := h.k
  rw [List.drop_eq_nil_of_le hi] at hk
  rw [← hk.fin]
  have hl := h.pm.length_eq
  rw [List.take_of_length_le hi, List.length_append] at hl
  constructor
  · intro h1 e
    rw [e] at hl; simp at hl; omega
  · intro h1
    have := List.length_pos_iff.2 h1
    omega
theorem KQ.start {P : α → List α} {K L : List α} {c : α → Int} (h1 : ∀ n, c n = (occ P K n : Int)) (h2 : ∀ n, n ∈ L ↔ n ∈ K ∧ c n = 0) (hn : L.Nodup) : KQ P K K L 0 c :=
  ⟨by rw [List.drop_zero]; exact Kahn.start h1 h2, fun n hn => ((h2 n).1 hn).2, hn, by rw [List.take_zero]; exact List.Perm.refl _, fun n hn => ((h2 n).1 hn).1⟩
end
end Go.Proofs.Ytijjbfdbhfjfmaa
