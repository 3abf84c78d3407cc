/- Where the next one goes in a row that rises: the reference's way; its box of an answer. No condition. -/
import Derived.Test.YtdblkjcimegoeaaUniP
namespace Go.Proofs.Ytdblkjcimegoeaa
open Go.RowKit Go.Sort
section
variable {α : Type} {c : α → α → Int} {S : α → Prop}
theorem ins_pre {x : α} : ∀ {p q : List α}, (∀ y ∈ p, c y x < 0) → ins c x (p ++ q) = p ++ ins c x q
  | [], _, _ => rfl
  | y :: p, q, h => by
    rw [List.cons_append, ins, if_pos (h y (by simp)), ins_pre fun z hz => h z (by simp [hz])]
    rfl
theorem ins_up (g : Good c S) {x : α} (hx : S x) : ∀ {q : List α}, (∀ y ∈ q, S y) → Rises c q → (∀ y ∈ q, 0 ≤ c y x) → ins c x q = if q.any (fun y => c y x == 0) then q else x :: q
  | [], _, _, _ => rfl
  | y :: q, hS, hr, h => by
    have h0 := h y (by simp)
    rw [ins, if_neg (by omega)]
    by_cases he : c y x = 0
    · rw [if_pos he]
      simp [he]
    · rw [if_neg he]
      have hn : ((y :: q).any fun y => c y x == 0) = false := by
        rw [List.any_eq_false]
        intro z hz
        rcases List.mem_cons.1 hz with rfl | hz
        · simpa using he
        · have h1 : c y z < 0 := (List.pairwise_cons.1 hr).1 z hz
          intro h2
          have h3 : c z x = 0 := by simpa using h2
          have := g.lt_le (hS y (by simp)) (hS z (by simp [hz])) hx h1 (by omega)
          omega
      rw [hn]
      rfl
theorem take_low (g : Good c S) {x : α} (hx : S x) {l : List α} (hS : ∀ y ∈ l, S y) (hr : Rises c l) {k : Nat} (hk : k ≤ l.length) (hlow : ∀ (h : k - 1 < l.length), 0 < k → c l[k - 1] x < 0) : ∀ y ∈ l.take k, c y x < 0 := by
  intro y hy
  obtain ⟨j, hj, rfl⟩ := List.getElem_of_mem hy
  have hj2 : j < k := by rw [List.length_take] at hj; omega
  have hjl : j < l.length := by omega
  have he : (l.take k)[j] = l[j] := by simp
  rw [he]
  have h1 := hlow (by omega) (by omega)
  by_cases hjk : j = k - 1
  · subst hjk; exact h1
  · have h2 : c l[j] l[k - 1] < 0 := List.pairwise_iff_getElem.1 hr j (k - 1) hjl (by omega) (by omega)
    exact g.lt _ _ _ (hS _ (List.getElem_mem _)) (hS _ (List.getElem_mem _)) hx h2 h1
theorem ins_at (g : Good c S) {x : α} (hx : S x) {l : List α} (hS : ∀ y ∈ l, S y) (hr : Rises c l) {k : Nat} (hk : k ≤ l.length) (hlow : ∀ (h : k - 1 < l.length), 0 < k → c l[k - 1] x < 0) (hup : ∀ y ∈ l.drop k, 0 ≤ c y x) :
    ins c x l = if (l.drop k).any (fun y => c y x == 0) then l else l.take k ++ x :: l.drop k := by
  have h1 := take_low g hx hS hr hk hlow
  have h2 := ins_pre (q := l.drop k) h1
  rw [List.take_append_drop] at h2
  rw [h2, ins_up g hx (fun y hy => hS y (List.mem_of_mem_drop hy)) (hr.sublist (List.drop_sublist _ _)) hup]
  split
  · exact List.take_append_drop _ _
  · rfl
theorem rises_at (g : Good c S) {x : α} (hx : S x) {l : List α} (hS : ∀ y ∈ l, S y) (hr : Rises c l) {k : Nat} (hk : k ≤ l.length) (hlow : ∀ (h : k - 1 < l.length), 0 < k → c l[k - 1] x < 0) (hup : ∀ y ∈ l.drop k, 0 ≤ c y x) (hn : (l.drop k).any (fun y => c y x == 0) = false) :
    Rises c (l.take k ++ x :: l.drop k) := by
  have h := ins_rises g hx hS hr
  rw [ins_at g hx hS hr hk hlow hup, hn] at h
  exact h
theorem uniq_snoc {l : List α} {x : α} : uniq c (l ++ [x]) = ins c x (uniq c l) := by simp [uniq, List.foldl_append]
/-- A step of the scan from the end: one more is looked at. -/
theorem drop_pred {l : List α} {k : Nat} (hk : k < l.length) : l.drop k = l[k] :: l.drop (k + 1) := List.drop_eq_getElem_cons hk
theorem perm_at {l m : List α} {x : α} {k : Nat} (h : l.Perm m) : (l.take k ++ x :: l.drop k).Perm (m ++ [x]) := by
  refine List.perm_middle.trans ?_
  rw [List.take_append_drop]
  exact (List.Perm.cons x h).trans (List.perm_append_singleton x m).symm
end
/-! ### What the next round holds -/
/-- Sets: what is held is each one once. -/
theorem set_next {ps xs : List El} {p : El} (hc : ∀ q ∈ ps ++ [p], Cn q.v) (hx : xs.map (·.v) = uniq ord (ps.map (·.v))) {k : Nat} (hk : k ≤ xs.length)
    (hlow : ∀ (h : k - 1 < xs.length), 0 < k → ord xs[k - 1].v p.v < 0) (hup : ∀ y ∈ xs.drop k, 0 ≤ ord y.v p.v) :
    (if (xs.drop k).any (fun y => ord y.v p.v == 0) then xs else xs.take k ++ p :: xs.drop k).map (·.v) = uniq ord ((ps ++ [p]).map (·.v)) := by
  have c1 : ∀ x ∈ ps.map (·.v), Cn x := fun x hx => by
    obtain ⟨q, hq, rfl⟩ := List.mem_map.1 hx
    exact hc q (by simp [hq])
  have c2 : Cn p.v := hc p (by simp)
  rw [List.map_append, List.map_singleton, uniq_snoc, ← hx]
  have hS : ∀ y ∈ xs.map (·.v), Cn y := fun y hy => c1 y (uniq_sub (by rw [← hx]; exact hy))
  have hr : Rises ord (xs.map (·.v)) := by rw [hx]; exact uniq_rises good_cn cn_only c1
  have key := ins_at good_cn (x := p.v) c2 hS hr (k := k) (by simpa using hk) (fun h h0 => by have := hlow (by simpa using h) h0; simpa using this) (fun y hy => by
    rw [← List.map_drop] at hy
    obtain ⟨z, hz, rfl⟩ := List.mem_map.1 hy
    exact hup z hz)
  rw [key, ← List.map_drop, List.any_map, ← List.map_take]
  show (if _ then _ else _ : List El).map _ = if (xs.drop k).any (fun y => ord y.v p.v == 0) then _ else _
  split
  · rfl
  · simp
/-- Records: a name that is there already. -/
theorem rec_twice {ns : List ByteArray} {ps : List El} {fs : List Fd} {m : List V} {i : Nat} (hi : i < ns.length) (hl : ns.length = ps.length) (hp : fs.Perm ((zipF ns ps).take i)) {k : Nat} (h : ((fs.map (·.name)).drop k).any (fun y => cmpT y ns[i] == 0) = true) : recC ns m = (13, V0) := by
  have hn : ¬ ns.Nodup := fun hnd => by
    obtain ⟨y, hy, h1⟩ := List.any_eq_true.1 h
    have h2 : y = ns[i] := cmpT_zero (by simpa using h1)
    have hy2 := List.mem_of_mem_drop hy
    have h3 : y ∈ ((zipF ns ps).take i).map (·.name) := (hp.map _).mem_iff.1 hy2
    rw [List.map_take, zipF_names hl, h2] at h3
    obtain ⟨j, hj, he⟩ := List.getElem_of_mem h3
    have hj2 : j < i := by rw [List.length_take] at hj; omega
    rw [List.getElem_take] at he
    have := List.pairwise_iff_getElem.1 hnd j i (by omega) hi hj2
    exact this he
  unfold recC
  rw [if_neg hn]
end Go.Proofs.Ytdblkjcimegoeaa
