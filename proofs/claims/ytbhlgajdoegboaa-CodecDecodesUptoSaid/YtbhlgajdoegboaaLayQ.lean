/- How long a value's bytes are; what is as it must be is no more than it was. No condition. -/
import Derived.Test.YtbhlgajdoegboaaLayA
import Derived.Test.YtbhlgajdoegboaaLawP
namespace Go.Proofs.Ytbhlgajdoegboaa
open Go.RowKit
theorem vbL_sum (l : List V) : vbL l = (l.map vb).sum := by
  induction l with
  | nil => rfl
  | cons x l ih => rw [vbL, ih]; rfl
theorem nbL_sum (l : List ByteArray) : nbL l = (l.map fun s => s.size + 1).sum := by
  induction l with
  | nil => rfl
  | cons x l ih => rw [nbL, ih]; rfl
theorem layL_bound (r : Bool) : ∀ (l : List V) (ns : List ByteArray), (∀ x ∈ l, (lay x).length + 4 ≤ 14 * vb x) → (layL r l ns).length ≤ 14 * (vbL l + nbL ns)
  | [], _, _ => by simp [layL]
  | x :: l, ns, h => by
    have h1 := h x (by simp)
    have h2 := layL_bound r l ns.tail fun y hy => h y (by simp [hy])
    rw [layL, vbL]
    simp only [List.length_append]
    cases ns with
    | nil =>
      have e0 : (⟨#[]⟩ : ByteArray).size = 0 := rfl
      have h3 : (if r = true then layT (([] : List ByteArray).headD ⟨#[]⟩) else []).length ≤ 4 := by
        cases r
        · simp
        · simp [layT_len, e0]
      simp only [List.tail_nil] at h2 ⊢
      omega
    | cons n ns =>
      have h3 : (if r = true then layT ((n :: ns).headD ⟨#[]⟩) else []).length ≤ 4 + n.size := by
        cases r
        · simp
        · simp [layT_len]
      rw [nbL]
      simp only [List.tail_cons] at h2
      simp only [List.tail_cons]
      omega
theorem lay_bound_n (n : Nat) : ∀ v : V, dep v ≤ n → (lay v).length + 4 ≤ 14 * vb v := by
  induction n with
  | zero => intro v h; rw [dep_v] at h; omega
  | succ n ih =>
    intro v hd
    have h1 := layL_bound (decide (v.h.k = 6)) v.l v.ns fun x hx => ih x (by have := dep_mem hx; rw [dep_v] at hd; omega)
    rw [lay_v, vb_v, List.length_append, be_len]
    unfold layR
    split
    · rw [be_len]; omega
    split
    · rw [be_len]; omega
    split
    · rw [layT_len]; omega
    split
    · rw [List.length_append, layT_len, layT_len]; omega
    · rw [List.length_append, be_len]; omega
theorem lay_bound (v : V) : (lay v).length ≤ 14 * vb v := by have := lay_bound_n (dep v) v (Nat.le_refl _); omega
theorem ins_sum {α : Type} {c : α → α → Int} {x : α} (f : α → Nat) : ∀ l : List α, ((ins c x l).map f).sum ≤ f x + (l.map f).sum
  | [] => by simp [ins]
  | y :: l => by
    have := ins_sum (c := c) (x := x) f l
    rw [ins]
    split
    · simp only [List.map_cons, List.sum_cons]; omega
    · split
      · simp only [List.map_cons, List.sum_cons]; omega
      · simp only [List.map_cons, List.sum_cons]; omega
theorem uniq_sum {α : Type} {c : α → α → Int} (f : α → Nat) (l : List α) : ((uniq c l).map f).sum ≤ (l.map f).sum := by
  have gen : ∀ (l acc : List α), ((l.foldl (fun acc x => ins c x acc) acc).map f).sum ≤ (l.map f).sum + (acc.map f).sum := by
    intro l
    induction l with
    | nil => intro acc; simp
    | cons x l ih =>
      intro acc
      have h1 := ih (ins c x acc)
      have h2 := ins_sum (c := c) (x := x) f acc
      simp only [List.foldl_cons, List.map_cons, List.sum_cons]
      omega
  have h := gen l []
  simpa [uniq] using h
theorem map_sum_le {α : Type} {f g : α → Nat} : ∀ {l : List α}, (∀ x ∈ l, f x ≤ g x) → (l.map f).sum ≤ (l.map g).sum
  | [], _ => by simp
  | x :: l, h => by
    have h1 := h x (by simp)
    have h2 := map_sum_le (l := l) fun y hy => h y (by simp [hy])
    simp only [List.map_cons, List.sum_cons]
    omega
theorem zip_sum_fst {f : ByteArray → Nat} : ∀ {ns : List ByteArray} {m : List V}, ((ns.zip m).map fun p => f p.1).sum ≤ (ns.map f).sum
  | [], _ => by simp
  | n :: ns, [] => by simp
  | n :: ns, x :: m => by
    have := zip_sum_fst (f := f) (ns := ns) (m := m)
    simp only [List.zip_cons_cons, List.map_cons, List.sum_cons]
    omega
theorem zip_sum_snd {f : V → Nat} : ∀ {ns : List ByteArray} {m : List V}, ((ns.zip m).map fun p => f p.2).sum ≤ (m.map f).sum
  | [], _ => by simp
  | n :: ns, [] => by simp
  | n :: ns, x :: m => by
    have := zip_sum_snd (f := f) (ns := ns) (m := m)
    simp only [List.zip_cons_cons, List.map_cons, List.sum_cons]
    omega
theorem vb_mk (k : Int) (l : List V) (ns : List ByteArray) : vb (.mk { hd0 with k := k } l ns) = 8 + vbL l + nbL ns := by rw [vb]; rfl
theorem vb_can_n (n : Nat) : ∀ v : V, dep v ≤ n → (can v).1 = 0 → vb (can v).2 ≤ vb v := by
  induction n with
  | zero => intro v h; rw [dep_v] at h; omega
  | succ n ih =>
    intro v hd h
    have hI : (canL v.l).1 = 0 → ((canL v.l).2.map vb).sum ≤ vbL v.l := fun h0 => by
      obtain ⟨h1, h2⟩ := canL_ok h0
      rw [h2, vbL_sum, List.map_map]
      exact map_sum_le fun x hx => ih x (by have := dep_mem hx; rw [dep_v] at hd; omega) (h1 x hx)
    have e0 : (⟨#[]⟩ : ByteArray).size = 0 := rfl
    rw [can_v] at h ⊢
    rw [vb_v v]
    by_cases k1 : v.h.k = 1
    · rw [if_pos k1, vb_v]; simp only [V.h, V.l, V.ns, hd0, vbL, nbL, e0]; omega
    rw [if_neg k1] at h ⊢
    by_cases k2 : v.h.k = 2
    · rw [if_pos k2, vb_v]; simp only [V.h, V.l, V.ns, hd0, vbL, nbL, e0]; omega
    rw [if_neg k2] at h ⊢
    by_cases k3 : v.h.k = 3
    · rw [if_pos k3, vb_v]; simp only [V.h, V.l, V.ns, hd0, vbL, nbL, e0]; omega
    rw [if_neg k3] at h ⊢
    by_cases k4 : v.h.k = 4
    · rw [if_pos k4, vb_v]; simp only [V.h, V.l, V.ns, hd0, vbL, nbL, e0]; omega
    rw [if_neg k4] at h ⊢
    by_cases k5 : v.h.k = 5
    · rw [if_pos k5] at h ⊢
      by_cases h0 : (canL v.l).1 = 0
      · have h1 := hI h0
        have h2 := uniq_sum (c := ord) vb (canL v.l).2
        rw [if_pos h0, vb_mk, vbL_sum]
        have e1 : nbL [] = 0 := rfl
        omega
      · rw [if_neg h0] at h; exact absurd h h0
    rw [if_neg k5] at h ⊢
    by_cases k6 : v.h.k = 6
    · rw [if_pos k6] at h ⊢
      by_cases hl : v.ns.length = v.l.length
      · rw [if_pos hl] at h ⊢
        by_cases h0 : (canL v.l).1 = 0
        · rw [if_pos h0] at h ⊢
          unfold recC at h ⊢
          by_cases hn : v.ns.Nodup
          · rw [if_pos hn]
            have h1 := hI h0
            obtain ⟨u, hu⟩ : ∃ u, u = uniq cmpP (v.ns.zip (canL v.l).2) := ⟨_, rfl⟩
            have h2 := uniq_sum (c := cmpP) (fun p => vb p.2) (v.ns.zip (canL v.l).2)
            have h3 := uniq_sum (c := cmpP) (fun p => p.1.size + 1) (v.ns.zip (canL v.l).2)
            have h4 := zip_sum_snd (f := vb) (ns := v.ns) (m := (canL v.l).2)
            have h5 := zip_sum_fst (f := fun s => s.size + 1) (ns := v.ns) (m := (canL v.l).2)
            rw [← hu] at h2 h3 ⊢
            have h6 : vbL (u.map (·.2)) = (u.map fun p => vb p.2).sum := by rw [vbL_sum, List.map_map]; rfl
            have h7 : nbL (u.map (·.1)) = (u.map fun p => p.1.size + 1).sum := by rw [nbL_sum, List.map_map]; rfl
            have h8 := nbL_sum v.ns
            rw [vb_mk]
            omega
          · rw [if_neg hn] at h; simp at h
        · rw [if_neg h0] at h; exact absurd h h0
      · rw [if_neg hl] at h; simp at h
    · rw [if_neg k6] at h; simp at h
theorem vb_can {v : V} (h : (can v).1 = 0) : vb (can v).2 ≤ vb v := vb_can_n (dep v) v (Nat.le_refl _) h
theorem vb_canD {v : V} (h : (canD v).1 = 0) : vb (canD v).2 ≤ vb v := by
  have e := (canD_ok h).1
  rw [e] at h ⊢
  exact vb_can h
end Go.Proofs.Ytbhlgajdoegboaa
