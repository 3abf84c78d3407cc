/- How deep a value is nested, and whether it is deeper than a number. Condition: a bound on the depth. -/
import Derived.Test.YtdblkjcimegoeaaGetW
namespace Go.Proofs.Ytdblkjcimegoeaa
open Go.RowKit Go.Sort
mutual
/-- Depth, as the document says. -/
def dpt : V → Nat
  | .mk h l _ => if h.k = 5 ∨ h.k = 6 then dptL l + 1 else 1
def dptL : List V → Nat
  | [] => 0
  | x :: l => max (dpt x) (dptL l)
end
/-- What is right inside. -/
def V.nest (v : V) : List V := if v.h.k = 5 ∨ v.h.k = 6 then v.l else []
theorem dpt_v (v : V) : dpt v = dptL v.nest + 1 := by
  cases v with
  | mk h l ns =>
    rw [dpt]
    unfold V.nest
    simp only [V.h, V.l]
    by_cases hk : h.k = 5 ∨ h.k = 6 <;> simp [hk, dptL]
theorem dptL_append (l m : List V) : dptL (l ++ m) = max (dptL l) (dptL m) := by
  induction l with
  | nil => simp [dptL]
  | cons x l ih => rw [List.cons_append, dptL, dptL, ih]; omega
theorem dptL_take {l : List V} {i : Nat} (h : i < l.length) : dptL (l.take (i + 1)) = max (dptL (l.take i)) (dpt l[i]) := by
  rw [List.take_succ_eq_append_getElem h, dptL_append]
  simp [dptL]
theorem dptL_le {l : List V} {n : Nat} : dptL l ≤ n ↔ ∀ x ∈ l, dpt x ≤ n := by
  induction l with
  | nil => simp [dptL]
  | cons x l ih => rw [dptL, Nat.max_le, ih]; simp
theorem mem_nest {v x : V} (h : x ∈ v.nest) : x ∈ v.l := by
  unfold V.nest at h
  split at h
  · exact h
  · simp at h
theorem nest_len (v : V) : v.nest.length ≤ v.l.length := by
  unfold V.nest
  split
  · exact Nat.le_refl _
  · exact Nat.zero_le _
theorem dpt_dep (n : Nat) : ∀ v : V, dep v ≤ n → dpt v ≤ dep v := by
  induction n with
  | zero => intro v h; rw [dep_v] at h; omega
  | succ n ih =>
    intro v h
    rw [dep_v] at h
    rw [dpt_v, dep_v]
    have : dptL v.nest ≤ depL v.l := dptL_le.2 fun x hx => Nat.le_trans (ih x (by have := dep_mem (mem_nest hx); omega)) (dep_mem (mem_nest hx))
    omega
theorem dpt_le_dep (v : V) : dpt v ≤ dep v := dpt_dep (dep v) v (Nat.le_refl _)
theorem dptL_le_depL {l : List V} : dptL l ≤ depL l := dptL_le.2 fun x hx => Nat.le_trans (dpt_le_dep x) (dep_mem hx)
theorem ro_nil (w : World) : Ro w [] (.slice none 0 0) := ⟨none, 0, rfl, ⟨by simp, by simp⟩, .inl rfl⟩
theorem nested_c (v : V) (w : World) (it nm : Value) (hr : R w v it nm) : Calls Try.prog 24 #[av v.h it nm] w (RowP v.nest w) := by
  obtain ⟨ai, ci, an, cn, rfl, rfl⟩ := r_slices hr
  have RA := Lib.hid (show Ro w v.l (.slice ai v.l.length ci) from (rep_v.1 hr).2.2)
  clear hr
  unfold av
  by_cases h5 : v.h.k = 5
  · have e : v.nest = v.l := by unfold V.nest; rw [if_pos (.inl h5)]
    rw [e, h5]
    clear e h5
    go_enter Try.func24, Try.ntmps24
    go_wp2_with fail
    go_ret
    exact ⟨_, rfl, RA.out.low (Gr.alloc (Gr.refl w) _).low, Gr.alloc (Gr.refl w) _⟩
  · by_cases h6 : v.h.k = 6
    · have e : v.nest = v.l := by unfold V.nest; rw [if_pos (.inr h6)]
      rw [e, h6]
      clear e h6 h5
      go_enter Try.func24, Try.ntmps24
      go_wp2_with fail
      go_ret
      exact ⟨_, rfl, RA.out.low (Gr.alloc (Gr.refl w) _).low, Gr.alloc (Gr.refl w) _⟩
    · have e : v.nest = [] := by unfold V.nest; rw [if_neg (by omega)]
      have b5 : (v.h.k == 5) = false := by simpa using h5
      have b6 : (v.h.k == 6) = false := by simpa using h6
      rw [e]
      clear e h5 h6
      go_enter Try.func24, Try.ntmps24
      go_wp2_with fail
      go_ret
      exact ⟨_, rfl, ro_nil _, Gr.alloc (Gr.refl w) _⟩
def DepC (f : Nat) (v : V) : Prop := ∀ (w : World) (it nm : Value), R w v it nm → Calls Try.prog f #[av v.h it nm] w fun e w' => e = .returned (.int .i64 (dpt v : Int)) ∧ Gr w w'
theorem ro_len {w : World} {l : List V} {it : Value} (h : Ro w l it) : ∃ ao cap, it = .slice ao l.length cap ∧ l.length ≤ cap ∧ cap ≤ 9223372036854775807 := by
  obtain ⟨ao, cap, rfl, ⟨h1, h2⟩, -⟩ := h
  exact ⟨ao, cap, rfl, h1, h2⟩
set_option maxHeartbeats 1600000 in
theorem depth_n (n : Nat) (hn : n ≤ 1000000) : ∀ v : V, dep v ≤ n → DepC 11 v := by
  induction n with
  | zero => intro v h; rw [dep_v] at h; omega
  | succ n ih =>
    intro v hd w it nm hr
    have ih' : ∀ x ∈ v.nest, DepC 11 x := fun x hx => ih (by omega) x (by have := dep_mem (mem_nest hx); rw [dep_v] at hd; omega)
    have hb : ∀ i, dptL (v.nest.take i) ≤ 1000000 := fun i => dptL_le.2 fun x hx => by
      have h1 := mem_nest (List.mem_of_mem_take hx)
      have h2 := dep_mem h1
      have h3 := dpt_le_dep x
      rw [dep_v] at hd
      omega
    obtain ⟨ai, ci, an, cn, rfl, rfl⟩ := r_slices hr
    have CN := Lib.hid (nested_c v _ _ _ (hr.low (Gr.alloc (Gr.refl w) (.cells #[.int .i64 v.h.k, .bool v.h.b, .int .i64 v.h.n, .string v.h.s, .string v.h.t, .string v.h.i, .slice ai v.l.length ci, .slice an v.ns.length cn] 29)).low))
    have e : dpt v = dptL v.nest + 1 := dpt_v v
    rw [e]
    clear e hr hd ih
    have HI := Lib.hid ih'
    have HB := Lib.hid hb
    clear ih' hb
    generalize v.nest = l at *
    unfold av at *
    go_enter Try.func11, Try.ntmps11
    go_wp2_with fail
    refine CN.out.mono ?_
    rintro e w1 ⟨ra, rfl, pa, g⟩
    obtain ⟨al, cl, rfl, zl, zc⟩ := ro_len pa
    have G0 := Lib.hid ((Gr.alloc (Gr.refl w) _).trans g)
    have RA := Lib.hid pa
    clear g pa CN
    go_wp2_with fail
    go_loopg [3, 9] l.length (fun gk vd vi wr => ∃ i : Nat, vd = .int .i64 (dptL (l.take i) : Int) ∧ vi = .int .i64 (i : Int) ∧ i ≤ l.length ∧ l.length - i ≤ gk ∧ Hid (Gr w1 wr))
    case atStart => exact ⟨0, rfl, rfl, Nat.zero_le _, Nat.le_refl _, Lib.hid (Gr.refl _)⟩
    case round =>
      obtain ⟨i, rfl, rfl, hi, hg, G⟩ := hrel
      by_cases hlt : i < l.length
      · have z1 : (i : Int) < (l.length : Int) := by omega
        obtain ⟨b, o, bi, di, bn, dn, rfl, hcs, hrx⟩ := ro_at (RA.out.low G.out.low) hlt
        obtain ⟨e0, e1, e2, e3, e4, e5, e6, e7⟩ := cells8 hcs
        have hcon := HI.out l[i] (List.getElem_mem hlt) _ _ _ (hrx.low (Gr.alloc (Gr.refl wr) (.cells #[.int .i64 l[i].h.k, .bool l[i].h.b, .int .i64 l[i].h.n, .string l[i].h.s, .string l[i].h.t, .string l[i].h.i, .slice bi l[i].l.length di, .slice bn l[i].ns.length dn] 29)).low)
        have HC := Lib.hid hcon
        have HT := Lib.hid (dptL_take hlt)
        generalize dptL (l.take i) = q at *
        generalize dpt l[i] = c at *
        clear hcon hcs hrx
        unfold av at HC
        go_wp2_with fail
        refine HC.out.mono ?_
        rintro e w2 ⟨rfl, g⟩
        go_wp2_with fail
        go_roundg (l.length - (i + 1))
        case measure => omega
        case rel => exact ⟨i + 1, by rw [HT.out]; congr 1; omega, by go_num, by omega, by omega, Lib.hid ((Gr.alloc G.out _).trans g)⟩
      · have z1 : ¬ (i : Int) < (l.length : Int) := by omega
        have hq : l.take i = l := List.take_of_length_le (by omega)
        have hb := HB.out l.length
        rw [List.take_length] at hb
        rw [hq]
        clear hq
        obtain ⟨q, hq⟩ : ∃ q, q = dptL l := ⟨_, rfl⟩
        rw [← hq] at hb ⊢
        have HQ := Lib.hid hq
        clear hq
        go_wp2_with fail
        go_ret
        exact ⟨retI (by have := HQ.out; omega), G0.out.trans G.out⟩
theorem depth_c (v : V) (h : dep v ≤ 1000000) : DepC 11 v := depth_n (dep v) h v (Nat.le_refl _)
end Go.Proofs.Ytdblkjcimegoeaa
