/- How deep a value is nested, and whether it is deeper than a number. Condition: a bound on the depth. Whether a value is nested deeper than a number. No condition but that the number is not below 0. Values as they must be, by definition; facts on these that stand on nothing. No condition. -/
import Derived.Test.YtmkillbanmbafaaGreatGetW
import Derived.Test.YtmkillbanmbafaaGreatVals
namespace Go.Proofs.YtmkillbanmbafaaGreat
open Go.RowKit Go.Sort
mutual
/-- Depth, as the document says. -/
def dpt : V → Nat
  | .mk h l _ => if h.k = 5 ∨ h.k = 6 then dptL l + 1 else 1
def dptL : List V → Nat
  | [] => 0
  | x :: l => max (dpt x) (dptL l)
end
/-- What is right inside. -/
def V.nest (v : V) : List V := if v.h.k = 5 ∨ v.h.k = 6 then v.l else []
theorem dpt_v (v : V) : dpt v = dptL v.nest + 1 := by
  cases v with
  | mk h l ns =>
    rw [dpt]
    unfold V.nest
    simp only [V.h, V.l]
    by_cases hk : h.k = 5 ∨ h.k = 6 <;> simp [hk, dptL]
theorem dptL_append (l m : List V) : dptL (l ++ m) = max (dptL l) (dptL m) := by
  induction l with
  | nil => simp [dptL]
  | cons x l ih => rw [List.cons_append, dptL, dptL, ih]; omega
theorem dptL_take {l : List V} {i : Nat} (h : i < l.length) : dptL (l.take (i + 1)) = max (dptL (l.take i)) (dpt l[i]) := by
  rw [List.take_succ_eq_append_getElem h, dptL_append]
  simp [dptL]
theorem dptL_le {l : List V} {n : Nat} : dptL l ≤ n ↔ ∀ x ∈ l, dpt x ≤ n := by
  induction l with
  | nil => simp [dptL]
  | cons x l ih => rw [dptL, Nat.max_le, ih]; simp
theorem mem_nest {v x : V} (h : x ∈ v.nest) : x ∈ v.l := by
  unfold V.nest at h
  split at h
  · exact h
  · simp at h
theorem nest_len (v : V) : v.nest.length ≤ v.l.length := by
  unfold V.nest
  split
  · exact Nat.le_refl _
  · exact Nat.zero_le _
theorem dpt_dep (n : Nat) : ∀ v : V, dep v ≤ n → dpt v ≤ dep v := by
  induction n with
  | zero => intro v h; rw [dep_v] at h; omega
  | succ n ih =>
    intro v h
    rw [dep_v] at h
    rw [dpt_v, dep_v]
    have : dptL v.nest ≤ depL v.l := dptL_le.2 fun x hx => Nat.le_trans (ih x (by have := dep_mem (mem_nest hx); omega)) (dep_mem (mem_nest hx))
    omega
theorem dpt_le_dep (v : V) : dpt v ≤ dep v := dpt_dep (dep v) v (Nat.le_refl _)
theorem dptL_le_depL {l : List V} : dptL l ≤ depL l := dptL_le.2 fun x hx => Nat.le_trans (dpt_le_dep x) (dep_mem hx)
theorem ro_nil (w : World) : Ro w [] (.slice none 0 0) := ⟨none, 0, rfl, ⟨by simp, by simp⟩, .inl rfl⟩
theorem nested_c (v : V) (w : World) (it nm : Value) (hr : R w v it nm) : Calls Tryz.prog 77 #[av v.h it nm] w (RowP v.nest w) := by
  obtain ⟨ai, ci, an, cn, rfl, rfl⟩ := r_slices hr
  have RA := Lib.hid (show Ro w v.l (.slice ai v.l.length ci) from (rep_v.1 hr).2.2)
  clear hr
  unfold av
  by_cases h5 : v.h.k = 5
  · have e : v.nest = v.l := by unfold V.nest; rw [if_pos (.inl h5)]
    rw [e, h5]
    clear e h5
    go_enter Tryz.func77, Tryz.ntmps77
    go_wp2_with fail
    go_ret
    exact ⟨_, rfl, RA.out.low (Gr.alloc (Gr.refl w) _).low, Gr.alloc (Gr.refl w) _⟩
  · by_cases h6 : v.h.k = 6
    · have e : v.nest = v.l := by unfold V.nest; rw [if_pos (.inr h6)]
      rw [e, h6]
      clear e h6 h5
      go_enter Tryz.func77, Tryz.ntmps77
      go_wp2_with fail
      go_ret
      exact ⟨_, rfl, RA.out.low (Gr.alloc (Gr.refl w) _).low, Gr.alloc (Gr.refl w) _⟩
    · have e : v.nest = [] := by unfold V.nest; rw [if_neg (by omega)]
      have b5 : (v.h.k == 5) = false := by simpa using h5
      have b6 : (v.h.k == 6) = false := by simpa using h6
      rw [e]
      clear e h5 h6
      go_enter Tryz.func77, Tryz.ntmps77
      go_wp2_with fail
      go_ret
      exact ⟨_, rfl, ro_nil _, Gr.alloc (Gr.refl w) _⟩
def DepC (f : Nat) (v : V) : Prop := ∀ (w : World) (it nm : Value), R w v it nm → Calls Tryz.prog f #[av v.h it nm] w fun e w' => e = .returned (.int .i64 (dpt v : Int)) ∧ Gr w w'
theorem ro_len {w : World} {l : List V} {it : Value} (h : Ro w l it) : ∃ ao cap, it = .slice ao l.length cap ∧ l.length ≤ cap ∧ cap ≤ 9223372036854775807 := by
  obtain ⟨ao, cap, rfl, ⟨h1, h2⟩, -⟩ := h
  exact ⟨ao, cap, rfl, h1, h2⟩
set_option maxHeartbeats 1600000 in
theorem rDepth_n (n : Nat) (hn : n ≤ 1000000) : ∀ v : V, dep v ≤ n → DepC 50 v := by
  induction n with
  | zero => intro v h; rw [dep_v] at h; omega
  | succ n ih =>
    intro v hd w it nm hr
    obtain ⟨ai, ci, an, cn, rfl, rfl⟩ := r_slices hr
    by_cases hk : v.h.k = 5 ∨ v.h.k = 6
    · have hne : v.nest = v.l := by unfold V.nest; rw [if_pos hk]
      have ih' : ∀ x ∈ v.l, DepC 50 x := fun x hx => ih (by omega) x (by have := dep_mem hx; rw [dep_v] at hd; omega)
      have hb : ∀ i, dptL (v.l.take i) ≤ 1000000 := fun i => dptL_le.2 fun x hx => by
        have h1 := List.mem_of_mem_take hx
        have h2 := dep_mem h1
        have h3 := dpt_le_dep x
        rw [dep_v] at hd
        omega
      have e : dpt v = dptL v.l + 1 := by rw [dpt_v, hne]
      rw [e]
      have RA := Lib.hid (show Ro w v.l (.slice ai v.l.length ci) from (rep_v.1 hr).2.2)
      obtain ⟨zl, zc⟩ : v.l.length ≤ ci ∧ ci ≤ 9223372036854775807 := by obtain ⟨_, _, h, h1, _⟩ := (rep_v.1 hr).2.2; simp only [Value.slice.injEq] at h; obtain ⟨_, _, rfl⟩ := h; exact h1
      clear e hr hd ih hne
      have HI := Lib.hid ih'
      have HB := Lib.hid hb
      clear ih' hb
      unfold av at *
      rcases hk with hk | hk
      all_goals
        have HK := Lib.hid hk
        rw [hk]
        clear hk
        go_enter Tryz.func50, Tryz.ntmps50
        go_wp2_with fail
        go_loopg [3, 4] v.l.length (fun gk vd vi wr => ∃ i : Nat, vd = .int .i64 (dptL (v.l.take i) : Int) ∧ vi = .int .i64 (i : Int) ∧ i ≤ v.l.length ∧ v.l.length - i ≤ gk ∧ Hid (Gr (w.alloc (.cells #[.int .i64 v.h.k, .bool v.h.b, .int .i64 v.h.n, .string v.h.s, .string v.h.t, .string v.h.i, .slice ai v.l.length ci, .slice an v.ns.length cn] 37)) wr))
        case atStart => exact ⟨0, rfl, rfl, Nat.zero_le _, Nat.le_refl _, Lib.hid (by rw [HK.out]; exact Gr.refl _)⟩
        case round =>
          obtain ⟨i, rfl, rfl, hi, hg, G⟩ := hrel
          have f6 := (gr_box G.out).2.2.2.2.2.2.1
          have G0 := Lib.hid ((Gr.alloc (Gr.refl w) _).trans G.out)
          by_cases hlt : i < v.l.length
          · have z1 : (i : Int) < (v.l.length : Int) := by omega
            obtain ⟨b, o, bi, di, bn, dn, rfl, hcs, hrx⟩ := ro_at (RA.out.low G0.out.low) hlt
            obtain ⟨e0, e1, e2, e3, e4, e5, e6, e7⟩ := cells8 hcs
            have hcon := HI.out v.l[i] (List.getElem_mem hlt) _ _ _ hrx
            have HC := Lib.hid hcon
            have HT := Lib.hid (dptL_take hlt)
            generalize dptL (v.l.take i) = q at *
            generalize dpt v.l[i] = c at *
            clear hcon hcs hrx
            unfold av at HC
            go_wp2_with fail
            refine HC.out.mono ?_
            rintro e w2 ⟨rfl, g⟩
            by_cases hqc : q < c
            · have z2 : (q : Int) < (c : Int) := by omega
              go_wp2_with fail
              go_roundg (v.l.length - (i + 1))
              case measure => omega
              case rel => exact ⟨i + 1, by rw [HT.out]; congr 1; omega, by go_num, by omega, by omega, Lib.hid (G.out.trans g)⟩
            · have z2 : ¬ (q : Int) < (c : Int) := by omega
              go_wp2_with fail
              go_roundg (v.l.length - (i + 1))
              case measure => omega
              case rel => exact ⟨i + 1, by rw [HT.out]; congr 1; omega, by go_num, by omega, by omega, Lib.hid (G.out.trans g)⟩
          · have z1 : ¬ (i : Int) < (v.l.length : Int) := by omega
            have hq : v.l.take i = v.l := List.take_of_length_le (by omega)
            have hb := HB.out v.l.length
            rw [List.take_length] at hb
            rw [hq]
            clear hq
            obtain ⟨q, hq⟩ : ∃ q, q = dptL v.l := ⟨_, rfl⟩
            rw [← hq] at hb ⊢
            have HQ := Lib.hid hq
            clear hq
            go_wp2_with fail
            go_ret
            exact ⟨retI (by have := HQ.out; omega), G0.out⟩
    · have e : dpt v = 1 := by rw [dpt_v]; unfold V.nest; rw [if_neg hk]; rfl
      rw [e]
      have b5 : (v.h.k != 5) = true := by simp; omega
      have b6 : (v.h.k != 6) = true := by simp; omega
      clear hr e hk hd ih
      unfold av
      go_enter Tryz.func50, Tryz.ntmps50
      go_wp2_with fail
      go_ret
      exact ⟨rfl, Gr.alloc (Gr.refl w) _⟩
theorem rDepth_c (v : V) (h : dep v ≤ 1000000) : DepC 50 v := rDepth_n (dep v) h v (Nat.le_refl _)
end Go.Proofs.YtmkillbanmbafaaGreat
namespace Go.Proofs.YtmkillbanmbafaaGreat
open Go.RowKit Go.Sort
def DeC (k : Nat) (v : V) : Prop := ∀ (w : World) (it nm : Value), R w v it nm → Calls Tryz.prog 55 #[av v.h it nm, .int .i64 (k : Int)] w fun e w' => e = .returned (.bool (decide (k < dpt v))) ∧ Gr w w'
set_option maxHeartbeats 800000 in
theorem deepC_c (k : Nat) (hk : k < 1000) (x : V) (ih : DeC k x) (bx : Nat) (w : World) (it nm : Value) (hr : R w x it nm) (hb : w.cell? ⟨bx, 0, none⟩ = some (.int .i64 ((k + 1 : Nat) : Int))) :
    Calls Tryz.prog 78 #[av x.h it nm, .pointer (some ⟨bx, 0, none⟩)] w fun e w' => e = .returned (.bool (decide (k < dpt x))) ∧ Gr w w' := by
  obtain ⟨ai, ci, an, cn, rfl, rfl⟩ := r_slices hr
  have HC := Lib.hid (ih _ _ _ (hr.low (Gr.alloc (Gr.refl w) (.cells #[.int .i64 x.h.k, .bool x.h.b, .int .i64 x.h.n, .string x.h.s, .string x.h.t, .string x.h.i, .slice ai x.l.length ci, .slice an x.ns.length cn] 37)).low))
  have hb2 : ∀ X, (w.alloc X).cell? ⟨bx, 0, none⟩ = some (.int .i64 ((k : Int) + 1)) := fun X => (Gr.alloc (Gr.refl w) X).cell (by rw [hb]; simp)
  generalize decide (k < dpt x) = r at HC ⊢
  clear hr hb ih
  unfold av at *
  go_enter Tryz.func78, Tryz.ntmps78
  go_wp2_with fail
  refine HC.out.mono ?_
  rintro e w1 ⟨rfl, g⟩
  go_wp2_with fail
  go_ret
  exact ⟨rfl, (Gr.alloc (Gr.refl w) _).trans g⟩
set_option maxHeartbeats 1600000 in
theorem deeper_n (k : Nat) (hk : k < 1000) : ∀ v : V, DeC k v := by
  induction k with
  | zero =>
    intro v w it nm hr
    obtain ⟨ai, ci, an, cn, rfl, rfl⟩ := r_slices hr
    have e : decide (0 < dpt v) = true := by rw [dpt_v]; simp
    rw [e]
    clear hr e hk
    unfold av
    go_enter Tryz.func55, Tryz.ntmps55
    go_wp2_with fail
    go_ret
    exact ⟨rfl, Gr.alloc (Gr.alloc (Gr.refl w) _) _⟩
  | succ k ih =>
    intro v w it nm hr
    obtain ⟨ai, ci, an, cn, rfl, rfl⟩ := r_slices hr
    have e : decide (k + 1 < dpt v) = v.nest.any fun x => decide (k < dpt x) := by
      rw [dpt_v, Bool.eq_iff_iff]
      simp only [decide_eq_true_eq, List.any_eq_true]
      constructor
      · intro h
        rcases Classical.em (∃ x, x ∈ v.nest ∧ k < dpt x) with h1 | h1
        · exact h1
        · have : dptL v.nest ≤ k := dptL_le.2 fun x hx => by
            rcases Nat.lt_or_ge k (dpt x) with h2 | h2
            · exact absurd ⟨x, hx, h2⟩ h1
            · exact h2
          omega
      · rintro ⟨x, hx, h⟩
        have := (dptL_le (n := dptL v.nest)).1 (Nat.le_refl _) x hx
        omega
    have CN := Lib.hid fun W (h : Low w W) => nested_c v W _ _ (hr.low h)
    have CO := Lib.hid fun W ra (h : Ro W v.nest ra) (hb : W.cell? ⟨w.heap.size + 1, 0, none⟩ = some (.int .i64 ((k + 1 : Nat) : Int))) => conD_c (fun x => decide (k < dpt x)) (w.heap.size + 1) v.nest W (fun x hx w' hg it nm hr => deepC_c k (by omega) x (ih (by omega) x) _ w' it nm hr (hg.cell hb)) ra h
    rw [e]
    clear e ih hr
    generalize (v.nest.any fun x => decide (k < dpt x)) = r at CO ⊢
    obtain ⟨W, hW⟩ : ∃ W, W = (w.alloc (.cells #[.int .i64 v.h.k, .bool v.h.b, .int .i64 v.h.n, .string v.h.s, .string v.h.t, .string v.h.i, .slice ai v.l.length ci, .slice an v.ns.length cn] 37)).alloc (.cells #[.int .i64 ((k : Int) + 1)] 3) := ⟨_, rfl⟩
    have hg : Gr w W := hW ▸ Gr.alloc (Gr.alloc (Gr.refl w) _) _
    have hb : W.cell? ⟨w.heap.size + 1, 0, none⟩ = some (.int .i64 ((k : Int) + 1)) := by rw [hW]; simp [go_sem]
    unfold av at *
    go_enter Tryz.func55, Tryz.ntmps55
    go_wp2_with fail
    rw [← hW]
    clear hW
    refine (CN.out _ hg.low).mono ?_
    rintro e w1 ⟨ra, rfl, pa, g⟩
    have hb1 := g.cell hb
    go_wp2_with fail
    refine (CO.out _ _ pa hb1).mono ?_
    rintro e w2 ⟨rfl, g2⟩
    go_wp2_with fail
    go_ret
    exact ⟨rfl, hg.trans (g.trans g2)⟩
theorem deeper_c (v : V) (w : World) (it nm : Value) (hr : R w v it nm) : Calls Tryz.prog 55 #[av v.h it nm, .int .i64 50] w fun e w' => e = .returned (.bool (decide (50 < dpt v))) ∧ Gr w w' := deeper_n 50 (by decide) v w it nm hr
end Go.Proofs.YtmkillbanmbafaaGreat
namespace Go.Proofs.YtmkillbanmbafaaGreat
def cmpP (p q : ByteArray × V) : Int := cmpT p.1 q.1
theorem good_pair : Good cmpP fun _ => True := good_text.pull fun p : ByteArray × V => p.1
def recC (ns : List ByteArray) (m : List V) : Int × V :=
  if ns.Nodup then (0, .mk { hd0 with k := 6 } ((uniq cmpP (ns.zip m)).map (·.2)) ((uniq cmpP (ns.zip m)).map (·.1))) else (13, V0)
/-- No more than so many. -/
def limL (n : Nat) (p : Int × List V) : Int × List V := if p.1 = 0 then (if 4096 < n then (12, []) else p) else p
mutual
/-- A value as it must be: an error's number, or 0 and the value. -/
def can : V → Int × V
  | .mk h l ns =>
    if h.k = 1 then (0, .mk { hd0 with k := 1, b := h.b } [] [])
    else if h.k = 2 then (0, .mk { hd0 with k := 2, n := h.n } [] [])
    else if h.k = 3 then (0, .mk { hd0 with k := 3, s := h.s } [] [])
    else if h.k = 4 then (0, .mk { hd0 with k := 4, t := h.t, i := h.i } [] [])
    else if h.k = 5 then if (limL l.length (canK l)).1 = 0 then (0, .mk { hd0 with k := 5 } (uniq ord (limL l.length (canK l)).2) []) else ((limL l.length (canK l)).1, V0)
    else if h.k = 6 then if ns.length = l.length then (if (limL l.length (canK l)).1 = 0 then recC ns (limL l.length (canK l)).2 else ((limL l.length (canK l)).1, V0)) else (1, V0)
    else (1, V0)
/-- Items as they must be, up to the first error. -/
def canK : List V → Int × List V
  | [] => (0, [])
  | x :: l => if (can x).1 = 0 then (if (canK l).1 = 0 then (0, (can x).2 :: (canK l).2) else ((canK l).1, [])) else ((can x).1, [])
end
/-- Items as they must be, up to the first error; how many they are is asked last. -/
def canL (l : List V) : Int × List V := limL l.length (canK l)
theorem can_v (v : V) : can v =
    if v.h.k = 1 then (0, .mk { hd0 with k := 1, b := v.h.b } [] [])
    else if v.h.k = 2 then (0, .mk { hd0 with k := 2, n := v.h.n } [] [])
    else if v.h.k = 3 then (0, .mk { hd0 with k := 3, s := v.h.s } [] [])
    else if v.h.k = 4 then (0, .mk { hd0 with k := 4, t := v.h.t, i := v.h.i } [] [])
    else if v.h.k = 5 then if (canL v.l).1 = 0 then (0, .mk { hd0 with k := 5 } (uniq ord (canL v.l).2) []) else ((canL v.l).1, V0)
    else if v.h.k = 6 then if v.ns.length = v.l.length then (if (canL v.l).1 = 0 then recC v.ns (canL v.l).2 else ((canL v.l).1, V0)) else (1, V0)
    else (1, V0) := by cases v; rw [can]; rfl
theorem canK_ok : ∀ {l : List V}, (canK l).1 = 0 → (∀ x ∈ l, (can x).1 = 0) ∧ (canK l).2 = l.map fun x => (can x).2
  | [], _ => by simp [canK]
  | x :: l, h => by
    rw [canK] at h ⊢
    by_cases h1 : (can x).1 = 0
    · rw [if_pos h1] at h ⊢
      by_cases h2 : (canK l).1 = 0
      · rw [if_pos h2]
        obtain ⟨h3, h4⟩ := canK_ok h2
        exact ⟨fun y hy => by
          rcases List.mem_cons.1 hy with rfl | hy
          · exact h1
          · exact h3 y hy, by rw [List.map_cons, h4]⟩
      · rw [if_neg h2] at h; exact absurd h h2
    · rw [if_neg h1] at h; exact absurd h h1
theorem canK_of : ∀ {l : List V}, (∀ x ∈ l, (can x).1 = 0) → canK l = (0, l.map fun x => (can x).2)
  | [], _ => by simp [canK]
  | x :: l, h => by
    rw [canK, if_pos (h x (by simp)), canK_of fun y hy => h y (by simp [hy])]
    rfl
theorem canL_eq {l : List V} (h : (canL l).1 = 0) : (canK l).1 = 0 ∧ canL l = canK l ∧ l.length ≤ 4096 := by
  unfold canL limL at h ⊢
  by_cases h1 : (canK l).1 = 0
  · rw [if_pos h1] at h ⊢
    by_cases h2 : 4096 < l.length
    · rw [if_pos h2] at h; simp at h
    · rw [if_neg h2]; exact ⟨h1, rfl, by omega⟩
  · rw [if_neg h1] at h; exact absurd h h1
theorem canL_ok {l : List V} (h : (canL l).1 = 0) : (∀ x ∈ l, (can x).1 = 0) ∧ (canL l).2 = l.map fun x => (can x).2 := by
  obtain ⟨h1, h2, -⟩ := canL_eq h
  rw [h2]; exact canK_ok h1
theorem canL_of {l : List V} (hn : l.length ≤ 4096) (h : ∀ x ∈ l, (can x).1 = 0) : canL l = (0, l.map fun x => (can x).2) := by
  unfold canL limL
  rw [canK_of h, if_pos rfl, if_neg (by omega)]
theorem canL_long {l : List V} (hn : 4096 < l.length) (h : ∀ x ∈ l, (can x).1 = 0) : canL l = (12, []) := by
  unfold canL limL
  rw [canK_of h, if_pos rfl, if_pos hn]
theorem canL_len {l : List V} (h : (canL l).1 = 0) : (canL l).2.length = l.length := by rw [(canL_ok h).2, List.length_map]
theorem canL_le {l : List V} (h : (canL l).1 = 0) : l.length ≤ 4096 := (canL_eq h).2.2
mutual
/-- Only what a kind has. -/
def Cn : V → Prop
  | .mk h l ns => (h = { hd0 with k := 1, b := h.b } ∧ l = [] ∧ ns = []) ∨ (h = { hd0 with k := 2, n := h.n } ∧ l = [] ∧ ns = []) ∨ (h = { hd0 with k := 3, s := h.s } ∧ l = [] ∧ ns = []) ∨
      (h = { hd0 with k := 4, t := h.t, i := h.i } ∧ l = [] ∧ ns = []) ∨ (h = { hd0 with k := 5 } ∧ ns = [] ∧ CnL l) ∨ (h = { hd0 with k := 6 } ∧ ns.length = l.length ∧ CnL l)
def CnL : List V → Prop
  | [] => True
  | x :: l => Cn x ∧ CnL l
end
theorem cnL_iff {l : List V} : CnL l ↔ ∀ x ∈ l, Cn x := by
  induction l with
  | nil => simp [CnL]
  | cons y l ih => simp [CnL, ih]
theorem cn_v {v : V} : Cn v ↔ (v.h = { hd0 with k := 1, b := v.h.b } ∧ v.l = [] ∧ v.ns = []) ∨ (v.h = { hd0 with k := 2, n := v.h.n } ∧ v.l = [] ∧ v.ns = []) ∨ (v.h = { hd0 with k := 3, s := v.h.s } ∧ v.l = [] ∧ v.ns = []) ∨
      (v.h = { hd0 with k := 4, t := v.h.t, i := v.h.i } ∧ v.l = [] ∧ v.ns = []) ∨ (v.h = { hd0 with k := 5 } ∧ v.ns = [] ∧ ∀ x ∈ v.l, Cn x) ∨ (v.h = { hd0 with k := 6 } ∧ v.ns.length = v.l.length ∧ ∀ x ∈ v.l, Cn x) := by
  cases v; rw [Cn, cnL_iff]; rfl
theorem cn_named {v : V} (h : v.ns.length = v.l.length) : v.named = v.l := by unfold V.named; rw [h, Nat.min_self, List.take_length]
theorem v_ext {a b : V} (h1 : a.h = b.h) (h2 : a.l = b.l) (h3 : a.ns = b.ns) : a = b := by rw [a.eta, b.eta, h1, h2, h3]
theorem kd {h : Hd} {k : Int} {b : Bool} {n : Int} {s t i : ByteArray} (e : h = ⟨k, b, n, s, t, i⟩) : h.k = k := by rw [e]
/-- Values with only what a kind has, that are the same, are equal. -/
theorem ord_zero_n (n : Nat) : ∀ a b : V, dep a ≤ n → Cn a → Cn b → ord a b = 0 → a = b := by
  induction n with
  | zero => intro a b h; rw [dep_v] at h; omega
  | succ n ih =>
    intro a b hd ha hb h
    rw [ord_body, orI_zero] at h
    obtain ⟨h0, h1⟩ := h
    have hk := cmpI_zero h0
    have hL : (∀ x ∈ a.l, Cn x) → (∀ x ∈ b.l, Cn x) → ordL a.l b.l = 0 → a.l = b.l := fun h2 h3 h4 => by
      rw [ordL_lex] at h4
      have hS : ∀ x ∈ a.l, Cn x ∧ dep x ≤ n := fun x hx => ⟨h2 x hx, by have := dep_mem hx; rw [dep_v] at hd; omega⟩
      have : ∀ (l m : List V), (∀ x ∈ l, Cn x ∧ dep x ≤ n) → (∀ x ∈ m, Cn x) → lex ord l m = 0 → l = m := by
        intro l
        induction l with
        | nil => intro m _ _ h; cases m with
          | nil => rfl
          | cons y m => simp [lex] at h
        | cons x l ihl =>
          intro m hl hm h
          cases m with
          | nil => simp [lex] at h
          | cons y m =>
            rw [lex, orI_zero] at h
            rw [ih x y (hl x (by simp)).2 (hl x (by simp)).1 (hm y (by simp)) h.1, ihl m (fun z hz => hl z (by simp [hz])) (fun z hz => hm z (by simp [hz])) h.2]
      exact this _ _ hS h3 h4
    rw [cn_v] at ha hb
    rcases ha with ⟨ea, la, na⟩ | ⟨ea, la, na⟩ | ⟨ea, la, na⟩ | ⟨ea, la, na⟩ | ⟨ea, na, la⟩ | ⟨ea, na, la⟩ <;>
    rcases hb with ⟨eb, lb, nb⟩ | ⟨eb, lb, nb⟩ | ⟨eb, lb, nb⟩ | ⟨eb, lb, nb⟩ | ⟨eb, nb, lb⟩ | ⟨eb, nb, lb⟩ <;>
    have ka := kd ea <;> have kb := kd eb <;> (first | (exfalso; omega) | skip)
    · refine v_ext ?_ (la.trans lb.symm) (na.trans nb.symm)
      rw [ka] at h1
      have : a.h.b = b.h.b := cmpB_zero h1
      rw [ea, eb, this]
    · refine v_ext ?_ (la.trans lb.symm) (na.trans nb.symm)
      rw [ka] at h1
      have : a.h.n = b.h.n := cmpI_zero h1
      rw [ea, eb, this]
    · refine v_ext ?_ (la.trans lb.symm) (na.trans nb.symm)
      rw [ka] at h1
      have : a.h.s = b.h.s := cmpT_zero h1
      rw [ea, eb, this]
    · refine v_ext ?_ (la.trans lb.symm) (na.trans nb.symm)
      rw [ka] at h1
      have h2 : orI (cmpT a.h.t b.h.t) (cmpT a.h.i b.h.i) = 0 := h1
      rw [orI_zero] at h2
      rw [ea, eb, cmpT_zero h2.1, cmpT_zero h2.2]
    · rw [ka] at h1
      exact v_ext (ea.trans eb.symm) (hL la lb h1) (na.trans nb.symm)
    · rw [ka] at h1
      have h2 : orI (cmpN a.ns b.ns) (ordL a.named b.named) = 0 := h1
      rw [orI_zero, cn_named na, cn_named nb] at h2
      exact v_ext (ea.trans eb.symm) (hL la lb h2.2) (cmpN_zero h2.1)
theorem ord_zero {a b : V} (ha : Cn a) (hb : Cn b) (h : ord a b = 0) : a = b := ord_zero_n (dep a) a b (Nat.le_refl _) ha hb h
theorem good_cn : Good ord Cn := good_ord.mono fun _ _ => trivial
theorem mem_zip_snd {ns : List ByteArray} {m : List V} {p : ByteArray × V} (h : p ∈ ns.zip m) : p.2 ∈ m := (List.of_mem_zip h).2
theorem uniq_sub {α : Type} {c : α → α → Int} {z : α} : ∀ {l : List α}, z ∈ uniq c l → z ∈ l := by
  have gen : ∀ (l acc : List α), z ∈ l.foldl (fun acc x => ins c x acc) acc → z ∈ l ∨ z ∈ acc := by
    intro l
    induction l with
    | nil => intro acc h; exact .inr h
    | cons x l ih =>
      intro acc h
      rcases ih _ h with h | h
      · exact .inl (by simp [h])
      · rcases ins_sub h with rfl | h
        · exact .inl (by simp)
        · exact .inr h
  intro l h
  rcases gen l [] h with h | h
  · exact h
  · simp at h
theorem can_cn_n (n : Nat) : ∀ v : V, dep v ≤ n → (can v).1 = 0 → Cn (can v).2 := by
  induction n with
  | zero => intro v h; rw [dep_v] at h; omega
  | succ n ih =>
    intro v hd h
    have hI : (canL v.l).1 = 0 → ∀ x ∈ (canL v.l).2, Cn x := fun h0 x hx => by
      obtain ⟨h1, h2⟩ := canL_ok h0
      rw [h2] at hx
      obtain ⟨y, hy, rfl⟩ := List.mem_map.1 hx
      exact ih y (by have := dep_mem hy; rw [dep_v] at hd; omega) (h1 y hy)
    rw [can_v] at h ⊢
    by_cases k1 : v.h.k = 1
    · rw [if_pos k1]; rw [cn_v]; exact .inl ⟨rfl, rfl, rfl⟩
    rw [if_neg k1] at h ⊢
    by_cases k2 : v.h.k = 2
    · rw [if_pos k2]; rw [cn_v]; exact .inr (.inl ⟨rfl, rfl, rfl⟩)
    rw [if_neg k2] at h ⊢
    by_cases k3 : v.h.k = 3
    · rw [if_pos k3]; rw [cn_v]; exact .inr (.inr (.inl ⟨rfl, rfl, rfl⟩))
    rw [if_neg k3] at h ⊢
    by_cases k4 : v.h.k = 4
    · rw [if_pos k4]; rw [cn_v]; exact .inr (.inr (.inr (.inl ⟨rfl, rfl, rfl⟩)))
    rw [if_neg k4] at h ⊢
    by_cases k5 : v.h.k = 5
    · rw [if_pos k5] at h ⊢
      by_cases h0 : (canL v.l).1 = 0
      · rw [if_pos h0]
        rw [cn_v]
        exact .inr (.inr (.inr (.inr (.inl ⟨rfl, rfl, fun x hx => hI h0 x (uniq_sub hx)⟩))))
      · rw [if_neg h0] at h; exact absurd h h0
    rw [if_neg k5] at h ⊢
    by_cases k6 : v.h.k = 6
    · rw [if_pos k6] at h ⊢
      by_cases hn : v.ns.length = v.l.length
      · rw [if_pos hn] at h ⊢
        by_cases h0 : (canL v.l).1 = 0
        · rw [if_pos h0] at h ⊢
          unfold recC at h ⊢
          by_cases hd : v.ns.Nodup
          · rw [if_pos hd]
            rw [cn_v]
            refine .inr (.inr (.inr (.inr (.inr ⟨rfl, by simp [V.ns, V.l], fun x hx => ?_⟩))))
            obtain ⟨p, hp, rfl⟩ := List.mem_map.1 hx
            exact hI h0 _ (mem_zip_snd (uniq_sub hp))
          · rw [if_neg hd] at h; simp at h
        · rw [if_neg h0] at h; exact absurd h h0
      · rw [if_neg hn] at h; simp at h
    · rw [if_neg k6] at h; simp at h
theorem can_cn {v : V} (h : (can v).1 = 0) : Cn (can v).2 := can_cn_n (dep v) v (Nat.le_refl _) h
theorem canL_cn {l : List V} (h : (canL l).1 = 0) : ∀ x ∈ (canL l).2, Cn x := fun x hx => by
  obtain ⟨h1, h2⟩ := canL_ok h
  rw [h2] at hx
  obtain ⟨y, hy, rfl⟩ := List.mem_map.1 hx
  exact can_cn (h1 y hy)
end Go.Proofs.YtmkillbanmbafaaGreat
