/- A record's attribute of a name, as the program finds it and as the reference does. No condition. How deep a value is nested, and whether it is deeper than a number. Condition: a bound on the depth. Whether a value is nested deeper than a number. No condition but that the number is not below 0. Values as they must be, by definition; facts on these that stand on nothing. No condition. Values in a row of the call's own. No condition. The items of a value as they must be. Condition: all rows are short. Boxes of the call's own; what a call leaves that turns one block. No condition. A row that a call made itself, sorted by the library. No condition. A value stored into a row of the call's own; what is behind a row's first ones cleared. No condition. Of those in a row that are the same, the first of each run: what CompactFunc leaves. No condition. -/
import Derived.Test.YtnchohglplobeaaGreatZg05
import Derived.Test.YtnchohglplobeaaGreatSort
import Derived.Lib.SlicesS
import Derived.Laws.OwnMore
import Derived.Shelf.SlSortCmp.WholeK
set_option linter.unusedVariables false
set_option linter.unusedSimpArgs false
set_option linter.unnecessarySimpa false
namespace Go.Proofs.YtnchohglplobeaaGreat
open Go.RowKit Go.Sort
def hd0 : Hd := ⟨0, false, 0, ⟨#[]⟩, ⟨#[]⟩, ⟨#[]⟩⟩
def V0 : V := .mk hd0 [] []
theorem r_V0 (w : World) : R w V0 (.slice none 0 0) (.slice none 0 0) := by
 unfold R V0
 rw [Rep]
 exact ⟨⟨by decide, by decide, by decide⟩, ⟨none, 0, rfl, by simp, by simp, .inl rfl⟩, none, 0, rfl, ⟨by simp, by simp⟩, .inl rfl⟩
def getI (v : V) (x : ByteArray) : Int := if v.h.k = 6 then (if Lib.idxOfS v.ns x < 0 ∨ (v.l.length : Int) ≤ Lib.idxOfS v.ns x then -1 else Lib.idxOfS v.ns x) else -1
def getV (v : V) (x : ByteArray) : V := if 0 ≤ getI v x then v.l.getD (getI v x).toNat V0 else V0
theorem sIdx_c (ns : List ByteArray) (x : ByteArray) (w : World) (nm : Value) (h : Na w ns nm) : Calls Tryz.prog 180 #[nm, .string x] w fun e w' => e = .returned (.int .i64 (Lib.idxOfS ns x)) ∧ w = w' := by
 obtain ⟨ao, cap, rfl, hl, -, hx⟩ := h
 rcases hx with h0 | ⟨b, o, rfl, -, hc⟩
 ·subst h0
  exact (Tryz.slices_Index_string_empty ao cap x w).mono fun _ _ ⟨h, k⟩ => ⟨h, k.symm⟩
 ·have h := Tryz.slices_Index_string b o ns.length cap ns x w (Nat.le_refl _) (by omega) fun j hj => by rw [hc j hj]; simp [List.getD, List.getElem?_eq_getElem hj]
  rw [List.take_length] at h
  exact h.mono fun _ _ ⟨h, k⟩ => ⟨h, k.symm⟩
def GetP (x : V) (b : Bool) (w : World) (e : Ending) (w' : World) : Prop := ∃ it nm, e = .returned (.tuple #[avv x.h it nm, .bool b]) ∧ R w' x it nm ∧ Gr w w'
set_option maxHeartbeats 1600000 in
theorem get_c (v : V) (x : ByteArray) (w : World) (it nm : Value) (hr : R w v it nm) : Calls Tryz.prog 143 #[avv v.h it nm, .string x] w (GetP (getV v x) (decide (0 ≤ getI v x)) w) := by
 obtain ⟨ai, ci, an, cn, rfl, rfl⟩ := r_slices hr
 have NA := Lib.hid (show Na w v.ns (.slice an v.ns.length cn) from (rep_v.1 hr).2.1)
 have RA := Lib.hid (show Ro w v.l (.slice ai v.l.length ci) from (rep_v.1 hr).2.2)
 clear hr
 by_cases hk : v.h.k = 6
 ·obtain ⟨j, hj⟩ : ∃ j, j = Lib.idxOfS v.ns x := ⟨_, rfl⟩
  have CI := Lib.hid fun W h => sIdx_c v.ns x W (.slice an v.ns.length cn) h
  rw [← hj] at CI
  have hgi : getI v x = if j < 0 ∨ (v.l.length : Int) ≤ j then -1 else j := by rw [hj]; unfold getI; rw [if_pos hk]
  clear hj
  by_cases h1 : j < 0
  ·have e1 : getI v x = -1 := by rw [hgi, if_pos (.inl h1)]
   have e2 : getV v x = V0 := by unfold getV; rw [e1]; rfl
   have e3 : decide (0 ≤ getI v x) = false := by rw [e1]; rfl
   rw [e2, e3]
   unfold avv
   rw [hk]
   clear e1 e2 e3
   clear hgi hk
   go_enter Tryz.func143, Tryz.ntmps143
   go_wp2_with fail
   refine (CI.out _ (NA.out.low ((Gr.alloc (Gr.alloc (Gr.refl w) _) _).low))).mono ?_
   rintro e w' ⟨rfl, rfl⟩
   go_wp2_with fail
   refine bodyPost_ret (v := .tuple #[.agg #[.int .i64 0, .bool false, .int .i64 0, .string ⟨#[]⟩, .string ⟨#[]⟩, .string ⟨#[]⟩, .slice none 0 0, .slice none 0 0], .bool false]) (by simp [results, Tryz.results143, go_sem]; try rfl) rfl ?_
   exact ⟨_, _, rfl, r_V0 _, Gr.alloc (Gr.alloc (Gr.refl w) _) _⟩
  ·by_cases h2 : (v.l.length : Int) ≤ j
   ·have e1 : getI v x = -1 := by rw [hgi, if_pos (.inr h2)]
    have e2 : getV v x = V0 := by unfold getV; rw [e1]; rfl
    have e3 : decide (0 ≤ getI v x) = false := by rw [e1]; rfl
    rw [e2, e3]
    unfold avv
    rw [hk]
    clear e1 e2 e3
    clear hgi hk
    go_enter Tryz.func143, Tryz.ntmps143
    go_wp2_with fail
    refine (CI.out _ (NA.out.low ((Gr.alloc (Gr.alloc (Gr.refl w) _) _).low))).mono ?_
    rintro e w' ⟨rfl, rfl⟩
    go_wp2_with fail
    refine bodyPost_ret (v := .tuple #[.agg #[.int .i64 0, .bool false, .int .i64 0, .string ⟨#[]⟩, .string ⟨#[]⟩, .string ⟨#[]⟩, .slice none 0 0, .slice none 0 0], .bool false]) (by simp [results, Tryz.results143, go_sem]; try rfl) rfl ?_
    exact ⟨_, _, rfl, r_V0 _, Gr.alloc (Gr.alloc (Gr.refl w) _) _⟩
   ·have e1 : getI v x = j := by rw [hgi, if_neg (by omega)]
    obtain ⟨q, rfl⟩ : ∃ q : Nat, j = q := ⟨j.toNat, by omega⟩
    have hq : q < v.l.length := by omega
    have e2 : getV v x = v.l[q] := by unfold getV; rw [e1, if_pos (by omega)]; simp [List.getD, List.getElem?_eq_getElem hq]
    have e3 : decide (0 ≤ getI v x) = true := by rw [e1]; simp
    rw [e2, e3]
    clear e1 e2 e3 h1
    have h3 : (q : Int) < (v.l.length : Int) := by omega
    obtain ⟨b, o, bi, di, bn, dn, rfl, hcs, hrx⟩ := ro_at RA.out hq
    have k8 : ∀ X Y, CellsAtv ((w.alloc X).alloc Y) b (o + q * 8) (hdc v.l[q].h (.slice bi v.l[q].l.length di) (.slice bn v.l[q].ns.length dn)) := fun X Y => (Gr.alloc (Gr.alloc (Gr.refl w) _) _).low.cells hcs
    have c0 := fun X Y => (cells8 (k8 X Y)).1
    have c1 := fun X Y => (cells8 (k8 X Y)).2.1
    have c2 := fun X Y => (cells8 (k8 X Y)).2.2.1
    have c3 := fun X Y => (cells8 (k8 X Y)).2.2.2.1
    have c4 := fun X Y => (cells8 (k8 X Y)).2.2.2.2.1
    have c5 := fun X Y => (cells8 (k8 X Y)).2.2.2.2.2.1
    have c6 := fun X Y => (cells8 (k8 X Y)).2.2.2.2.2.2.1
    have c7 := fun X Y => (cells8 (k8 X Y)).2.2.2.2.2.2.2
    have HX := Lib.hid hrx
    clear hcs hrx k8 hgi
    unfold avv
    rw [hk]
    clear hk
    go_enter Tryz.func143, Tryz.ntmps143
    go_wp2_with fail
    refine (CI.out _ (NA.out.low ((Gr.alloc (Gr.alloc (Gr.refl w) _) _).low))).mono ?_
    rintro e w' ⟨rfl, rfl⟩
    go_wp2_with fail
    refine bodyPost_ret (v := .tuple #[.agg #[.int .i64 v.l[q].h.k, .bool v.l[q].h.b, .int .i64 v.l[q].h.n, .string v.l[q].h.s, .string v.l[q].h.t, .string v.l[q].h.i, .slice bi v.l[q].l.length di, .slice bn v.l[q].ns.length dn], .bool true]) (by simp [results, Tryz.results143, go_sem]; try rfl) rfl ?_
    exact ⟨_, _, rfl, HX.out.low (Gr.alloc (Gr.alloc (Gr.refl w) _) _).low, Gr.alloc (Gr.alloc (Gr.refl w) _) _⟩
 ·have e1 : getI v x = -1 := by unfold getI; rw [if_neg hk]
  have e2 : getV v x = V0 := by unfold getV; rw [e1]; rfl
  have e3 : decide (0 ≤ getI v x) = false := by rw [e1]; rfl
  rw [e2, e3]
  unfold avv
  clear e1 e2 e3
  go_enter Tryz.func143, Tryz.ntmps143
  go_wp2_with fail
  refine bodyPost_ret (v := .tuple #[.agg #[.int .i64 0, .bool false, .int .i64 0, .string ⟨#[]⟩, .string ⟨#[]⟩, .string ⟨#[]⟩, .slice none 0 0, .slice none 0 0], .bool false]) (by simp [results, Tryz.results143, go_sem]; try rfl) rfl ?_
  exact ⟨_, _, rfl, r_V0 _, Gr.alloc (Gr.alloc (Gr.refl w) _) _⟩
end Go.Proofs.YtnchohglplobeaaGreat
namespace Go.Proofs.YtnchohglplobeaaGreat
open Go.RowKit Go.Sort
mutual
def dptv : V → Nat
 | .mk h l _ => if h.k = 5 ∨ h.k = 6 then dptL l + 1 else 1
def dptL : List V → Nat
 | [] => 0
 | x :: l => max (dptv x) (dptL l)
end
def V.nest (v : V) : List V := if v.h.k = 5 ∨ v.h.k = 6 then v.l else []
theorem dpt_v (v : V) : dptv v = dptL v.nest + 1 := by
 cases v with
 | mk h l ns =>
  rw [dptv]
  unfold V.nest
  simp only [V.h, V.l]
  by_cases hk : h.k = 5 ∨ h.k = 6 <;> simp [hk, dptL]
theorem dptL_le {l : List V} {n : Nat} : dptL l ≤ n ↔ ∀ x ∈ l, dptv x ≤ n := by
 induction l with
 | nil => simp [dptL]
 | cons x l ih => rw [dptL, Nat.max_le, ih]; simp
theorem ro_nil (w : World) : Ro w [] (.slice none 0 0) := ⟨none, 0, rfl, ⟨by simp, by simp⟩, .inl rfl⟩
theorem nested_c (v : V) (w : World) (it nm : Value) (hr : R w v it nm) : Calls Tryz.prog 137 #[avv v.h it nm] w (RowP v.nest w) := by
 obtain ⟨ai, ci, an, cn, rfl, rfl⟩ := r_slices hr
 have RA := Lib.hid (show Ro w v.l (.slice ai v.l.length ci) from (rep_v.1 hr).2.2)
 clear hr
 unfold avv
 by_cases h5 : v.h.k = 5
 ·have e : v.nest = v.l := by unfold V.nest; rw [if_pos (.inl h5)]
  rw [e, h5]
  clear e h5
  go_enter Tryz.func137, Tryz.ntmps137
  go_wp2_with fail
  go_ret
  exact ⟨_, rfl, RA.out.low (Gr.alloc (Gr.refl w) _).low, Gr.alloc (Gr.refl w) _⟩
 ·by_cases h6 : v.h.k = 6
  ·have e : v.nest = v.l := by unfold V.nest; rw [if_pos (.inr h6)]
   rw [e, h6]
   clear e h6 h5
   go_enter Tryz.func137, Tryz.ntmps137
   go_wp2_with fail
   go_ret
   exact ⟨_, rfl, RA.out.low (Gr.alloc (Gr.refl w) _).low, Gr.alloc (Gr.refl w) _⟩
  ·have e : v.nest = [] := by unfold V.nest; rw [if_neg (by omega)]
   have b5 : (v.h.k == 5) = false := by simpa using h5
   have b6 : (v.h.k == 6) = false := by simpa using h6
   rw [e]
   clear e h5 h6
   go_enter Tryz.func137, Tryz.ntmps137
   go_wp2_with fail
   go_ret
   exact ⟨_, rfl, ro_nil _, Gr.alloc (Gr.refl w) _⟩
theorem ro_len {w : World} {l : List V} {it : Value} (h : Ro w l it) : ∃ ao cap, it = .slice ao l.length cap ∧ l.length ≤ cap ∧ cap ≤ 9223372036854775807 := by
 obtain ⟨ao, cap, rfl, ⟨h1, h2⟩, -⟩ := h
 exact ⟨ao, cap, rfl, h1, h2⟩
end Go.Proofs.YtnchohglplobeaaGreat
namespace Go.Proofs.YtnchohglplobeaaGreat
open Go.RowKit Go.Sort
def DeC (k : Nat) (v : V) : Prop := ∀ (w : World) (it nm : Value), R w v it nm → Calls Tryz.prog 95 #[avv v.h it nm, .int .i64 (k : Int)] w fun e w' => e = .returned (.bool (decide (k < dptv v))) ∧ Gr w w'
set_option maxHeartbeats 800000 in
theorem deepC_c (k : Nat) (hk : k < 1000) (x : V) (ih : DeC k x) (bx : Nat) (w : World) (it nm : Value) (hr : R w x it nm) (hb : w.cell? ⟨bx, 0, none⟩ = some (.int .i64 ((k + 1 : Nat) : Int))) :
  Calls Tryz.prog 138 #[avv x.h it nm, .pointer (some ⟨bx, 0, none⟩)] w fun e w' => e = .returned (.bool (decide (k < dptv x))) ∧ Gr w w' := by
 obtain ⟨ai, ci, an, cn, rfl, rfl⟩ := r_slices hr
 have HC := Lib.hid (ih _ _ _ (hr.low (Gr.alloc (Gr.refl w) (.cells #[.int .i64 x.h.k, .bool x.h.b, .int .i64 x.h.n, .string x.h.s, .string x.h.t, .string x.h.i, .slice ai x.l.length ci, .slice an x.ns.length cn] 27)).low))
 have hb2 : ∀ X, (w.alloc X).cell? ⟨bx, 0, none⟩ = some (.int .i64 ((k : Int) + 1)) := fun X => (Gr.alloc (Gr.refl w) X).cell (by rw [hb]; simp)
 generalize decide (k < dptv x) = r at HC ⊢
 clear hr hb ih
 unfold avv at *
 go_enter Tryz.func138, Tryz.ntmps138
 go_wp2_with fail
 refine HC.out.mono ?_
 rintro e w1 ⟨rfl, g⟩
 go_wp2_with fail
 go_ret
 exact ⟨rfl, (Gr.alloc (Gr.refl w) _).trans g⟩
set_option maxHeartbeats 1600000 in
theorem deeper_n (k : Nat) (hk : k < 1000) : ∀ v : V, DeC k v := by
 induction k with
 | zero =>
  intro v w it nm hr
  obtain ⟨ai, ci, an, cn, rfl, rfl⟩ := r_slices hr
  have e : decide (0 < dptv v) = true := by rw [dpt_v]; simp
  rw [e]
  clear hr e hk
  unfold avv
  go_enter Tryz.func95, Tryz.ntmps95
  go_wp2_with fail
  go_ret
  exact ⟨rfl, Gr.alloc (Gr.alloc (Gr.refl w) _) _⟩
 | succ k ih =>
  intro v w it nm hr
  obtain ⟨ai, ci, an, cn, rfl, rfl⟩ := r_slices hr
  have e : decide (k + 1 < dptv v) = v.nest.any fun x => decide (k < dptv x) := by
   rw [dpt_v, Bool.eq_iff_iff]
   simp only [decide_eq_true_eq, List.any_eq_true]
   constructor
   ·intro h
    rcases Classical.em (∃ x, x ∈ v.nest ∧ k < dptv x) with h1 | h1
    ·exact h1
    ·have : dptL v.nest ≤ k := dptL_le.2 fun x hx => by
      rcases Nat.lt_or_ge k (dptv x) with h2 | h2
      ·exact absurd ⟨x, hx, h2⟩ h1
      ·exact h2
     omega
   ·rintro ⟨x, hx, h⟩
    have := (dptL_le (n := dptL v.nest)).1 (Nat.le_refl _) x hx
    omega
  have CN := Lib.hid fun W (h : Low w W) => nested_c v W _ _ (hr.low h)
  have CO := Lib.hid fun W ra (h : Ro W v.nest ra) (hb : W.cell? ⟨w.heap.size + 1, 0, none⟩ = some (.int .i64 ((k + 1 : Nat) : Int))) => conD_c (fun x => decide (k < dptv x)) (w.heap.size + 1) v.nest W (fun x hx w' hg it nm hr => deepC_c k (by omega) x (ih (by omega) x) _ w' it nm hr (hg.cell hb)) ra h
  rw [e]
  clear e ih hr
  generalize (v.nest.any fun x => decide (k < dptv x)) = r at CO ⊢
  obtain ⟨W, hW⟩ : ∃ W, W = (w.alloc (.cells #[.int .i64 v.h.k, .bool v.h.b, .int .i64 v.h.n, .string v.h.s, .string v.h.t, .string v.h.i, .slice ai v.l.length ci, .slice an v.ns.length cn] 27)).alloc (.cells #[.int .i64 ((k : Int) + 1)] 3) := ⟨_, rfl⟩
  have hg : Gr w W := hW ▸ Gr.alloc (Gr.alloc (Gr.refl w) _) _
  have hb : W.cell? ⟨w.heap.size + 1, 0, none⟩ = some (.int .i64 ((k : Int) + 1)) := by rw [hW]; simp [go_sem]
  unfold avv at *
  go_enter Tryz.func95, Tryz.ntmps95
  go_wp2_with fail
  rw [← hW]
  clear hW
  refine (CN.out _ hg.low).mono ?_
  rintro e w1 ⟨ra, rfl, pa, g⟩
  have hb1 := g.cell hb
  go_wp2_with fail
  refine (CO.out _ _ pa hb1).mono ?_
  rintro e w2 ⟨rfl, g2⟩
  go_wp2_with fail
  go_ret
  exact ⟨rfl, hg.trans (g.trans g2)⟩
theorem deeper_c (v : V) (w : World) (it nm : Value) (hr : R w v it nm) : Calls Tryz.prog 95 #[avv v.h it nm, .int .i64 50] w fun e w' => e = .returned (.bool (decide (50 < dptv v))) ∧ Gr w w' := deeper_n 50 (by decide) v w it nm hr
end Go.Proofs.YtnchohglplobeaaGreat
namespace Go.Proofs.YtnchohglplobeaaGreat
def cmpP (p q : ByteArray × V) : Int := cmpT p.1 q.1
theorem good_pair : Good cmpP fun _ => True := good_text.pull fun p : ByteArray × V => p.1
def recC (ns : List ByteArray) (m : List V) : Int × V :=
 if ns.Nodup then (0, .mk { hd0 with k := 6 } ((uniq cmpP (ns.zip m)).map (·.2)) ((uniq cmpP (ns.zip m)).map (·.1))) else (13, V0)
def limL (n : Nat) (p : Int × List V) : Int × List V := if p.1 = 0 then (if 4096 < n then (12, []) else p) else p
mutual
def can : V → Int × V
 | .mk h l ns =>
  if h.k = 1 then (0, .mk { hd0 with k := 1, b := h.b } [] [])
  else if h.k = 2 then (0, .mk { hd0 with k := 2, n := h.n } [] [])
  else if h.k = 3 then (0, .mk { hd0 with k := 3, s := h.s } [] [])
  else if h.k = 4 then (0, .mk { hd0 with k := 4, t := h.t, i := h.i } [] [])
  else if h.k = 5 then if (limL l.length (canK l)).1 = 0 then (0, .mk { hd0 with k := 5 } (uniq ord (limL l.length (canK l)).2) []) else ((limL l.length (canK l)).1, V0)
  else if h.k = 6 then if ns.length = l.length then (if (limL l.length (canK l)).1 = 0 then recC ns (limL l.length (canK l)).2 else ((limL l.length (canK l)).1, V0)) else (1, V0)
  else (1, V0)
def canK : List V → Int × List V
 | [] => (0, [])
 | x :: l => if (can x).1 = 0 then (if (canK l).1 = 0 then (0, (can x).2 :: (canK l).2) else ((canK l).1, [])) else ((can x).1, [])
end
def canL (l : List V) : Int × List V := limL l.length (canK l)
theorem can_v (v : V) : can v =
  if v.h.k = 1 then (0, .mk { hd0 with k := 1, b := v.h.b } [] [])
  else if v.h.k = 2 then (0, .mk { hd0 with k := 2, n := v.h.n } [] [])
  else if v.h.k = 3 then (0, .mk { hd0 with k := 3, s := v.h.s } [] [])
  else if v.h.k = 4 then (0, .mk { hd0 with k := 4, t := v.h.t, i := v.h.i } [] [])
  else if v.h.k = 5 then if (canL v.l).1 = 0 then (0, .mk { hd0 with k := 5 } (uniq ord (canL v.l).2) []) else ((canL v.l).1, V0)
  else if v.h.k = 6 then if v.ns.length = v.l.length then (if (canL v.l).1 = 0 then recC v.ns (canL v.l).2 else ((canL v.l).1, V0)) else (1, V0)
  else (1, V0) := by cases v; rw [can]; rfl
theorem canK_ok : ∀ {l : List V}, (canK l).1 = 0 → (∀ x ∈ l, (can x).1 = 0) ∧ (canK l).2 = l.map fun x => (can x).2
 | [], _ => by simp [canK]
 | x :: l, h => by
  rw [canK] at h ⊢
  by_cases h1 : (can x).1 = 0
  ·rw [if_pos h1] at h ⊢
   by_cases h2 : (canK l).1 = 0
   ·rw [if_pos h2]
    obtain ⟨h3, h4⟩ := canK_ok h2
    exact ⟨fun y hy => by
     rcases List.mem_cons.1 hy with rfl | hy
     ·exact h1
     ·exact h3 y hy, by rw [List.map_cons, h4]⟩
   ·rw [if_neg h2] at h; exact absurd h h2
  ·rw [if_neg h1] at h; exact absurd h h1
theorem canK_of : ∀ {l : List V}, (∀ x ∈ l, (can x).1 = 0) → canK l = (0, l.map fun x => (can x).2)
 | [], _ => by simp [canK]
 | x :: l, h => by
  rw [canK, if_pos (h x (by simp)), canK_of fun y hy => h y (by simp [hy])]
  rfl
theorem canL_eq {l : List V} (h : (canL l).1 = 0) : (canK l).1 = 0 ∧ canL l = canK l ∧ l.length ≤ 4096 := by
 unfold canL limL at h ⊢
 by_cases h1 : (canK l).1 = 0
 ·rw [if_pos h1] at h ⊢
  by_cases h2 : 4096 < l.length
  ·rw [if_pos h2] at h; simp at h
  ·rw [if_neg h2]; exact ⟨h1, rfl, by omega⟩
 ·rw [if_neg h1] at h; exact absurd h h1
theorem canL_ok {l : List V} (h : (canL l).1 = 0) : (∀ x ∈ l, (can x).1 = 0) ∧ (canL l).2 = l.map fun x => (can x).2 := by
 obtain ⟨h1, h2, -⟩ := canL_eq h
 rw [h2]; exact canK_ok h1
theorem canL_of {l : List V} (hn : l.length ≤ 4096) (h : ∀ x ∈ l, (can x).1 = 0) : canL l = (0, l.map fun x => (can x).2) := by
 unfold canL limL
 rw [canK_of h, if_pos rfl, if_neg (by omega)]
theorem canL_long {l : List V} (hn : 4096 < l.length) (h : ∀ x ∈ l, (can x).1 = 0) : canL l = (12, []) := by
 unfold canL limL
 rw [canK_of h, if_pos rfl, if_pos hn]
theorem canL_len {l : List V} (h : (canL l).1 = 0) : (canL l).2.length = l.length := by rw [(canL_ok h).2, List.length_map]
theorem canL_le {l : List V} (h : (canL l).1 = 0) : l.length ≤ 4096 := (canL_eq h).2.2
mutual
def Cn : V → Prop
 | .mk h l ns => (h = { hd0 with k := 1, b := h.b } ∧ l = [] ∧ ns = []) ∨ (h = { hd0 with k := 2, n := h.n } ∧ l = [] ∧ ns = []) ∨ (h = { hd0 with k := 3, s := h.s } ∧ l = [] ∧ ns = []) ∨
   (h = { hd0 with k := 4, t := h.t, i := h.i } ∧ l = [] ∧ ns = []) ∨ (h = { hd0 with k := 5 } ∧ ns = [] ∧ CnL l) ∨ (h = { hd0 with k := 6 } ∧ ns.length = l.length ∧ CnL l)
def CnL : List V → Prop
 | [] => True
 | x :: l => Cn x ∧ CnL l
end
theorem cnL_iff {l : List V} : CnL l ↔ ∀ x ∈ l, Cn x := by
 induction l with
 | nil => simp [CnL]
 | cons y l ih => simp [CnL, ih]
theorem cn_v {v : V} : Cn v ↔ (v.h = { hd0 with k := 1, b := v.h.b } ∧ v.l = [] ∧ v.ns = []) ∨ (v.h = { hd0 with k := 2, n := v.h.n } ∧ v.l = [] ∧ v.ns = []) ∨ (v.h = { hd0 with k := 3, s := v.h.s } ∧ v.l = [] ∧ v.ns = []) ∨
   (v.h = { hd0 with k := 4, t := v.h.t, i := v.h.i } ∧ v.l = [] ∧ v.ns = []) ∨ (v.h = { hd0 with k := 5 } ∧ v.ns = [] ∧ ∀ x ∈ v.l, Cn x) ∨ (v.h = { hd0 with k := 6 } ∧ v.ns.length = v.l.length ∧ ∀ x ∈ v.l, Cn x) := by
 cases v; rw [Cn, cnL_iff]; rfl
theorem cn_named {v : V} (h : v.ns.length = v.l.length) : v.named = v.l := by unfold V.named; rw [h, Nat.min_self, List.take_length]
theorem v_ext {a b : V} (h1 : a.h = b.h) (h2 : a.l = b.l) (h3 : a.ns = b.ns) : a = b := by rw [a.eta, b.eta, h1, h2, h3]
theorem kd {h : Hd} {k : Int} {b : Bool} {n : Int} {s t i : ByteArray} (e : h = ⟨k, b, n, s, t, i⟩) : h.k = k := by rw [e]
theorem ord_zero_n (n : Nat) : ∀ a b : V, dep a ≤ n → Cn a → Cn b → ord a b = 0 → a = b := by
 induction n with
 | zero => intro a b h; rw [dep_v] at h; omega
 | succ n ih =>
  intro a b hd ha hb h
  rw [ord_body, orI_zero] at h
  obtain ⟨h0, h1⟩ := h
  have hk := cmpI_zero h0
  have hL : (∀ x ∈ a.l, Cn x) → (∀ x ∈ b.l, Cn x) → ordL a.l b.l = 0 → a.l = b.l := fun h2 h3 h4 => by
   rw [ordL_lex] at h4
   have hS : ∀ x ∈ a.l, Cn x ∧ dep x ≤ n := fun x hx => ⟨h2 x hx, by have := dep_mem hx; rw [dep_v] at hd; omega⟩
   have : ∀ (l m : List V), (∀ x ∈ l, Cn x ∧ dep x ≤ n) → (∀ x ∈ m, Cn x) → lex ord l m = 0 → l = m := by
    intro l
    induction l with
    | nil => intro m _ _ h; cases m with
     | nil => rfl
     | cons y m => simp [lex] at h
    | cons x l ihl =>
     intro m hl hm h
     cases m with
     | nil => simp [lex] at h
     | cons y m =>
      rw [lex, orI_zero] at h
      rw [ih x y (hl x (by simp)).2 (hl x (by simp)).1 (hm y (by simp)) h.1, ihl m (fun z hz => hl z (by simp [hz])) (fun z hz => hm z (by simp [hz])) h.2]
   exact this _ _ hS h3 h4
  rw [cn_v] at ha hb
  rcases ha with ⟨ea, la, na⟩ | ⟨ea, la, na⟩ | ⟨ea, la, na⟩ | ⟨ea, la, na⟩ | ⟨ea, na, la⟩ | ⟨ea, na, la⟩ <;>
  rcases hb with ⟨eb, lb, nb⟩ | ⟨eb, lb, nb⟩ | ⟨eb, lb, nb⟩ | ⟨eb, lb, nb⟩ | ⟨eb, nb, lb⟩ | ⟨eb, nb, lb⟩ <;>
  have ka := kd ea <;> have kb := kd eb <;> (first | (exfalso; omega) | skip)
  ·refine v_ext ?_ (la.trans lb.symm) (na.trans nb.symm)
   rw [ka] at h1
   have : a.h.b = b.h.b := cmpB_zero h1
   rw [ea, eb, this]
  ·refine v_ext ?_ (la.trans lb.symm) (na.trans nb.symm)
   rw [ka] at h1
   have : a.h.n = b.h.n := cmpI_zero h1
   rw [ea, eb, this]
  ·refine v_ext ?_ (la.trans lb.symm) (na.trans nb.symm)
   rw [ka] at h1
   have : a.h.s = b.h.s := cmpT_zero h1
   rw [ea, eb, this]
  ·refine v_ext ?_ (la.trans lb.symm) (na.trans nb.symm)
   rw [ka] at h1
   have h2 : orI (cmpT a.h.t b.h.t) (cmpT a.h.i b.h.i) = 0 := h1
   rw [orI_zero] at h2
   rw [ea, eb, cmpT_zero h2.1, cmpT_zero h2.2]
  ·rw [ka] at h1
   exact v_ext (ea.trans eb.symm) (hL la lb h1) (na.trans nb.symm)
  ·rw [ka] at h1
   have h2 : orI (cmpN a.ns b.ns) (ordL a.named b.named) = 0 := h1
   rw [orI_zero, cn_named na, cn_named nb] at h2
   exact v_ext (ea.trans eb.symm) (hL la lb h2.2) (cmpN_zero h2.1)
theorem ord_zero {a b : V} (ha : Cn a) (hb : Cn b) (h : ord a b = 0) : a = b := ord_zero_n (dep a) a b (Nat.le_refl _) ha hb h
theorem good_cn : Good ord Cn := good_ord.mono fun _ _ => trivial
theorem mem_zip_snd {ns : List ByteArray} {m : List V} {p : ByteArray × V} (h : p ∈ ns.zip m) : p.2 ∈ m := (List.of_mem_zip h).2
theorem uniq_sub {α : Type} {c : α → α → Int} {z : α} : ∀ {l : List α}, z ∈ uniq c l → z ∈ l := by
 have gen : ∀ (l acc : List α), z ∈ l.foldl (fun acc x => ins c x acc) acc → z ∈ l ∨ z ∈ acc := by
  intro l
  induction l with
  | nil => intro acc h; exact .inr h
  | cons x l ih =>
   intro acc h
   rcases ih _ h with h | h
   ·exact .inl (by simp [h])
   ·rcases ins_sub h with rfl | h
    ·exact .inl (by simp)
    ·exact .inr h
 intro l h
 rcases gen l [] h with h | h
 ·exact h
 ·simp at h
theorem can_cn_n (n : Nat) : ∀ v : V, dep v ≤ n → (can v).1 = 0 → Cn (can v).2 := by
 induction n with
 | zero => intro v h; rw [dep_v] at h; omega
 | succ n ih =>
  intro v hd h
  have hI : (canL v.l).1 = 0 → ∀ x ∈ (canL v.l).2, Cn x := fun h0 x hx => by
   obtain ⟨h1, h2⟩ := canL_ok h0
   rw [h2] at hx
   obtain ⟨y, hy, rfl⟩ := List.mem_map.1 hx
   exact ih y (by have := dep_mem hy; rw [dep_v] at hd; omega) (h1 y hy)
  rw [can_v] at h ⊢
  by_cases k1 : v.h.k = 1
  ·rw [if_pos k1]; rw [cn_v]; exact .inl ⟨rfl, rfl, rfl⟩
  rw [if_neg k1] at h ⊢
  by_cases k2 : v.h.k = 2
  ·rw [if_pos k2]; rw [cn_v]; exact .inr (.inl ⟨rfl, rfl, rfl⟩)
  rw [if_neg k2] at h ⊢
  by_cases k3 : v.h.k = 3
  ·rw [if_pos k3]; rw [cn_v]; exact .inr (.inr (.inl ⟨rfl, rfl, rfl⟩))
  rw [if_neg k3] at h ⊢
  by_cases k4 : v.h.k = 4
  ·rw [if_pos k4]; rw [cn_v]; exact .inr (.inr (.inr (.inl ⟨rfl, rfl, rfl⟩)))
  rw [if_neg k4] at h ⊢
  by_cases k5 : v.h.k = 5
  ·rw [if_pos k5] at h ⊢
   by_cases h0 : (canL v.l).1 = 0
   ·rw [if_pos h0]
    rw [cn_v]
    exact .inr (.inr (.inr (.inr (.inl ⟨rfl, rfl, fun x hx => hI h0 x (uniq_sub hx)⟩))))
   ·rw [if_neg h0] at h; exact absurd h h0
  rw [if_neg k5] at h ⊢
  by_cases k6 : v.h.k = 6
  ·rw [if_pos k6] at h ⊢
   by_cases hn : v.ns.length = v.l.length
   ·rw [if_pos hn] at h ⊢
    by_cases h0 : (canL v.l).1 = 0
    ·rw [if_pos h0] at h ⊢
     unfold recC at h ⊢
     by_cases hd : v.ns.Nodup
     ·rw [if_pos hd]
      rw [cn_v]
      refine .inr (.inr (.inr (.inr (.inr ⟨rfl, by simp [V.ns, V.l], fun x hx => ?_⟩))))
      obtain ⟨p, hp, rfl⟩ := List.mem_map.1 hx
      exact hI h0 _ (mem_zip_snd (uniq_sub hp))
     ·rw [if_neg hd] at h; simp at h
    ·rw [if_neg h0] at h; exact absurd h h0
   ·rw [if_neg hn] at h; simp at h
  ·rw [if_neg k6] at h; simp at h
theorem can_cn {v : V} (h : (can v).1 = 0) : Cn (can v).2 := can_cn_n (dep v) v (Nat.le_refl _) h
theorem canL_cn {l : List V} (h : (canL l).1 = 0) : ∀ x ∈ (canL l).2, Cn x := fun x hx => by
 obtain ⟨h1, h2⟩ := canL_ok h
 rw [h2] at hx
 obtain ⟨y, hy, rfl⟩ := List.mem_map.1 hx
 exact can_cn (h1 y hy)
end Go.Proofs.YtnchohglplobeaaGreat
namespace Go.Proofs.YtnchohglplobeaaGreat
open Go.RowKit Go.Sort
structure El where
 v : V
 ai : Option Addr
 ci : Nat
 an : Option Addr
 cn : Nat
def El.it (p : El) : Value := .slice p.ai p.v.l.length p.ci
def El.nm (p : El) : Value := .slice p.an p.v.ns.length p.cn
def encVv (p : El) : List Value := hdc p.v.h p.it p.nm
theorem encV_lenv (p : El) : (encVv p).length = 8 := rfl
theorem encV_onev (p : El) : ∀ u ∈ encVv p, u.oneCell' = true := by
 intro u hu
 simp only [encVv, hdc, El.it, El.nm, List.mem_cons, List.not_mem_nil, or_false] at hu
 rcases hu with rfl | rfl | rfl | rfl | rfl | rfl | rfl | rfl <;> rfl
def ElOk (A : Nat → Prop) (w : World) (p : El) : Prop := Rep A w p.v p.it p.nm
def OwnVv (B : Nat) (w : World) (v : Value) (ps : List El) : Prop := OwnR 27 8 encVv B w v ps
theorem v_infov : (Tryz.prog.info? 27).map (fun i => (i.zero, i.size, i.bytes)) = some (some (.agg #[.int .i64 0, .bool false, .int .i64 0, .string ⟨#[]⟩, .string ⟨#[]⟩, .string ⟨#[]⟩, .slice none 0 0, .slice none 0 0]), 8, 120) := by kernel_rfl
theorem ownV_row {B : Nat} {w : World} {v : Value} {ps : List El} {A A' : Nat → Prop} (h : OwnVv B w v ps) (hp : ∀ p ∈ ps, ElOk A w p) (hA : ∀ b, A b → A' b) (hv : ∀ g, v.ownBlock = some g → A' g) : RowAt A' w (ps.map (·.v)) v := by
 obtain ⟨ao, cap, rfl, h1, h2, h3⟩ := h.shape
 refine ⟨ao, cap, by rw [List.length_map], ⟨by rw [List.length_map]; exact h1, h2⟩, ?_⟩
 rcases h3 with h0 | ⟨g, rfl, hb, hg⟩
 ·exact .inl (by rw [h0]; rfl)
 ·refine .inr ⟨g, 0, rfl, hv g rfl, repF_of fun j hj => ?_⟩
  have hj' : j < ps.length := by simpa using hj
  refine ⟨ps[j].it, ps[j].nm, fun c u hu => ?_, ?_⟩
  ·have hc : c < 8 := by have := (List.getElem?_eq_some_iff.1 hu).1; simpa [hdc] using this
   rw [Nat.zero_add, OwnR.cell encV_lenv h j c hj' hc]
   rw [List.getElem_map] at hu
   exact hu
  ·rw [List.getElem_map]
   exact Rep.to (fun b ha _ => ⟨hA b ha, rfl⟩) _ (hp ps[j] (List.getElem_mem hj'))
end Go.Proofs.YtnchohglplobeaaGreat
namespace Go.Proofs.YtnchohglplobeaaGreat
open Go.RowKit Go.Sort
def CanPost (x : V) (err : Int) (w : World) (e : Ending) (w' : World) : Prop :=
 ∃ ai ci an cn, e = .returned (.tuple #[.agg #[.int .i64 x.h.k, .bool x.h.b, .int .i64 x.h.n, .string x.h.s, .string x.h.t, .string x.h.i, .slice ai x.l.length ci, .slice an x.ns.length cn], .int .i64 err]) ∧ Rep (fun b => w.heap.size ≤ b) w' x (.slice ai x.l.length ci) (.slice an x.ns.length cn) ∧ Low w w'
def CanC (f : Nat) (v : V) : Prop := ∀ (w : World) (it nm : Value), R w v it nm → Smv v → Calls Tryz.prog f #[avv v.h it nm] w (CanPost (can v).2 (can v).1 w)
def ItPost (err : Int) (l : List V) (w : World) (e : Ending) (w' : World) : Prop :=
 ∃ v, e = .returned (.tuple #[v, .int .i64 err]) ∧ Low w w' ∧ (err = 0 → ∃ ps : List El, ps.map (·.v) = l ∧ OwnVv w.heap.size w' v ps ∧ ∀ p ∈ ps, ElOk (fun b => w.heap.size ≤ b ∧ some b ≠ v.ownBlock) w' p)
theorem Low.alloc {a b : World} (h : Low a b) (o : Obj) : Low a (b.alloc o) := h.trans (Gr.alloc (Gr.refl b) o).low
theorem Low.trans_below {a b d : World} (h : Low a b) {B : Nat} (k : RowKit.Below B b d) (hB : a.heap.size ≤ B) : Low a d :=
 ⟨k.os.trans h.1, k.output.trans h.2.1, Nat.le_trans h.2.2.1 k.size, fun i hi => (k.block i (Nat.lt_of_lt_of_le hi hB)).trans (h.2.2.2 i hi)⟩
theorem el_step {w wr w1 W w2 : World} {v v2 : Value} {ps : List El} {q : El} (hsz : w.heap.size ≤ wr.heap.size) (E : ∀ p ∈ ps, ElOk (fun b => w.heap.size ≤ b ∧ some b ≠ v.ownBlock) wr p) (L1 : Low wr w1) (LW : Low w1 W)
  (hq : Rep (fun b => wr.heap.size ≤ b) w1 q.v q.it q.nm) (O : OwnVv w.heap.size wr v ps) (k2 : ∀ b, b < W.heap.size → some b ≠ v.ownBlock → w2.heap[b]? = W.heap[b]?) (n2 : v2.ownBlock = v.ownBlock ∨ ∀ g, v2.ownBlock = some g → W.heap.size ≤ g) :
  ∀ p ∈ ps ++ [q], ElOk (fun b => w.heap.size ≤ b ∧ some b ≠ v2.ownBlock) w2 p := by
 have hv : ∀ g, v.ownBlock = some g → g < wr.heap.size := fun g hg => (World.ownsRow.lt O g hg).2
 have s1 := L1.size
 have s2 := LW.size
 have key : ∀ b, b < w1.heap.size → some b ≠ v.ownBlock → some b ≠ v2.ownBlock ∧ w2.heap[b]? = w1.heap[b]? := fun b hb hne => by
  refine ⟨?_, (k2 b (by omega) hne).trans (LW.2.2.2 b hb)⟩
  rcases n2 with h | h
  ·rw [h]; exact hne
  ·intro e
   have := h b e.symm
   omega
 intro p hp
 rcases List.mem_append.1 hp with hp | hp
 ·refine Rep.to (fun b ha hb => ?_) _ (E p hp)
  obtain ⟨h1, h2⟩ := key b (by omega) ha.2
  exact ⟨⟨ha.1, h1⟩, h2.trans (L1.2.2.2 b hb)⟩
 ·simp at hp
  subst hp
  refine Rep.to (fun b ha hb => ?_) _ hq
  obtain ⟨h1, h2⟩ := key b hb fun e => by have := hv b e.symm; omega
  exact ⟨⟨by omega, h1⟩, h2⟩
theorem canK_at {l : List V} {i : Nat} (hi : i < l.length) (h : ∀ x ∈ l.take i, (can x).1 = 0) (h1 : (can l[i]).1 ≠ 0) : (canK l).1 = (can l[i]).1 := by
 induction l generalizing i with
 | nil => simp at hi
 | cons x l ih =>
  cases i with
  | zero =>
   have h2 : (can x).1 ≠ 0 := h1
   rw [canK, if_neg h2]; rfl
  | succ i =>
   have h0 : (can x).1 = 0 := h x (by rw [List.take_succ_cons]; simp)
   have h2 := ih (i := i) (by simpa using hi) (fun y hy => h y (by rw [List.take_succ_cons]; simp [hy])) (by simpa using h1)
   rw [canK, if_pos h0, if_neg (by rw [h2]; simpa using h1)]
   simpa using h2
theorem canL_at {l : List V} {i : Nat} (hi : i < l.length) (h : ∀ x ∈ l.take i, (can x).1 = 0) (h1 : (can l[i]).1 ≠ 0) : (canL l).1 = (can l[i]).1 := by
 have e := canK_at hi h h1
 unfold canL limL
 rw [if_neg (by rw [e]; exact h1)]
 exact e
set_option maxHeartbeats 2000000 in
theorem canI_c (l : List V) (ih : ∀ x ∈ l, CanC 96 x) (hs : l.length ≤ 70000 ∧ ∀ x ∈ l, Smv x) (w : World) (it : Value) (hl : Ro w l it) :
  Calls Tryz.prog 175 #[it] w (ItPost (canL l).1 (canL l).2 w) := by
 obtain ⟨al, cl, rfl, zl, zc⟩ := ro_len hl
 obtain ⟨hs1, hs2⟩ := hs
 have HL := Lib.hid hl
 have HI := Lib.hid ih
 have HS := Lib.hid hs2
 clear hl ih hs2
 go_enter Tryz.func175, Tryz.ntmps175
 go_wp2_with fail
 go_loopg [4, 11] l.length (fun gk vs vi wr => ∃ (v : Value) (i : Nat) (ps : List El), v = vs ∧ vi = .int .i64 (i : Int) ∧ i ≤ l.length ∧ l.length - i ≤ gk ∧ Hid (Low w wr) ∧ Hid ((∀ x ∈ l.take i, (can x).1 = 0) ∧ ps.map (·.v) = (l.take i).map fun x => (can x).2) ∧ Hid (OwnVv w.heap.size wr v ps) ∧ Hid (∀ p ∈ ps, ElOk (fun b => w.heap.size ≤ b ∧ some b ≠ v.ownBlock) wr p))
 case atStart => exact ⟨_, 0, [], rfl, rfl, Nat.zero_le _, Nat.le_refl _, Lib.hid (Low.refl _), Lib.hid ⟨by simp, by simp⟩, Lib.hid (OwnR.nil _ _ _ _ _), Lib.hid (by simp)⟩
 case round =>
  obtain ⟨v, i, ps, rfl, rfl, hi, hg, G, K, O, E⟩ := hrel
  have hpl : ps.length = i := by have := congrArg List.length K.out.2; simpa [hi] using this
  by_cases hlt : i < l.length
  ·have z1 : (i : Int) < (l.length : Int) := by omega
   obtain ⟨b, o, ai, ci, an, cn, rfl, hcs, hrx⟩ := ro_at (HL.out.low G.out) hlt
   obtain ⟨e0, e1, e2, e3, e4, e5, e6, e7⟩ := cells8 hcs
   have hcon := HI.out l[i] (List.getElem_mem hlt) _ _ _ (hrx.low (Gr.alloc (Gr.refl wr) (.cells #[.int .i64 l[i].h.k, .bool l[i].h.b, .int .i64 l[i].h.n, .string l[i].h.s, .string l[i].h.t, .string l[i].h.i, .slice ai l[i].l.length ci, .slice an l[i].ns.length cn] 27)).low) (HS.out _ (List.getElem_mem hlt))
   obtain ⟨y, hy⟩ : ∃ y, y = (can l[i]).2 := ⟨_, rfl⟩
   obtain ⟨c, hc⟩ : ∃ c, c = (can l[i]).1 := ⟨_, rfl⟩
   rw [← hy, ← hc] at hcon
   have HC := Lib.hid hcon
   have HY := Lib.hid hy
   have HZ := Lib.hid hc
   clear hcon hcs hrx hy hc
   unfold avv at HC
   go_wp2_with fail
   refine HC.out.mono ?_
   rintro e w1 ⟨bi, di, bn, dn, rfl, hrep, hlow⟩
   have L1 := Lib.hid ((Low.alloc (Low.refl wr) _).trans hlow)
   have hsz : w.heap.size ≤ wr.heap.size := G.out.size
   have hsz1 : wr.heap.size ≤ w1.heap.size := L1.out.size
   have HR := Lib.hid hrep
   clear hrep hlow
   by_cases h0 : c = 0
   ·subst h0
    have hown := (O.out.low L1.out)
    have HO := Lib.hid hown
    clear hown
    obtain ⟨q, hq⟩ : ∃ q : El, q = ⟨y, bi, di, bn, dn⟩ := ⟨_, rfl⟩
    have HQ := Lib.hid hq
    clear hq
    go_wp2_with (first
     | (at_builtin; refine appR rfl _ _ _ rfl Tryz.underlying24 v_infov rfl (by decide) (by decide) encV_lenv encV_onev w.heap.size v ps rfl ((HO.out.alloc _).alloc _) ⟨y, bi, di, bn, dn⟩ ⟨w1.heap.size + 1, 0, none⟩ 1 rfl (fun j u hj => newcell_at _ _ _ _ _ rfl hj) (by omega) (by show w.heap.size ≤ ((w1.alloc _).alloc _).heap.size; simp; omega) ?_; intro v2 w2 h2 b2 k2 n2))
    have W1 := Lib.hid ((Low.alloc (Low.alloc (Low.refl w1) (.cells #[.int .i64 y.h.k, .bool y.h.b, .int .i64 y.h.n, .string y.h.s, .string y.h.t, .string y.h.i, .slice bi y.l.length di, .slice bn y.ns.length dn] 27)) (.cells #[.int .i64 y.h.k, .bool y.h.b, .int .i64 y.h.n, .string y.h.s, .string y.h.t, .string y.h.i, .slice bi y.l.length di, .slice bn y.ns.length dn] 27)))
    have hE := el_step hsz E.out L1.out W1.out (q := ⟨y, bi, di, bn, dn⟩) (Rep.to (fun b hb _ => ⟨Nat.le_trans (by simp) hb, rfl⟩) _ HR.out) O.out k2 n2
    have hL : Low w w2 := ((G.out.trans L1.out).trans W1.out).trans_below b2 (Nat.le_refl _)
    have HE := Lib.hid hE
    have HL2 := Lib.hid hL
    have H2 := Lib.hid h2
    have hk : (∀ x ∈ l.take (i + 1), (can x).1 = 0) ∧ (ps ++ [(⟨y, bi, di, bn, dn⟩ : El)]).map (·.v) = (l.take (i + 1)).map fun x => (can x).2 := by
     rw [List.take_succ_eq_append_getElem hlt]
     refine ⟨fun x hx => ?_, ?_⟩
     ·rcases List.mem_append.1 hx with hx | hx
      ·exact K.out.1 x hx
      ·simp at hx; rw [hx]; exact HZ.out.symm
     ·rw [List.map_append, List.map_append, K.out.2, List.map_singleton, List.map_singleton, ← HY.out]
    have HK := Lib.hid hk
    clear hE hL h2 b2 k2 n2 hk
    go_wp2_with fail
    go_roundg (l.length - (i + 1))
    case measure => omega
    case rel => exact ⟨v2, i + 1, _, rfl, by go_num, by omega, by omega, HL2, HK, H2, HE⟩
   ·have he : (canL l).1 = c := by rw [HZ.out]; exact canL_at hlt K.out.1 (by rw [← HZ.out]; exact h0)
    have W1 := Lib.hid (Low.alloc (Low.refl w1) (.cells #[.int .i64 y.h.k, .bool y.h.b, .int .i64 y.h.n, .string y.h.s, .string y.h.t, .string y.h.i, .slice bi y.l.length di, .slice bn y.ns.length dn] 27))
    have HE := Lib.hid he
    clear he
    go_wp2_with fail
    go_ret2
    exact ⟨.slice none 0 0, by rw [HE.out]; rfl, (G.out.trans L1.out).trans W1.out, fun e => absurd (HE.out.symm.trans e) h0⟩
  ·have z1 : ¬ (i : Int) < (l.length : Int) := by omega
   have ht : l.take i = l := List.take_of_length_le (by omega)
   have hall : ∀ x ∈ l, (can x).1 = 0 := fun x hx => K.out.1 x (by rw [ht]; exact hx)
   have hp := K.out.2
   rw [ht] at hp
   have HP := Lib.hid hp
   obtain ⟨ao, cap, hv, hc1, hc2, -⟩ := O.out.shape
   subst hv
   by_cases h4 : 4096 < l.length
   ·have H0 := Lib.hid (canL_long h4 hall)
    have hlen : (4096 : Int) < (ps.length : Int) := by omega
    clear hp hall ht
    go_wp2_with fail
    go_ret2
    exact ⟨.slice none 0 0, by rw [H0.out]; rfl, G.out, fun e => absurd e (by rw [H0.out]; decide)⟩
   ·have H0 := Lib.hid (canL_of (by omega) hall)
    have hlen : (ps.length : Int) ≤ 4096 := by omega
    clear hp hall ht
    go_wp2_with fail
    go_ret2
    exact ⟨.slice ao ps.length cap, by rw [H0.out, hpl]; rfl, G.out, fun _ => ⟨ps, by rw [H0.out]; exact HP.out, O.out, E.out⟩⟩
end Go.Proofs.YtnchohglplobeaaGreat
namespace Go.Proofs.YtnchohglplobeaaGreat
open Go.RowKit
def KeptBut (w w' : World) (r : Option Nat) : Prop := w'.os = w.os ∧ w'.output = w.output ∧ w.heap.size ≤ w'.heap.size ∧ ∀ b, b < w.heap.size → some b ≠ r → w'.heap[b]? = w.heap[b]?
theorem KeptBut.refl (w : World) (r : Option Nat) : KeptBut w w r := ⟨rfl, rfl, Nat.le_refl _, fun _ _ _ => rfl⟩
theorem KeptBut.trans {a b c : World} {r : Option Nat} (h : KeptBut a b r) (k : KeptBut b c r) : KeptBut a c r :=
 ⟨k.1.trans h.1, k.2.1.trans h.2.1, Nat.le_trans h.2.2.1 k.2.2.1, fun i hi hr => (k.2.2.2 i (Nat.lt_of_lt_of_le hi h.2.2.1) hr).trans (h.2.2.2 i hi hr)⟩
theorem KeptBut.of_low {a b : World} {r : Option Nat} (h : Low a b) : KeptBut a b r := ⟨h.1, h.2.1, h.2.2.1, fun i hi _ => h.2.2.2 i hi⟩
theorem Low.kept {a b c : World} {r : Option Nat} (h : Low a b) (k : KeptBut b c r) (hr : ∀ g, r = some g → a.heap.size ≤ g) : Low a c :=
 ⟨k.1.trans h.1, k.2.1.trans h.2.1, Nat.le_trans h.2.2.1 k.2.2.1, fun i hi => (k.2.2.2 i (Nat.lt_of_lt_of_le hi h.2.2.1) fun e => by have := hr i e.symm; omega).trans (h.2.2.2 i hi)⟩
structure BoxAt (w : World) (n : Nat) (cs : List Value) : Prop where
 cells : CellsAt w n 0 cs
 open' : ∀ o, w.frozen? ⟨n, o, none⟩ = false
 lt : n < w.heap.size
theorem BoxAt.kept {w w' : World} {n : Nat} {cs : List Value} {x : Option Nat} (h : BoxAt w n cs) (k : KeptBut w w' x) (hx : some n ≠ x) : BoxAt w' n cs where
 cells := fun j v hj => by
  have := h.cells j v hj
  rw [World.cell?_of_block (w := w) (w' := w') (a := ⟨n, 0 + j, none⟩) (k.2.2.2 n h.lt hx)]
  exact this
 open' := fun o => by
  rw [World.frozen?_of_block (w := w) (w' := w') (a := ⟨n, o, none⟩) (k.2.2.2 n h.lt hx)]
  exact h.open' o
 lt := Nat.lt_of_lt_of_le h.lt k.2.2.1
theorem BoxAt.low {w w' : World} {n : Nat} {cs : List Value} (h : BoxAt w n cs) (k : Low w w') : BoxAt w' n cs := h.kept (KeptBut.of_low (r := none) k) (by simp)
theorem BoxAt.at {w : World} {n : Nat} {cs : List Value} (h : BoxAt w n cs) (j : Nat) (v : Value) (hj : cs[j]? = some v) : w.cell? ⟨n, j, none⟩ = some v := by
 have := h.cells j v hj
 rwa [Nat.zero_add] at this
theorem BoxAt.made {w W : World} {n : Nat} {cs : List Value} {C : Array Value} {t : TypeId} (h : W = w.alloc (.cells C t)) (hn : w.heap.size = n) (hC : C = cs.toArray) : BoxAt W n cs := by
 subst hn
 subst h
 refine ⟨fun j v hv => ?_, fun o => ?_, by simp⟩
 ·rw [Nat.zero_add, World.cell?_alloc_mark, hC]; simpa using hv
 ·simp [go_sem]
theorem BoxAt.set {w : World} {n : Nat} {cs : List Value} (h : BoxAt w n cs) (j : Nat) (v : Value) : BoxAt (w.setCell ⟨n, j, none⟩ v) n (cs.set j v) where
 cells := fun k u hk => by
  rw [Nat.zero_add]
  have hlt : k < cs.length := by have := (List.getElem?_eq_some_iff.1 hk).1; rwa [List.length_set] at this
  by_cases e : k = j
  ·subst e
   rw [List.getElem?_set_self hlt] at hk
   simp at hk
   subst hk
   have h0 := h.at k _ (List.getElem?_eq_getElem hlt)
   exact World.cell?_setCell_same' _ _ _ (by rw [h0]; rfl)
  ·rw [List.getElem?_set_ne (Ne.symm e)] at hk
   rw [World.cell?_setCell_other _ _ _ _ (by intro h; injection h with _ h; exact e h.symm)]
   exact h.at k u hk
 open' := fun o => by
  rw [World.frozen?_setCell]
  exact h.open' o
 lt := by
  have := h.lt
  have hs : (w.setCell ⟨n, j, none⟩ v).heap.size = w.heap.size := by simp
  rw [hs]; exact this
end Go.Proofs.YtnchohglplobeaaGreat
namespace Go.Proofs.YtnchohglplobeaaGreat
open Go.RowKit Go.Sort Go.Lib
section
variable {α : Type} [Inhabited α]
theorem row_holds {e : TypeId} {k : Nat} {enc : α → List Value} (hk : ∀ x, (enc x).length = k) {B : Nat} {w : World} {g cap n : Nat} {l : List α} (h : OwnR e k enc B w (.slice (some ⟨g, 0, none⟩) n cap) l) : HoldsK enc k w g 0 l.toArray := by
 intro j hj
 have hj2 : j < l.length * k := by simpa using hj
 have hk0 : 0 < k := by rcases Nat.eq_zero_or_pos k with h0 | h0; (rw [h0] at hj2; simp at hj2); exact h0
 have hd : j / k < l.length := Nat.div_lt_of_lt_mul (by rwa [Nat.mul_comm])
 have hm : j % k < k := Nat.mod_lt _ hk0
 have hc := OwnR.cell hk h (j / k) (j % k) hd hm
 rw [Nat.div_add_mod'] at hc
 refine ⟨?_, by rw [Nat.zero_add]; exact h.frozen j⟩
 rw [Nat.zero_add, hc, get_flatK _ _ _ _ (by simpa using hj2)]
 have hx : l.toArray[j / k]! = l[j / k] := by simp [hd]
 rw [hx, List.getElem?_eq_getElem (by rw [hk]; exact hm)]
 simp [getElem!_pos, hk, hm]
theorem sort_other {enc : α → List Value} {k : Nat} (w : World) (g m : Nat) (d : Array α) (os : Array Obj) (b : Nat) (hb : b < w.heap.size) (hne : b ≠ g) : (sortWorldK enc k w g 0 m d os).heap[b]? = w.heap[b]? := by
 unfold sortWorldK
 rw [heap_grow_old _ _ (by rw [size_putRowK]; exact hb)]
 show (w.heap.modify g (onCells (putCells id 0 (flatK enc k d))))[b]? = w.heap[b]?
 rw [Array.getElem?_modify, if_neg (fun e => hne e.symm)]
theorem row_after {e : TypeId} {k : Nat} {enc : α → List Value} (hk : ∀ x, (enc x).length = k) {B : Nat} {w : World} {g cap n : Nat} {l : List α} (h : OwnR e k enc B w (.slice (some ⟨g, 0, none⟩) n cap) l) (m : Nat) (d : Array α) (os : Array Obj) (hd : d.size = l.length) :
  OwnR e k enc B (sortWorldK enc k w g 0 m d os) (.slice (some ⟨g, 0, none⟩) n cap) d.toList := by
 have hlt := (World.ownsRow.lt h g rfl).2
 rcases h.2 with ⟨hv, _⟩ | ⟨g', cap', cur, hv, h1, h2, h3, h4, h5, h6⟩
 ·simp at hv
 ·simp only [Value.slice.injEq, Option.some.injEq, Addr.mk.injEq] at hv
  obtain ⟨⟨rfl, -, -⟩, rfl, rfl⟩ := hv
  refine ⟨by rw [flat_len hk], .inr ⟨g, cap, putCells id 0 (flatK enc k d) cur, by simp [hd], h1, ?_, by rw [Array.length_toList, hd]; exact h3, h4, by simp [putCells, h5], ?_⟩⟩
  ·unfold sortWorldK
   rw [heap_grow_old _ _ (by rw [size_putRowK]; exact hlt)]
   show (w.heap.modify g (onCells (putCells id 0 (flatK enc k d))))[g]? = _
   rw [Array.getElem?_modify, if_pos rfl, h2]
   rfl
  ·rw [Array.length_toList, hd]
   apply List.ext_getElem?
   intro j
   by_cases hj : j < l.length * k
   ·have hk0 : 0 < k := by rcases Nat.eq_zero_or_pos k with h0 | h0; (rw [h0] at hj; simp at hj); exact h0
    have hdd : j / k < d.toList.length := by rw [Array.length_toList, hd]; exact Nat.div_lt_of_lt_mul (by rwa [Nat.mul_comm])
    have hm : j % k < k := Nat.mod_lt _ hk0
    have hc := flat_at hk d.toList (j / k) (j % k) hdd hm
    rw [Nat.div_add_mod'] at hc
    have hjc : j < cur.size := by rw [h5]; exact Nat.lt_of_lt_of_le hj (Nat.mul_le_mul_right k h3)
    rw [hc, List.getElem?_take_of_lt hj, Array.getElem?_toList]
    have hsz : 0 + (flatK enc k d).size = l.length * k := by rw [size_flatK, hd]; omega
    simp only [putCells, Array.getElem?_mapIdx, Array.getElem?_eq_getElem hjc, Option.map_some]
    rw [if_pos ⟨Nat.zero_le _, by rw [hsz]; exact hj⟩, Nat.sub_zero, get_flatK _ _ _ _ (by rw [hd]; exact hj)]
    have hx : d[j / k]! = d.toList[j / k] := by rw [getElem!_pos d (j / k) (by simpa using hdd)]; simp
    rw [hx, List.getElem?_eq_getElem (by rw [hk]; exact hm)]
    simp [getElem!_pos, hk, hm]
   ·rw [List.getElem?_eq_none (by simp; omega), List.getElem?_eq_none (by rw [flat_len hk, Array.length_toList, hd]; omega)]
end
abbrev KeptButv (w w' : World) (r : Option Nat) : Prop := KeptBut w w' r
theorem KeptButv.refl (w : World) (r : Option Nat) : KeptButv w w r := ⟨rfl, rfl, Nat.le_refl _, fun _ _ _ => rfl⟩
theorem KeptButv.trans {a b c : World} {r : Option Nat} (h : KeptButv a b r) (k : KeptButv b c r) : KeptButv a c r :=
 ⟨k.1.trans h.1, k.2.1.trans h.2.1, Nat.le_trans h.2.2.1 k.2.2.1, fun i hi hr => (k.2.2.2 i (Nat.lt_of_lt_of_le hi h.2.2.1) hr).trans (h.2.2.2 i hi hr)⟩
theorem KeptButv.of_low {a b : World} {r : Option Nat} (h : Low a b) : KeptButv a b r := ⟨h.1, h.2.1, h.2.2.1, fun i hi _ => h.2.2.2 i hi⟩
theorem KeptButv.el {w w' : World} {B : Nat} {r : Option Nat} (h : KeptButv w w' r) {p : El} (hp : ElOk (fun b => B ≤ b ∧ some b ≠ r) w p) : ElOk (fun b => B ≤ b ∧ some b ≠ r) w' p :=
 Rep.to (fun b ha hb => ⟨ha, h.2.2.2 b hb ha.2⟩) _ hp
theorem swo_of {α β : Type} {c : β → β → Int} (g : Good c fun _ => True) (f : α → β) : SWO (ltOf fun x y : α => c (f x) (f y)) where
 irrefl x := by simp [ltOf, g.refl (a := f x) trivial]
 trans x y z h1 h2 := by
  simp only [ltOf, decide_eq_true_eq] at *
  exact g.lt _ _ _ trivial trivial trivial h1 h2
 ntrans x y z h1 h2 := by
  simp only [ltOf, decide_eq_false_iff_not] at *
  have a := g.anti (f x) (f y) trivial trivial
  have b := g.anti (f y) (f z) trivial trivial
  have d := g.anti (f x) (f z) trivial trivial
  have := g.le (a := f z) (b := f y) (d := f x) trivial trivial trivial (by omega) (by omega)
  omega
theorem sorted_of {α β : Type} [Inhabited α] {c : β → β → Int} (f : α → β) {d : Array α} (h : SortedIn (ltOf fun x y : α => c (f x) (f y)) 0 d.size d) : Sorted c (d.toList.map f) := by
 unfold Sorted
 rw [List.pairwise_map, List.pairwise_iff_getElem]
 intro i j hi hj hij
 have h1 := h i j (Nat.zero_le _) hij (by simpa using hj)
 simp only [ltOf, decide_eq_false_iff_not] at h1
 rw [getElem!_pos d j (by simpa using hj), getElem!_pos d i (by simpa using hi)] at h1
 simpa using h1
def SortP (B : Nat) (v : Value) (ps : List El) (w : World) (e : Ending) (w' : World) : Prop :=
 e = .returned (.tuple #[]) ∧ ∃ qs : List El, qs.Perm ps ∧ Sorted ord (qs.map (·.v)) ∧ OwnVv B w' v qs ∧ (∀ p ∈ qs, ElOk (fun b => B ≤ b ∧ some b ≠ v.ownBlock) w' p) ∧ KeptButv w w' v.ownBlock
theorem lift_list {β : Type} {p : β → Prop} : ∀ (l : List β), (∀ x ∈ l, p x) → ∃ m : List { x // p x }, m.map (·.1) = l
 | [], _ => ⟨[], rfl⟩
 | x :: l, h => by
  obtain ⟨m, hm⟩ := lift_list l fun y hy => h y (by simp [hy])
  exact ⟨⟨x, h x (by simp)⟩ :: m, by rw [List.map_cons, hm]⟩
def SEl (B g : Nat) (w : World) : Type := { p : El // ElOk (fun b => B ≤ b ∧ some b ≠ some g) w p }
def encSv {B g : Nat} {w : World} (a : SEl B g w) : List Value := encVv a.1
def cfS {B g : Nat} {w : World} (x y : SEl B g w) : Int := ord x.1.v y.1.v
theorem encS_lenv {B g : Nat} {w : World} (a : SEl B g w) : (encSv a).length = 8 := rfl
theorem sort_raw (B g cap : Nat) (w : World) [Inhabited (SEl B g w)] (l : List (SEl B g w)) (hown : OwnR 27 8 encSv B w (.slice (some ⟨g, 0, none⟩) l.length cap) l) (hn : l.length < 4611686018427387904) :
  Calls Tryz.prog 176 #[.slice (some ⟨g, 0, none⟩) l.length cap, ordV] w fun e w' =>
   e = .returned (.tuple #[]) ∧ ∃ d' n os, PermIn 0 l.toArray.size l.toArray d' ∧ SortedIn (ltOf cfS) 0 l.toArray.size d' ∧ w' = sortWorldK encSv 8 w g 0 n d' os := by
 have hg := (World.ownsRow.lt hown g rfl).2
 have hcmp : CmpLays (α := SEl B g w) Tryz.prog 86 #[] encSv 8 cfS g 0 l.toArray.size w := fun m os dk hdk x y => by
  have hR : ∀ z : SEl B g w, R (sortWorldK encSv 8 w g 0 m dk os) z.1.v z.1.it z.1.nm := fun z => Rep.to (fun b ha hb => ⟨trivial, sort_other w g m dk os b hb fun e => ha.2 (by rw [e])⟩) _ z.2
  exact order_c x.1.v y.1.v _ _ _ _ _ (hR x) (hR y)
 have eg : ∀ args w, (callFunc 86 args).run Tryz.prog w = .ok (.enter 86 args) w := enters_of Tryz.func86 (by kernel_rfl) rfl
 have hcon := AnyQ.slices_SortFunc Tryz.sortV 8 Tryz.isAgg27 Tryz.sizeOf27 encSv encS_lenv (fun x => encV_onev x.1) cfS (swo_of good_ord fun a : SEl B g w => a.1.v) 86 #[] g 0 cap l.toArray w eg hcmp (row_holds encS_lenv hown) hg (by simpa using hn)
 change Calls Tryz.prog 176 _ _ _ at hcon
 exact hcon
theorem sortV_some (B g n cap : Nat) (ps : List El) (w : World) (O : OwnVv B w (.slice (some ⟨g, 0, none⟩) n cap) ps) (E : ∀ p ∈ ps, ElOk (fun b => B ≤ b ∧ some b ≠ some g) w p) (h0 : ps ≠ []) (hn : ps.length < 4611686018427387904) (hnn : n = ps.length) :
  Calls Tryz.prog 176 #[.slice (some ⟨g, 0, none⟩) n cap, ordV] w (SortP B (.slice (some ⟨g, 0, none⟩) n cap) ps w) := by
 subst hnn
 obtain ⟨p0, hp0⟩ : ∃ p, p ∈ ps := by cases ps with | nil => exact absurd rfl h0 | cons p _ => exact ⟨p, by simp⟩
 haveI : Inhabited (SEl B g w) := ⟨⟨p0, E p0 hp0⟩⟩
 obtain ⟨l, hl⟩ : ∃ l : List (SEl B g w), l.map (·.1) = ps := lift_list ps E
 subst hl
 have hfl : (l.map (·.1)).flatMap encVv = l.flatMap encSv := by rw [List.flatMap_map]; rfl
 have hown : OwnR 27 8 encSv B w (.slice (some ⟨g, 0, none⟩) l.length cap) l := by
  unfold OwnVv OwnR at O; rw [hfl, List.length_map] at O; exact O
 rw [List.length_map] at hn ⊢
 refine (sort_raw B g cap w l hown hn).mono ?_
 rintro e w' ⟨rfl, d', m, os, hp, hs, rfl⟩
 obtain ⟨hsz, -, hperm⟩ := hp
 have hsz' : d'.size = l.length := by simpa using hsz
 have hperm' : d'.toList.Perm l := by
  have : (d'.extract 0 d'.size).toList.Perm (l.toArray.extract 0 l.toArray.size).toList := by
   rw [show d'.size = l.toArray.size from hsz]; exact hperm
  simpa using this
 refine ⟨rfl, d'.toList.map (·.1), hperm'.map _, ?_, ?_, ?_, rfl, rfl, size_sortWorldK_c encSv 8 w g 0 m d' os, fun b hb hne => sort_other w g m d' os b hb fun e => hne (by rw [e]; rfl)⟩
 ·have := sorted_of (c := ord) (fun a : SEl B g w => a.1.v) (d := d') (by rw [hsz]; exact hs)
  rw [List.map_map]; exact this
 ·have := row_after encS_lenv hown m d' os hsz'
  unfold OwnVv OwnR at *
  rw [List.flatMap_map, List.length_map]
  exact this
 ·intro p hp
  obtain ⟨a, -, rfl⟩ := List.mem_map.1 hp
  exact Rep.to (fun b ha hb => ⟨ha, sort_other w g m d' os b hb fun e => ha.2 (by rw [e]; rfl)⟩) _ a.2
end Go.Proofs.YtnchohglplobeaaGreat
namespace Go.Proofs.YtnchohglplobeaaGreat
open Go.RowKit Go.Sort
theorem flat_set8 (q : El) : ∀ (l : List El) (k : Nat), k < l.length →
  ((((((((l.flatMap encVv).set (k * 8) (.int .i64 q.v.h.k)).set (k * 8 + 1) (.bool q.v.h.b)).set (k * 8 + 2) (.int .i64 q.v.h.n)).set (k * 8 + 3) (.string q.v.h.s)).set (k * 8 + 4) (.string q.v.h.t)).set (k * 8 + 5) (.string q.v.h.i)).set (k * 8 + 6) (.slice q.ai q.v.l.length q.ci)).set (k * 8 + 7) (.slice q.an q.v.ns.length q.cn) = (l.set k q).flatMap encVv
 | [], k, h => by simp at h
 | x :: l, 0, _ => by simp [encVv, hdc, El.it, El.nm]
 | x :: l, k + 1, h => by
  have ih := flat_set8 q l k (by simpa using h)
  rw [List.set_cons_succ, List.flatMap_cons, List.flatMap_cons, ← ih]
  have e : ∀ c (m : List Value) (u : Value), (encVv x ++ m).set ((k + 1) * 8 + c) u = encVv x ++ m.set (k * 8 + c) u := fun c m u => by
   rw [List.set_append_right _ _ (by rw [encV_lenv]; omega), encV_lenv, show (k + 1) * 8 + c - 8 = k * 8 + c by omega]
  have e0 := e 0
  simp only [Nat.add_zero] at e0
  rw [e0, e 1, e 2, e 3, e 4, e 5, e 6, e 7]
theorem kept_setCellv (w : World) (g o : Nat) (v : Value) : KeptButv w (w.setCell ⟨g, o, none⟩ v) (some g) :=
 ⟨rfl, rfl, by simp, fun b _ hb => Below.heap_setCell w ⟨g, o, none⟩ v b fun e => hb (by rw [e])⟩
theorem stored8 {B : Nat} {w : World} {g cap n : Nat} {cs : List El} {k : Nat} (q : El) (h : OwnVv B w (.slice (some ⟨g, 0, none⟩) n cap) cs) (hk : k < cs.length) (hn : n = cs.length) :
  OwnVv B ((((((((w.setCell ⟨g, k * 8, none⟩ (.int .i64 q.v.h.k)).setCell ⟨g, k * 8 + 1, none⟩ (.bool q.v.h.b)).setCell ⟨g, k * 8 + 2, none⟩ (.int .i64 q.v.h.n)).setCell ⟨g, k * 8 + 3, none⟩ (.string q.v.h.s)).setCell ⟨g, k * 8 + 4, none⟩ (.string q.v.h.t)).setCell ⟨g, k * 8 + 5, none⟩ (.string q.v.h.i)).setCell ⟨g, k * 8 + 6, none⟩ (.slice q.ai q.v.l.length q.ci)).setCell ⟨g, k * 8 + 7, none⟩ (.slice q.an q.v.ns.length q.cn)) (.slice (some ⟨g, 0, none⟩) n cap) (cs.set k q) ∧
  KeptButv w ((((((((w.setCell ⟨g, k * 8, none⟩ (.int .i64 q.v.h.k)).setCell ⟨g, k * 8 + 1, none⟩ (.bool q.v.h.b)).setCell ⟨g, k * 8 + 2, none⟩ (.int .i64 q.v.h.n)).setCell ⟨g, k * 8 + 3, none⟩ (.string q.v.h.s)).setCell ⟨g, k * 8 + 4, none⟩ (.string q.v.h.t)).setCell ⟨g, k * 8 + 5, none⟩ (.string q.v.h.i)).setCell ⟨g, k * 8 + 6, none⟩ (.slice q.ai q.v.l.length q.ci)).setCell ⟨g, k * 8 + 7, none⟩ (.slice q.an q.v.ns.length q.cn)) (some g) := by
 subst hn
 refine ⟨?_, ?_⟩
 ·unfold OwnVv OwnR at *
  rw [← flat_set8 q cs k hk, List.length_set]
  have h0 := (World.ownsRow.stored h (k * 8) (.int .i64 q.v.h.k)).1
  have h1 := (World.ownsRow.stored h0 (k * 8 + 1) (.bool q.v.h.b)).1
  have h2 := (World.ownsRow.stored h1 (k * 8 + 2) (.int .i64 q.v.h.n)).1
  have h3 := (World.ownsRow.stored h2 (k * 8 + 3) (.string q.v.h.s)).1
  have h4 := (World.ownsRow.stored h3 (k * 8 + 4) (.string q.v.h.t)).1
  have h5 := (World.ownsRow.stored h4 (k * 8 + 5) (.string q.v.h.i)).1
  have h6 := (World.ownsRow.stored h5 (k * 8 + 6) (.slice q.ai q.v.l.length q.ci)).1
  exact (World.ownsRow.stored h6 (k * 8 + 7) (.slice q.an q.v.ns.length q.cn)).1
 ·exact (kept_setCellv _ _ _ _).trans ((kept_setCellv _ _ _ _).trans ((kept_setCellv _ _ _ _).trans ((kept_setCellv _ _ _ _).trans ((kept_setCellv _ _ _ _).trans ((kept_setCellv _ _ _ _).trans ((kept_setCellv _ _ _ _).trans (kept_setCellv _ _ _ _)))))))
def zeros (n : Nat) : List Value := (Builtin.zeroCells #[.int .i64 0, .bool false, .int .i64 0, .string ⟨#[]⟩, .string ⟨#[]⟩, .string ⟨#[]⟩, .slice none 0 0, .slice none 0 0] n).toList
theorem zeros_len (n : Nat) : (zeros n).length = n * 8 := by simp [zeros, size_zeroCells]
theorem zeros_one (n : Nat) : ∀ v ∈ zeros n, v.oneCell' = true := by
 intro v hv
 simp only [zeros, Builtin.zeroCells] at hv
 simp only [Array.toList_map, List.mem_map] at hv
 obtain ⟨t, _, rfl⟩ := hv
 have hm : t % 8 < 8 := Nat.mod_lt _ (by decide)
 show (_ : Value).oneCell' = true
 have : ∀ c, c < 8 → ((#[.int .i64 0, .bool false, .int .i64 0, .string ⟨#[]⟩, .string ⟨#[]⟩, .string ⟨#[]⟩, .slice none 0 0, .slice none 0 0] : Array Value)[c]!).oneCell' = true := by
  intro c hc
  match c, hc with
  | 0, _ => rfl
  | 1, _ => rfl
  | 2, _ => rfl
  | 3, _ => rfl
  | 4, _ => rfl
  | 5, _ => rfl
  | 6, _ => rfl
  | 7, _ => rfl
 exact this _ hm
theorem run_clearV (w : World) (g o n c : Nat) (ty : TypeId) (hn : 0 < n) (hc : ∀ j, j < n * 8 → (w.cell? ⟨g, o + j, none⟩).isSome = true) (hf : ∀ j, j < n * 8 → w.frozen? ⟨g, o + j, none⟩ = false) :
  (Builtin.clear_ #[24] ty #[.slice (some ⟨g, o, none⟩) n c]).run Tryz.prog w = .ok (.tuple #[]) (w.setCells g o (zeros n)) := by
 have hst := run_storeCells_cells (P := Tryz.prog) g o (zeros n) 0 w (by rw [zeros_len]; simpa using hc) (by rw [zeros_len]; simpa using hf) (zeros_one n)
 simp only [Nat.add_zero] at hst
 obtain ⟨m, rfl⟩ : ∃ m, n = m + 1 := ⟨n - 1, by omega⟩
 unfold zeros at hst
 simp [Builtin.clear_, run_underlying Tryz.underlying24, Tryz.zeroValue27, hst, zeros, Value.cells]
theorem kept_setCells (g : Nat) : ∀ (vs : List Value) (o : Nat) (w : World), KeptButv w (w.setCells g o vs) (some g)
 | [], _, w => KeptButv.refl w _
 | v :: r, o, w => by rw [World.setCells]; exact (kept_setCellv w g o v).trans (kept_setCells g r (o + 1) _)
theorem row_prefix {B : Nat} {w w' : World} {g cap n k : Nat} {cs : List El} (h : OwnVv B w (.slice (some ⟨g, 0, none⟩) n cap) cs) (E : ∀ p ∈ cs, ElOk (fun b => B ≤ b ∧ some b ≠ some g) w p) (hk : k ≤ cs.length) (hg : B ≤ g) (hn : n ≤ cap) (hcap : cap ≤ 9223372036854775807) (hcn : cs.length = n)
  (hc : ∀ j, j < k * 8 → w'.cell? ⟨g, j, none⟩ = w.cell? ⟨g, j, none⟩) (hK : KeptButv w w' (some g)) : RowAt (fun b => B ≤ b) w' ((cs.take k).map (·.v)) (.slice (some ⟨g, 0, none⟩) k cap) := by
 have hl : ((cs.take k).map (·.v)).length = k := by rw [List.length_map, List.length_take, Nat.min_eq_left hk]
 refine ⟨some ⟨g, 0, none⟩, cap, by rw [hl], ⟨by omega, hcap⟩, .inr ⟨g, 0, rfl, hg, repF_of fun j hj => ?_⟩⟩
 have hjk : j < k := by omega
 have hj' : j < cs.length := by omega
 have hget : ((cs.take k).map (·.v))[j] = cs[j].v := by simp
 refine ⟨cs[j].it, cs[j].nm, fun c u hu => ?_, ?_⟩
 ·rw [hget] at hu
  have h8 : c < 8 := by have := (List.getElem?_eq_some_iff.1 hu).1; simpa [hdc] using this
  rw [Nat.zero_add, hc (j * 8 + c) (by omega), OwnR.cell encV_lenv h j c hj' h8]
  exact hu
 ·rw [hget]
  exact Rep.to (fun b ha hb => ⟨ha.1, hK.2.2.2 b hb ha.2⟩) _ (E cs[j] (List.getElem_mem hj'))
end Go.Proofs.YtnchohglplobeaaGreat
namespace Go.Proofs.YtnchohglplobeaaGreat
open Go.RowKit Go.Sort
def sameV : Value := .func (.func 100) #[] #[]
theorem take_snoc {α : Type} {l : List α} {i : Nat} (h : i < l.length) : l.take (i + 1) = l.take i ++ [l[i]] := List.take_succ_eq_append_getElem h
theorem ddAt_snoc {α : Type} (c : α → α → Int) (x : α) : ∀ (l : List α) (p : α), ddAt c p (l ++ [x]) = if c x ((p :: l).getLast (by simp)) = 0 then ddAt c p l else ddAt c p l ++ [x]
 | [], p => by rw [List.nil_append, ddAt]; rfl
 | y :: l, p => by
  have ih := ddAt_snoc c x l y
  have hl : (p :: y :: l).getLast (by simp) = (y :: l).getLast (by simp) := by simp
  rw [hl, List.cons_append, ddAt, ddAt, ih]
  by_cases h1 : c y p = 0
  ·rw [if_pos h1, if_pos h1]
  ·rw [if_neg h1, if_neg h1]
   by_cases h2 : c x ((y :: l).getLast (by simp)) = 0
   ·rw [if_pos h2, if_pos h2]
   ·rw [if_neg h2, if_neg h2]; rfl
theorem take_last {α : Type} : ∀ (l : List α) (y : α) (m : Nat) (h : m ≤ l.length), (y :: l.take m).getLast (by simp) = (y :: l)[m]'(by simp; omega)
 | _, _, 0, _ => by simp
 | [], _, m + 1, h => by simp at h
 | z :: l, y, m + 1, h => by
  have ih := take_last l z m (by simpa using h)
  simp only [List.take_succ_cons, List.getElem_cons_succ]
  rw [List.getLast_cons (by simp)]
  exact ih
theorem dd_snoc {α : Type} (c : α → α → Int) {l : List α} {m : Nat} (hm : 1 ≤ m) (h : m < l.length) :
  dd c (l.take (m + 1)) = if c l[m] (l[m - 1]'(by omega)) = 0 then dd c (l.take m) else dd c (l.take m) ++ [l[m]] := by
 rw [take_snoc h]
 cases l with
 | nil => simp at h
 | cons y l =>
  obtain ⟨m, rfl⟩ : ∃ k, m = k + 1 := ⟨m - 1, by omega⟩
  have e := take_last l y m (by simp at h; omega)
  rw [List.take_succ_cons, List.cons_append, dd, dd, ddAt_snoc, e]
  simp only [Nat.add_sub_cancel]
  split
  ·rfl
  ·rfl
theorem dd_one {α : Type} (c : α → α → Int) {l : List α} (h : 1 ≤ l.length) : dd c (l.take 1) = l.take 1 := by
 cases l with
 | nil => simp at h
 | cons y l => rfl
theorem ownV_cells {B : Nat} {w : World} {g cap n : Nat} {l : List El} (h : OwnVv B w (.slice (some ⟨g, 0, none⟩) n cap) l) {j : Nat} (hj : j < l.length) : CellsAtv w g (j * 8) (hdc l[j].v.h (.slice l[j].ai l[j].v.l.length l[j].ci) (.slice l[j].an l[j].v.ns.length l[j].cn)) := fun c u hu => by
 have hc : c < 8 := by have := (List.getElem?_eq_some_iff.1 hu).1; simpa [hdc] using this
 rw [OwnR.cell encV_lenv h j c hj hc]
 exact hu
def CompP (B : Nat) (r : Option Nat) (l : List V) (w : World) (e : Ending) (w' : World) : Prop := ∃ v, e = .returned v ∧ RowAt (fun b => B ≤ b) w' l v ∧ KeptButv w w' r
set_option maxHeartbeats 4000000 in
theorem comp_some (B g cap : Nat) (ps : List El) (w : World) (O : OwnVv B w (.slice (some ⟨g, 0, none⟩) ps.length cap) ps) (E : ∀ p ∈ ps, ElOk (fun b => B ≤ b ∧ some b ≠ some g) w p) (hn : ps.length ≤ 70000) :
  Calls Tryz.prog 177 #[.slice (some ⟨g, 0, none⟩) ps.length cap, sameV] w (CompP B (some g) (dd ord (ps.map (·.v))) w) := by
 obtain ⟨_, _, hv, hc1, hc2, -⟩ := O.shape
 simp only [Value.slice.injEq] at hv
 obtain ⟨-, -, rfl⟩ := hv
 unfold sameV
 have hgB : B ≤ g := ((World.ownsRow.lt O) g rfl).1
 have HO := Lib.hid O
 have HE := Lib.hid E
 clear O E
 by_cases h2 : ps.length < 2
 ·have z2 : (ps.length : Int) < 2 := by omega
  have hd : dd ord (ps.map (·.v)) = ps.map (·.v) := by
   have := dd_one ord (l := ps.map (·.v))
   rcases Nat.lt_or_ge ps.length 1 with h | h
   ·rw [List.eq_nil_of_length_eq_zero (show ps.length = 0 by omega)]; rfl
   ·have h1 := this (by simpa using h)
    rwa [List.take_of_length_le (by simp; omega)] at h1
  rw [hd]
  have HR := Lib.hid (show RowAt (fun b => B ≤ b) w (ps.map (·.v)) (.slice (some ⟨g, 0, none⟩) ps.length cap) from ownV_row HO.out HE.out (fun b h => h.1) fun x hx => by simp [Value.ownBlock] at hx; subst hx; exact hgB)
  clear hd
  go_enter Tryz.func177, Tryz.ntmps177
  go_wp2_with fail
  go_ret
  exact ⟨_, rfl, HR.out, KeptButv.refl _ _⟩
 ·have z2 : ¬ (ps.length : Int) < 2 := by omega
  obtain ⟨r, hr⟩ : ∃ r, r = dd ord (ps.map (·.v)) := ⟨_, rfl⟩
  rw [← hr]
  have HRR := Lib.hid hr
  clear hr
  generalize hnn : ps.length = n at *
  go_enter Tryz.func177, Tryz.ntmps177
  go_wp2_with fail
  go_loopg [5] n (fun gk vi wr => ∃ i : Nat, vi = .int .i64 ((i : Int) + 1) ∧ i + 1 ≤ n ∧ n - i ≤ gk ∧ Hid (Gr w wr) ∧ Hid (dd ord ((ps.map (·.v)).take (i + 1)) = (ps.map (·.v)).take (i + 1)))
  case atStart => exact ⟨0, rfl, by omega, by omega, Lib.hid (Gr.refl _), Lib.hid (dd_one ord (by simp; omega))⟩
  case round =>
   obtain ⟨i, rfl, hi, hg, G, K⟩ := hrel
   have OW := Lib.hid (show OwnVv B wr (.slice (some ⟨g, 0, none⟩) n cap) ps from HO.out.low G.out.low)
   have EW := Lib.hid (show ∀ p ∈ ps, ElOk (fun b => B ≤ b ∧ some b ≠ some g) wr p from fun p hp => Rep.low (HE.out p hp) G.out.low)
   by_cases hlt : i + 1 < n
   ·have z1 : (i : Int) + 1 < (n : Int) := by omega
    have z3 : (i : Int) < (n : Int) := by omega
    have z4 : (0 : Int) ≤ (i : Int) + 1 := by omega
    have z5 : ((i : Int) + 1).toNat = i + 1 := by omega
    have z6 : IntKind.i64.wrap (i : Int) = (i : Int) := by rw [IntKind.wrap_i64]; omega
    have hp1 : i + 1 < ps.length := by omega
    have hp2 : i < ps.length := by omega
    obtain ⟨p, hp⟩ : ∃ p, p = ps[i + 1] := ⟨_, rfl⟩
    obtain ⟨p', hp'⟩ : ∃ p, p = ps[i] := ⟨_, rfl⟩
    have hcs := ownV_cells OW.out hp1
    have hcs' := ownV_cells OW.out hp2
    rw [← hp] at hcs
    rw [← hp'] at hcs'
    obtain ⟨e0, e1, e2, e3, e4, e5, e6, e7⟩ := cells8 hcs
    obtain ⟨d0, d1, d2, d3, d4, d5, d6, d7⟩ := cells8 hcs'
    have hR : R wr p.v p.it p.nm := by rw [hp]; exact (EW.out _ (List.getElem_mem hp1)).any
    have hR' : R wr p'.v p'.it p'.nm := by rw [hp']; exact (EW.out _ (List.getElem_mem hp2)).any
    have hcon := fun W (h : Low wr W) => same_c p.v p'.v W _ _ _ _ (hR.low h) (hR'.low h)
    have hsn := dd_snoc ord (l := ps.map (·.v)) (m := i + 1) (by omega) (by simpa using hp1)
    rw [K.out] at hsn
    simp only [Nat.add_sub_cancel, List.getElem_map, ← hp, ← hp'] at hsn
    obtain ⟨c, hc⟩ : ∃ c, c = ord p.v p'.v := ⟨_, rfl⟩
    rw [← hc] at hcon hsn
    have HC := Lib.hid hcon
    have HS := Lib.hid hsn
    have G1 := Lib.hid G.out.drew
    clear hcon hcs hcs' hR hR' hsn hc
    have HP := Lib.hid hp
    have HP' := Lib.hid hp'
    clear hp hp'
    unfold avv El.it El.nm at HC
    go_wp2_with fail
    go_region_held3 (fun w' => w'.cell? ⟨g, (i + 1) * 8, none⟩ = some (.int .i64 p.v.h.k) ∧ w'.cell? ⟨g, (i + 1) * 8 + 1, none⟩ = some (.bool p.v.h.b) ∧ w'.cell? ⟨g, (i + 1) * 8 + 2, none⟩ = some (.int .i64 p.v.h.n) ∧ w'.cell? ⟨g, (i + 1) * 8 + 3, none⟩ = some (.string p.v.h.s) ∧ w'.cell? ⟨g, (i + 1) * 8 + 4, none⟩ = some (.string p.v.h.t) ∧ w'.cell? ⟨g, (i + 1) * 8 + 5, none⟩ = some (.string p.v.h.i) ∧ w'.cell? ⟨g, (i + 1) * 8 + 6, none⟩ = some (.slice p.ai p.v.l.length p.ci) ∧ w'.cell? ⟨g, (i + 1) * 8 + 7, none⟩ = some (.slice p.an p.v.ns.length p.cn) ∧ w'.cell? ⟨g, i * 8, none⟩ = some (.int .i64 p'.v.h.k) ∧ w'.cell? ⟨g, i * 8 + 1, none⟩ = some (.bool p'.v.h.b) ∧ w'.cell? ⟨g, i * 8 + 2, none⟩ = some (.int .i64 p'.v.h.n) ∧ w'.cell? ⟨g, i * 8 + 3, none⟩ = some (.string p'.v.h.s) ∧ w'.cell? ⟨g, i * 8 + 4, none⟩ = some (.string p'.v.h.t) ∧ w'.cell? ⟨g, i * 8 + 5, none⟩ = some (.string p'.v.h.i) ∧ w'.cell? ⟨g, i * 8 + 6, none⟩ = some (.slice p'.ai p'.v.l.length p'.ci) ∧ w'.cell? ⟨g, i * 8 + 7, none⟩ = some (.slice p'.an p'.v.ns.length p'.cn)) (go_keep) (first
     | (go_at_call 100; refine (HC.out _ (Gr.refl _).drew.low).mono ?_; rintro e w1 ⟨rfl, gr⟩; have e0 := gr.cell e0; have d0 := gr.cell d0; have e1 := gr.cell e1; have d1 := gr.cell d1; have e2 := gr.cell e2; have d2 := gr.cell d2; have e3 := gr.cell e3; have d3 := gr.cell d3; have e4 := gr.cell e4; have d4 := gr.cell d4; have e5 := gr.cell e5; have d5 := gr.cell d5; have e6 := gr.cell e6; have d6 := gr.cell d6; have e7 := gr.cell e7; have d7 := gr.cell d7; have G2 := Lib.hid (G1.out.trans gr)))
    by_cases h0 : c = 0
    ·subst h0
     have hwx : IntKind.i64.wrap ((i : Int) + 1) = (i : Int) + 1 := by rw [IntKind.wrap_i64]; omega
     have z7 : (i : Int) + 1 ≤ (cap : Int) := by omega
     have z8 : (i : Int) + 1 ≤ (n : Int) := by omega
     clear e0 e1 e2 e3 e4 e5 e6 e7 d0 d1 d2 d3 d4 d5 d6 d7 gr HC
     have hP := Lib.hid (show dd ord ((ps.map (·.v)).take (i + 1 + 1)) = (ps.map (·.v)).take (i + 1) by rw [HS.out, if_pos rfl])
     go_wp2_with fail
     have LW := Lib.hid G2.out.low
     clear z1 z3 z4 z5 z6 hwx z7 z8
     go_loopg [5, 7] n (fun gk2 vk vj wr2 => ∃ (k j : Nat) (cs : List El), vk = .int .i64 (k : Int) ∧ vj = .int .i64 ((j : Int) + 1) ∧ k ≤ i + 1 + j ∧ i + 1 + j + 1 ≤ n ∧ n - j ≤ gk2 ∧ cs.length = n ∧
      Hid (OwnVv B wr2 (.slice (some ⟨g, 0, none⟩) n cap) cs) ∧ Hid (∀ p ∈ cs, ElOk (fun b => B ≤ b ∧ some b ≠ some g) wr2 p) ∧ Hid ((cs.take k).map (·.v) = dd ord ((ps.map (·.v)).take (i + 1 + j + 1))) ∧
      Hid (∀ x (h1 : x < cs.length) (h2 : x < ps.length), i + 1 + j ≤ x → cs[x] = ps[x]) ∧ Hid (KeptButv w wr2 (some g)))
     case atStart => exact ⟨i + 1, 0, ps, rfl, rfl, by omega, by omega, by omega, hnn, Lib.hid (HO.out.low LW.out), Lib.hid fun p hp => Rep.low (HE.out p hp) LW.out, Lib.hid (by rw [List.map_take]; exact hP.out.symm), Lib.hid fun x h1 h2 _ => rfl, Lib.hid (KeptButv.of_low LW.out)⟩
     case round =>
      obtain ⟨k, j, cs, rfl, rfl, hk, hj, hg2, hcl, O2, E2, T2, Q2, K2⟩ := hrel
      by_cases hl2 : i + 1 + j + 1 < n
      ·have z1 : (j : Int) + 1 < ((n - (i + 1) : Nat) : Int) := by omega
       have z3 : (j : Int) < ((n - (i + 1) : Nat) : Int) := by omega
       have z4 : (0 : Int) ≤ (j : Int) + 1 := by omega
       have z5 : ((j : Int) + 1).toNat = j + 1 := by omega
       have z6 : IntKind.i64.wrap (j : Int) = (j : Int) := by rw [IntKind.wrap_i64]; omega
       have hp1 : i + 1 + j + 1 < cs.length := by omega
       have hp2 : i + 1 + j < cs.length := by omega
       have hp3 : i + 1 + j + 1 < ps.length := by omega
       have hp4 : i + 1 + j < ps.length := by omega
       have hp5 : k < cs.length := by omega
       obtain ⟨q, hq⟩ : ∃ p, p = cs[i + 1 + j + 1] := ⟨_, rfl⟩
       obtain ⟨q', hq'⟩ : ∃ p, p = cs[i + 1 + j] := ⟨_, rfl⟩
       have hcs := ownV_cells O2.out hp1
       have hcs' := ownV_cells O2.out hp2
       rw [← hq, show (i + 1 + j + 1) * 8 = (i + 1) * 8 + (j + 1) * 8 by omega] at hcs
       rw [← hq', show (i + 1 + j) * 8 = (i + 1) * 8 + j * 8 by omega] at hcs'
       obtain ⟨e0, e1, e2, e3, e4, e5, e6, e7⟩ := cells8 hcs
       obtain ⟨d0, d1, d2, d3, d4, d5, d6, d7⟩ := cells8 hcs'
       have hR : R wr q.v q.it q.nm := by rw [hq]; exact (E2.out _ (List.getElem_mem hp1)).any
       have hR' : R wr q'.v q'.it q'.nm := by rw [hq']; exact (E2.out _ (List.getElem_mem hp2)).any
       have hcon := fun W (h : Low wr W) => same_c q.v q'.v W _ _ _ _ (hR.low h) (hR'.low h)
       have hsn := dd_snoc ord (l := ps.map (·.v)) (m := i + 1 + j + 1) (by omega) (by simpa using hp3)
       rw [← T2.out] at hsn
       simp only [Nat.add_sub_cancel, List.getElem_map, ← Q2.out _ hp1 hp3 (by omega), ← Q2.out _ hp2 hp4 (Nat.le_refl _), ← hq, ← hq'] at hsn
       obtain ⟨c, hc⟩ : ∃ c, c = ord q.v q'.v := ⟨_, rfl⟩
       rw [← hc] at hcon hsn
       have HC := Lib.hid hcon
       have HS2 := Lib.hid hsn
       have G3 := Lib.hid ((Gr.refl wr).drew)
       have hqm : q ∈ cs := by rw [hq]; exact List.getElem_mem hp1
       have HQM := Lib.hid hqm
       clear hcon hcs hcs' hR hR' hsn hc hqm hq hq'
       unfold avv El.it El.nm at HC
       go_wp2_with fail
       go_region_held3 (fun w' => w'.cell? ⟨g, (i + 1) * 8 + (j + 1) * 8, none⟩ = some (.int .i64 q.v.h.k) ∧ w'.cell? ⟨g, (i + 1) * 8 + (j + 1) * 8 + 1, none⟩ = some (.bool q.v.h.b) ∧ w'.cell? ⟨g, (i + 1) * 8 + (j + 1) * 8 + 2, none⟩ = some (.int .i64 q.v.h.n) ∧ w'.cell? ⟨g, (i + 1) * 8 + (j + 1) * 8 + 3, none⟩ = some (.string q.v.h.s) ∧ w'.cell? ⟨g, (i + 1) * 8 + (j + 1) * 8 + 4, none⟩ = some (.string q.v.h.t) ∧ w'.cell? ⟨g, (i + 1) * 8 + (j + 1) * 8 + 5, none⟩ = some (.string q.v.h.i) ∧ w'.cell? ⟨g, (i + 1) * 8 + (j + 1) * 8 + 6, none⟩ = some (.slice q.ai q.v.l.length q.ci) ∧ w'.cell? ⟨g, (i + 1) * 8 + (j + 1) * 8 + 7, none⟩ = some (.slice q.an q.v.ns.length q.cn) ∧ w'.cell? ⟨g, (i + 1) * 8 + j * 8, none⟩ = some (.int .i64 q'.v.h.k) ∧ w'.cell? ⟨g, (i + 1) * 8 + j * 8 + 1, none⟩ = some (.bool q'.v.h.b) ∧ w'.cell? ⟨g, (i + 1) * 8 + j * 8 + 2, none⟩ = some (.int .i64 q'.v.h.n) ∧ w'.cell? ⟨g, (i + 1) * 8 + j * 8 + 3, none⟩ = some (.string q'.v.h.s) ∧ w'.cell? ⟨g, (i + 1) * 8 + j * 8 + 4, none⟩ = some (.string q'.v.h.t) ∧ w'.cell? ⟨g, (i + 1) * 8 + j * 8 + 5, none⟩ = some (.string q'.v.h.i) ∧ w'.cell? ⟨g, (i + 1) * 8 + j * 8 + 6, none⟩ = some (.slice q'.ai q'.v.l.length q'.ci) ∧ w'.cell? ⟨g, (i + 1) * 8 + j * 8 + 7, none⟩ = some (.slice q'.an q'.v.ns.length q'.cn)) (go_keep) (first
        | (go_at_call 100; refine (HC.out _ (Gr.refl _).drew.low).mono ?_; rintro e w1 ⟨rfl, gr⟩; have e0 := gr.cell e0; have d0 := gr.cell d0; have e1 := gr.cell e1; have d1 := gr.cell d1; have e2 := gr.cell e2; have d2 := gr.cell d2; have e3 := gr.cell e3; have d3 := gr.cell d3; have e4 := gr.cell e4; have d4 := gr.cell d4; have e5 := gr.cell e5; have d5 := gr.cell d5; have e6 := gr.cell e6; have d6 := gr.cell d6; have e7 := gr.cell e7; have d7 := gr.cell d7; have G4 := Lib.hid (G3.out.trans gr)))
       by_cases h0 : c = 0
       ·subst h0
        have hT := HS2.out
        rw [if_pos rfl] at hT
        have HT := Lib.hid hT
        clear e0 e1 e2 e3 e4 e5 e6 e7 d0 d1 d2 d3 d4 d5 d6 d7 gr HC hT
        go_wp2_with fail
        go_roundg (n - (j + 1))
        case measure => omega
        case rel =>
         exact ⟨k, j + 1, cs, rfl, by go_num, by omega, by omega, by omega, hcl, Lib.hid (O2.out.low G4.out.low), Lib.hid fun p hp => Rep.low (E2.out p hp) G4.out.low, Lib.hid HT.out.symm, Lib.hid fun x h1 h2 h => Q2.out x h1 h2 (by omega), Lib.hid (K2.out.trans (KeptButv.of_low G4.out.low))⟩
       ·have hO := O2.out.low G4.out.low
        have hks := ownV_cells (show OwnVv B _ (.slice (some ⟨g, 0, none⟩) n cap) cs from hO) hp5
        obtain ⟨s0, s1, s2, s3, s4, s5, s6, s7⟩ := cells8 hks
        have f0 := OwnR.frozen hO (k * 8)
        have f1 := OwnR.frozen hO (k * 8 + 1)
        have f2 := OwnR.frozen hO (k * 8 + 2)
        have f3 := OwnR.frozen hO (k * 8 + 3)
        have f4 := OwnR.frozen hO (k * 8 + 4)
        have f5 := OwnR.frozen hO (k * 8 + 5)
        have f6 := OwnR.frozen hO (k * 8 + 6)
        have f7 := OwnR.frozen hO (k * 8 + 7)
        have HO4 := Lib.hid hO
        have zk : (k : Int) < (n : Int) := by omega
        have hb : (!(c == 0)) = true := by simpa using h0
        have zk1 : IntKind.i64.wrap ((k : Int) + 1) = (k : Int) + 1 := by rw [IntKind.wrap_i64]; omega
        clear hO hks d0 d1 d2 d3 d4 d5 d6 d7 gr HC
        go_wp2_with fail
        ·obtain ⟨O3, K3⟩ := stored8 q (show OwnVv B _ (.slice (some ⟨g, 0, none⟩) n cap) cs from HO4.out) hp5 hcl.symm
         have hT := HS2.out
         rw [if_neg h0] at hT
         have O4 := Lib.hid O3
         have K4 := Lib.hid K3
         have HT := Lib.hid hT
         clear O3 K3 hT s0 s1 s2 s3 s4 s5 s6 s7 f0 f1 f2 f3 f4 f5 f6 f7 e0 e1 e2 e3 e4 e5 e6 e7
         go_roundg (n - (j + 1))
         case measure => omega
         case rel =>
          refine ⟨k + 1, j + 1, cs.set k q, by go_num, by go_num, by omega, by omega, by omega, by rw [List.length_set]; exact hcl, O4, Lib.hid fun p hp => ?_, Lib.hid ?_, Lib.hid fun x h1 h2 h => ?_, Lib.hid ((K2.out.trans (KeptButv.of_low G4.out.low)).trans K4.out)⟩
          ·have hpc : p ∈ cs := by
            rcases List.mem_or_eq_of_mem_set hp with h | h
            ·exact h
            ·rw [h]; exact HQM.out
           exact K4.out.el (Rep.low (E2.out p hpc) G4.out.low)
          ·rw [show i + 1 + (j + 1) + 1 = i + 1 + j + 1 + 1 by omega, HT.out, take_snoc (by rw [List.length_set]; exact hp5), List.getElem_set_self, List.take_set_of_le (Nat.le_refl _), List.map_append]
           rfl
          ·rw [List.getElem_set_ne (by omega)]
           exact Q2.out x (by simpa using h1) h2 (by omega)
        ·exfalso
         rename_i hx
         rw [hb] at hx
         simp at hx
      ·have hend : i + 1 + j + 1 = n := by omega
       have z1 : ¬ (j : Int) + 1 < ((n - (i + 1) : Nat) : Int) := by omega
       have zk2 : (k : Int) ≤ (n : Int) := by omega
       have zk3 : (k : Int) ≤ (cap : Int) := by omega
       have zk5 : k ≤ n := by omega
       have hcell : ∀ x, x < (n - k) * 8 → (wr.cell? ⟨g, k * 8 + x, none⟩).isSome = true := fun x hx => by
        have h8 : x % 8 < 8 := Nat.mod_lt _ (by decide)
        have hxk : k + x / 8 < cs.length := by omega
        have := OwnR.cell encV_lenv O2.out (k + x / 8) (x % 8) hxk h8
        rw [show (k + x / 8) * 8 + x % 8 = k * 8 + x by omega, List.getElem?_eq_getElem (by rw [encV_lenv]; exact h8)] at this
        rw [this]; rfl
       have hfr : ∀ x, x < (n - k) * 8 → wr.frozen? ⟨g, k * 8 + x, none⟩ = false := fun x _ => OwnR.frozen O2.out _
       have hcl2 := fun ty => run_clearV wr g (k * 8) (n - k) (cap - k) ty (by omega) hcell hfr
       have K3 := kept_setCells g (zeros (n - k)) (k * 8) wr
       have hrow := row_prefix (w' := wr.setCells g (k * 8) (zeros (n - k))) (k := k) O2.out E2.out (by omega) hgB (by omega) (by omega) hcl (fun x hx => World.cell?_setCells_out g _ _ _ _ fun _ _ => .inl hx) K3
       rw [T2.out, hend, List.take_of_length_le (by simp; omega), ← HRR.out] at hrow
       have HROW := Lib.hid hrow
       have HK3 := Lib.hid K3
       clear hcell hfr hrow K3
       go_wp2_with fail
       go_ret
       exact ⟨_, rfl, HROW.out, K2.out.trans HK3.out⟩
    ·have hT := HS.out
     rw [if_neg h0] at hT
     have hb : (c == 0) = false := by simpa using h0
     have HT := Lib.hid hT
     clear e0 e1 e2 e3 e4 e5 e6 e7 d0 d1 d2 d3 d4 d5 d6 d7 gr HC hT
     go_wp2_with fail
     go_roundg (n - (i + 1))
     case measure => omega
     case rel =>
      refine ⟨i + 1, by go_num, by omega, by omega, G2, Lib.hid ?_⟩
      rw [HT.out, HP.out, take_snoc (show i + 1 < (ps.map (·.v)).length by simpa using hp1), List.getElem_map]
   ·have z1 : ¬ (i : Int) + 1 < (n : Int) := by omega
    have hrr : r = ps.map (·.v) := by
     have := K.out
     rw [List.take_of_length_le (by simp; omega)] at this
     rw [HRR.out]; exact this
    have HR := Lib.hid (show RowAt (fun b => B ≤ b) wr r (.slice (some ⟨g, 0, none⟩) n cap) by
     rw [hrr]; exact ownV_row OW.out EW.out (fun b h => h.1) fun x hx => by simp [Value.ownBlock] at hx; subst hx; exact hgB)
    clear hrr
    go_wp2_with fail
    go_ret
    exact ⟨_, rfl, HR.out, KeptButv.of_low G.out.low⟩
end Go.Proofs.YtnchohglplobeaaGreat
