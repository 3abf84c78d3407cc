/- A record's attribute of a name, as the program finds it and as the reference does. No condition. -/
import Derived.Test.YtdblkjcimegoeaaWhol2
namespace Go.Proofs.Ytdblkjcimegoeaa
open Go.RowKit Go.Sort
def hd0 : Hd := ⟨0, false, 0, ⟨#[]⟩, ⟨#[]⟩, ⟨#[]⟩⟩
def V0 : V := .mk hd0 [] []
theorem r_V0 (w : World) : R w V0 (.slice none 0 0) (.slice none 0 0) := by
  unfold R V0
  rw [Rep]
  exact ⟨⟨by decide, by decide, by decide⟩, ⟨none, 0, rfl, by simp, by simp, .inl rfl⟩, none, 0, rfl, ⟨by simp, by simp⟩, .inl rfl⟩
/-- Where a record has a name; below 0: nowhere. -/
def getI (v : V) (x : ByteArray) : Int := if v.h.k = 6 then (if Lib.idxOfS v.ns x < 0 ∨ (v.l.length : Int) ≤ Lib.idxOfS v.ns x then -1 else Lib.idxOfS v.ns x) else -1
/-- What it has there. -/
def getV (v : V) (x : ByteArray) : V := if 0 ≤ getI v x then v.l.getD (getI v x).toNat V0 else V0
theorem sIdx_c (ns : List ByteArray) (x : ByteArray) (w : World) (nm : Value) (h : Na w ns nm) : Calls Try.prog 14 #[nm, .string x] w fun e w' => e = .returned (.int .i64 (Lib.idxOfS ns x)) ∧ w = w' := by
  obtain ⟨ao, cap, rfl, hl, -, hx⟩ := h
  rcases hx with h0 | ⟨b, o, rfl, -, hc⟩
  · subst h0
    exact (Try.slices_Index_string_empty ao cap x w).mono fun _ _ ⟨h, k⟩ => ⟨h, k.symm⟩
  · have h := Try.slices_Index_string b o ns.length cap ns x w (Nat.le_refl _) (by omega) fun j hj => by rw [hc j hj]; simp [List.getD, List.getElem?_eq_getElem hj]
    rw [List.take_length] at h
    exact h.mono fun _ _ ⟨h, k⟩ => ⟨h, k.symm⟩
/-- What Get answers. -/
def GetP (x : V) (b : Bool) (w : World) (e : Ending) (w' : World) : Prop := ∃ it nm, e = .returned (.tuple #[av x.h it nm, .bool b]) ∧ R w' x it nm ∧ Gr w w'
theorem retG {v v' : V} {it nm : Value} {b b' : Bool} (hv : v = v') (hb : b = b') : Ending.returned (.tuple #[av v.h it nm, .bool b]) = .returned (.tuple #[av v'.h it nm, .bool b']) := by rw [hv, hb]
set_option maxHeartbeats 1600000 in
theorem get_c (v : V) (x : ByteArray) (w : World) (it nm : Value) (hr : R w v it nm) : Calls Try.prog 7 #[av v.h it nm, .string x] w (GetP (getV v x) (decide (0 ≤ getI v x)) w) := by
  obtain ⟨ai, ci, an, cn, rfl, rfl⟩ := r_slices hr
  have NA := Lib.hid (show Na w v.ns (.slice an v.ns.length cn) from (rep_v.1 hr).2.1)
  have RA := Lib.hid (show Ro w v.l (.slice ai v.l.length ci) from (rep_v.1 hr).2.2)
  clear hr
  by_cases hk : v.h.k = 6
  · obtain ⟨j, hj⟩ : ∃ j, j = Lib.idxOfS v.ns x := ⟨_, rfl⟩
    have CI := Lib.hid fun W h => sIdx_c v.ns x W (.slice an v.ns.length cn) h
    rw [← hj] at CI
    have hgi : getI v x = if j < 0 ∨ (v.l.length : Int) ≤ j then -1 else j := by rw [hj]; unfold getI; rw [if_pos hk]
    clear hj
    by_cases h1 : j < 0
    · have e1 : getI v x = -1 := by rw [hgi, if_pos (.inl h1)]
      have e2 : getV v x = V0 := by unfold getV; rw [e1]; rfl
      have e3 : decide (0 ≤ getI v x) = false := by rw [e1]; rfl
      rw [e2, e3]
      unfold av
      rw [hk]
      clear e1 e2 e3
      clear hgi hk
      go_enter Try.func7, Try.ntmps7
      go_wp2_with fail
      refine (CI.out _ (NA.out.low ((Gr.alloc (Gr.alloc (Gr.refl w) _) _).low))).mono ?_
      rintro e w' ⟨rfl, rfl⟩
      go_wp2_with fail
      refine bodyPost_ret (v := .tuple #[.agg #[.int .i64 0, .bool false, .int .i64 0, .string ⟨#[]⟩, .string ⟨#[]⟩, .string ⟨#[]⟩, .slice none 0 0, .slice none 0 0], .bool false]) (by simp [results, Try.results7, go_sem]; try rfl) rfl ?_
      exact ⟨_, _, rfl, r_V0 _, Gr.alloc (Gr.alloc (Gr.refl w) _) _⟩
    · by_cases h2 : (v.l.length : Int) ≤ j
      · have e1 : getI v x = -1 := by rw [hgi, if_pos (.inr h2)]
        have e2 : getV v x = V0 := by unfold getV; rw [e1]; rfl
        have e3 : decide (0 ≤ getI v x) = false := by rw [e1]; rfl
        rw [e2, e3]
        unfold av
        rw [hk]
        clear e1 e2 e3
        clear hgi hk
        go_enter Try.func7, Try.ntmps7
        go_wp2_with fail
        refine (CI.out _ (NA.out.low ((Gr.alloc (Gr.alloc (Gr.refl w) _) _).low))).mono ?_
        rintro e w' ⟨rfl, rfl⟩
        go_wp2_with fail
        refine bodyPost_ret (v := .tuple #[.agg #[.int .i64 0, .bool false, .int .i64 0, .string ⟨#[]⟩, .string ⟨#[]⟩, .string ⟨#[]⟩, .slice none 0 0, .slice none 0 0], .bool false]) (by simp [results, Try.results7, go_sem]; try rfl) rfl ?_
        exact ⟨_, _, rfl, r_V0 _, Gr.alloc (Gr.alloc (Gr.refl w) _) _⟩
      · have e1 : getI v x = j := by rw [hgi, if_neg (by omega)]
        obtain ⟨q, rfl⟩ : ∃ q : Nat, j = q := ⟨j.toNat, by omega⟩
        have hq : q < v.l.length := by omega
        have e2 : getV v x = v.l[q] := by unfold getV; rw [e1, if_pos (by omega)]; simp [List.getD, List.getElem?_eq_getElem hq]
        have e3 : decide (0 ≤ getI v x) = true := by rw [e1]; simp
        rw [e2, e3]
        clear e1 e2 e3 h1
        have h3 : (q : Int) < (v.l.length : Int) := by omega
        obtain ⟨b, o, bi, di, bn, dn, rfl, hcs, hrx⟩ := ro_at RA.out hq
        have k8 : ∀ X Y, CellsAt ((w.alloc X).alloc Y) b (o + q * 8) (hdc v.l[q].h (.slice bi v.l[q].l.length di) (.slice bn v.l[q].ns.length dn)) := fun X Y => (Gr.alloc (Gr.alloc (Gr.refl w) _) _).low.cells hcs
        have c0 := fun X Y => (cells8 (k8 X Y)).1
        have c1 := fun X Y => (cells8 (k8 X Y)).2.1
        have c2 := fun X Y => (cells8 (k8 X Y)).2.2.1
        have c3 := fun X Y => (cells8 (k8 X Y)).2.2.2.1
        have c4 := fun X Y => (cells8 (k8 X Y)).2.2.2.2.1
        have c5 := fun X Y => (cells8 (k8 X Y)).2.2.2.2.2.1
        have c6 := fun X Y => (cells8 (k8 X Y)).2.2.2.2.2.2.1
        have c7 := fun X Y => (cells8 (k8 X Y)).2.2.2.2.2.2.2
        have HX := Lib.hid hrx
        clear hcs hrx k8 hgi
        unfold av
        rw [hk]
        clear hk
        go_enter Try.func7, Try.ntmps7
        go_wp2_with fail
        refine (CI.out _ (NA.out.low ((Gr.alloc (Gr.alloc (Gr.refl w) _) _).low))).mono ?_
        rintro e w' ⟨rfl, rfl⟩
        go_wp2_with fail
        refine bodyPost_ret (v := .tuple #[.agg #[.int .i64 v.l[q].h.k, .bool v.l[q].h.b, .int .i64 v.l[q].h.n, .string v.l[q].h.s, .string v.l[q].h.t, .string v.l[q].h.i, .slice bi v.l[q].l.length di, .slice bn v.l[q].ns.length dn], .bool true]) (by simp [results, Try.results7, go_sem]; try rfl) rfl ?_
        exact ⟨_, _, rfl, HX.out.low (Gr.alloc (Gr.alloc (Gr.refl w) _) _).low, Gr.alloc (Gr.alloc (Gr.refl w) _) _⟩
  · have e1 : getI v x = -1 := by unfold getI; rw [if_neg hk]
    have e2 : getV v x = V0 := by unfold getV; rw [e1]; rfl
    have e3 : decide (0 ≤ getI v x) = false := by rw [e1]; rfl
    rw [e2, e3]
    unfold av
    clear e1 e2 e3
    go_enter Try.func7, Try.ntmps7
    go_wp2_with fail
    refine bodyPost_ret (v := .tuple #[.agg #[.int .i64 0, .bool false, .int .i64 0, .string ⟨#[]⟩, .string ⟨#[]⟩, .string ⟨#[]⟩, .slice none 0 0, .slice none 0 0], .bool false]) (by simp [results, Try.results7, go_sem]; try rfl) rfl ?_
    exact ⟨_, _, rfl, r_V0 _, Gr.alloc (Gr.alloc (Gr.refl w) _) _⟩
theorem idx_hit {ns : List ByteArray} {x : ByteArray} {k : Nat} (hk : k < ns.length) (h : ns[k] = x) (hne : ∀ j (hj : j < ns.length), j < k → ns[j] ≠ x) : Lib.idxOfS ns x = k := by
  have := Lib.idxOfS_hit ns ns.length k x hk (Nat.le_refl _) (by simp [List.getD, List.getElem?_eq_getElem hk, h]) fun j hj => by
    have := hne j (by omega) hj
    simpa [List.getD, List.getElem?_eq_getElem (show j < ns.length by omega)] using this
  rwa [List.take_length] at this
theorem idx_miss {ns : List ByteArray} {x : ByteArray} (hne : ∀ j (hj : j < ns.length), ns[j] ≠ x) : Lib.idxOfS ns x = -1 := by
  have := Lib.idxOfS_miss ns ns.length x fun j hj => by
    have := hne j hj
    simpa [List.getD, List.getElem?_eq_getElem hj] using this
  rwa [List.take_length] at this
end Go.Proofs.Ytdblkjcimegoeaa
