/- The order of rows of values, item by item. No condition. -/
import Derived.Test.YtbfaccndgjilmaaGreatFew
namespace Go.Proofs.YtbfaccndgjilmaaGreat
open Go.RowKit Go.Sort
/-- .. behind a new block too. -/
theorem cells8a {w : World} {b o : Nat} {h : Hd} {it nm : Value} (hc : CellsAt w b o (hdc h it nm)) :
    (∀ x, (w.alloc x).cell? ⟨b, o, none⟩ = some (.int .i64 h.k)) ∧ (∀ x, (w.alloc x).cell? ⟨b, o + 1, none⟩ = some (.bool h.b)) ∧ (∀ x, (w.alloc x).cell? ⟨b, o + 2, none⟩ = some (.int .i64 h.n)) ∧
    (∀ x, (w.alloc x).cell? ⟨b, o + 3, none⟩ = some (.string h.s)) ∧ (∀ x, (w.alloc x).cell? ⟨b, o + 4, none⟩ = some (.string h.t)) ∧ (∀ x, (w.alloc x).cell? ⟨b, o + 5, none⟩ = some (.string h.i)) ∧
    (∀ x, (w.alloc x).cell? ⟨b, o + 6, none⟩ = some it) ∧ (∀ x, (w.alloc x).cell? ⟨b, o + 7, none⟩ = some nm) :=
  have k : ∀ x, CellsAt (w.alloc x) b o (hdc h it nm) := fun x => (Gr.alloc (Gr.refl w) x).low.cells hc
  ⟨fun x => k x 0 _ rfl, fun x => k x 1 _ rfl, fun x => k x 2 _ rfl, fun x => k x 3 _ rfl, fun x => k x 4 _ rfl, fun x => k x 5 _ rfl, fun x => k x 6 _ rfl, fun x => k x 7 _ rfl⟩
/-- A value in memory, wherever. -/
def R (w : World) (v : V) (it nm : Value) : Prop := Rep (fun _ => True) w v it nm
def Ro (w : World) (l : List V) (it : Value) : Prop := RowAt (fun _ => True) w l it
theorem R.low {w w' : World} {v : V} {it nm : Value} (hr : R w v it nm) (h : Low w w') : R w' v it nm := Rep.low hr h
theorem Ro.low {w w' : World} {l : List V} {it : Value} (hr : Ro w l it) (h : Low w w') : Ro w' l it := RowAt.low hr h
theorem Rep.any {A : Nat → Prop} {w : World} {v : V} {it nm : Value} (hr : Rep A w v it nm) : R w v it nm := Rep.to (fun _ _ _ => ⟨trivial, rfl⟩) v hr
theorem RowAt.any {A : Nat → Prop} {w : World} {l : List V} {it : Value} (hr : RowAt A w l it) : Ro w l it := RowAt.to (fun _ _ _ => ⟨trivial, rfl⟩) hr
/-- What an order answers. -/
def OrdC (f : Nat) (x y : V) : Prop := ∀ (w : World) (it nm it' nm' : Value), R w x it nm → R w y it' nm' →
  Calls Tryz.prog f #[av x.h it nm, av y.h it' nm'] w fun e w' => e = .returned (.int .i64 (ord x y)) ∧ Gr w w'
theorem retI {a b : Int} (h : a = b) : Ending.returned (.int .i64 b) = .returned (.int .i64 a) := by rw [h]
theorem drop_cons {α : Type} {l : List α} {i : Nat} (h : i < l.length) : l.drop i = l[i] :: l.drop (i + 1) := List.drop_eq_getElem_cons h
/-- An item's cells, and what they lead to, in whatever world behind. -/
theorem r_slices {w : World} {x : V} {it nm : Value} (h : R w x it nm) : ∃ ai ci an cn, it = .slice ai x.l.length ci ∧ nm = .slice an x.ns.length cn := by
  obtain ⟨-, ⟨an, cn, rfl, -⟩, ai, ci, rfl, -⟩ := rep_v.1 h
  exact ⟨_, _, _, _, rfl, rfl⟩
theorem ro_at {w : World} {l : List V} {ao : Option Addr} {n cap i : Nat} (hr : Ro w l (.slice ao n cap)) (hi : i < l.length) : ∃ b o ai ci an cn, ao = some ⟨b, o, none⟩ ∧
    CellsAt w b (o + i * 8) (hdc l[i].h (.slice ai l[i].l.length ci) (.slice an l[i].ns.length cn)) ∧ R w l[i] (.slice ai l[i].l.length ci) (.slice an l[i].ns.length cn) := by
  obtain ⟨ai, ci, he, hli, hx⟩ := hr
  simp only [Value.slice.injEq] at he
  obtain ⟨rfl, rfl, rfl⟩ := he
  rcases hx with h0 | ⟨b, o, rfl, ha, hf⟩
  · rw [h0] at hi; exact absurd hi (Nat.not_lt_zero _)
  · obtain ⟨it, nm, hcs, hrx⟩ := repF_at hf i hi
    obtain ⟨ai, ci, an, cn, rfl, rfl⟩ := r_slices hrx
    exact ⟨b, o, ai, ci, an, cn, rfl, hcs, hrx⟩
set_option maxHeartbeats 1600000 in
theorem cmpF_c (l m : List V) (ih : ∀ x ∈ l, ∀ y ∈ m, OrdC 47 x y) (w : World) (it it' : Value) (hl : Ro w l it) (hm : Ro w m it') :
    Calls Tryz.prog 88 #[it, it', .func (.func 47) #[] #[]] w fun e w' => e = .returned (.int .i64 (ordL l m)) ∧ Gr w w' := by
  obtain ⟨al, cl, rfl, ⟨zl, zl'⟩, -⟩ := id hl
  obtain ⟨am, cm, rfl, ⟨zm, zm'⟩, -⟩ := id hm
  have HL := Lib.hid hl
  have HM := Lib.hid hm
  have HI := Lib.hid ih
  clear hl hm ih
  obtain ⟨r, hr⟩ : ∃ r, r = ordL l m := ⟨_, rfl⟩
  have HR := Lib.hid hr
  rw [← hr]
  clear hr
  go_enter Tryz.func88, Tryz.ntmps88
  go_wp2_with fail
  go_loopg [13] l.length (fun gk vi wr => ∃ i : Nat, vi = .int .i64 (i : Int) ∧ i ≤ l.length ∧ i ≤ m.length ∧ l.length - i ≤ gk ∧ Hid (Gr w wr) ∧ Hid (r = ordL (l.drop i) (m.drop i)))
  case atStart => exact ⟨0, rfl, Nat.zero_le _, Nat.zero_le _, Nat.le_refl _, Lib.hid (Gr.refl _), HR⟩
  case round =>
    obtain ⟨i, rfl, hi, hi', hg, G, K⟩ := hrel
    by_cases hlt : i < l.length
    · have z1 : (i : Int) < (l.length : Int) := by omega
      obtain ⟨b, o, ai, ci, an, cn, rfl, hcs, hrx⟩ := ro_at (HL.out.low G.out.low) hlt
      obtain ⟨e0, e1, e2, e3, e4, e5, e6, e7⟩ := cells8 hcs
      have HR := Lib.hid hrx
      clear hcs hrx
      by_cases hlm : i < m.length
      · have z2 : (i : Int) < (m.length : Int) := by omega
        obtain ⟨b', o', ai', ci', an', cn', rfl, hcs', hrx'⟩ := ro_at (HM.out.low G.out.low) hlm
        obtain ⟨d0, d1, d2, d3, d4, d5, d6, d7⟩ := cells8a hcs'
        have HR' := Lib.hid hrx'
        clear hcs' hrx'
        have W2 := Gr.alloc (Gr.alloc G.out (.cells #[.int .i64 l[i].h.k, .bool l[i].h.b, .int .i64 l[i].h.n, .string l[i].h.s, .string l[i].h.t, .string l[i].h.i, .slice ai l[i].l.length ci, .slice an l[i].ns.length cn] 35)) (.cells #[.int .i64 m[i].h.k, .bool m[i].h.b, .int .i64 m[i].h.n, .string m[i].h.s, .string m[i].h.t, .string m[i].h.i, .slice ai' m[i].l.length ci', .slice an' m[i].ns.length cn'] 35)
        have W1 := Gr.alloc (Gr.alloc (Gr.refl wr) (.cells #[.int .i64 l[i].h.k, .bool l[i].h.b, .int .i64 l[i].h.n, .string l[i].h.s, .string l[i].h.t, .string l[i].h.i, .slice ai l[i].l.length ci, .slice an l[i].ns.length cn] 35)) (.cells #[.int .i64 m[i].h.k, .bool m[i].h.b, .int .i64 m[i].h.n, .string m[i].h.s, .string m[i].h.t, .string m[i].h.i, .slice ai' m[i].l.length ci', .slice an' m[i].ns.length cn'] 35)
        have hcon := HI.out l[i] (List.getElem_mem hlt) m[i] (List.getElem_mem hlm) _ _ _ _ _ (HR.out.low W1.low) (HR'.out.low W1.low)
        have HW := Lib.hid W2
        have HC := Lib.hid hcon
        clear W1 W2 hcon
        obtain ⟨c, hc⟩ : ∃ c, c = ord l[i] m[i] := ⟨_, rfl⟩
        rw [← hc] at HC
        have HE := Lib.hid hc
        clear hc
        have hst : r = orI c (ordL (l.drop (i + 1)) (m.drop (i + 1))) := by rw [HE.out, ← ordL_cons, ← drop_cons hlt, ← drop_cons hlm]; exact K.out
        have HS := Lib.hid hst
        clear hst
        go_wp2_with fail
        refine HC.out.mono ?_
        rintro e w' ⟨rfl, g⟩
        by_cases h0 : c = 0
        · subst h0
          have HS' : Hid (r = ordL (l.drop (i + 1)) (m.drop (i + 1))) := HS
          go_wp2_with fail
          go_roundg (l.length - (i + 1))
          case measure => omega
          case rel => exact ⟨i + 1, by go_num, by omega, by omega, by omega, Lib.hid (HW.out.trans g), HS'⟩
        · have hr : r = c := by rw [HS.out, orI, if_neg h0]
          go_wp2_with fail
          go_ret
          exact ⟨retI hr, HW.out.trans g⟩
      · have z2 : ¬ (i : Int) < (m.length : Int) := by omega
        have W2 := Gr.alloc G.out (.cells #[.int .i64 l[i].h.k, .bool l[i].h.b, .int .i64 l[i].h.n, .string l[i].h.s, .string l[i].h.t, .string l[i].h.i, .slice ai l[i].l.length ci, .slice an l[i].ns.length cn] 35)
        have hr : r = 1 := by
          rw [K.out, drop_cons hlt, List.drop_eq_nil_of_le (show m.length ≤ i by omega), ordL_cons_nil]
        have HW := Lib.hid W2
        have HQ := Lib.hid hr
        clear W2 hr
        go_wp2_with fail
        go_ret
        exact ⟨retI HQ.out, HW.out⟩
    · have z1 : ¬ (i : Int) < (l.length : Int) := by omega
      by_cases hlm : l.length < m.length
      · have z2 : (l.length : Int) < (m.length : Int) := by omega
        have hr : r = -1 := by
          rw [K.out, List.drop_eq_nil_of_le (show l.length ≤ i by omega), drop_cons (show i < m.length by omega), ordL_nil_cons]
        have HQ := Lib.hid hr
        clear hr
        go_wp2_with fail
        go_ret
        exact ⟨retI HQ.out, G.out⟩
      · have z2 : ¬ (l.length : Int) < (m.length : Int) := by omega
        have hr : r = 0 := by
          rw [K.out, List.drop_eq_nil_of_le (show l.length ≤ i by omega), List.drop_eq_nil_of_le (show m.length ≤ i by omega), ordL_nil]
        have HQ := Lib.hid hr
        clear hr
        go_wp2_with fail
        go_ret
        exact ⟨retI HQ.out, G.out⟩
end Go.Proofs.YtbfaccndgjilmaaGreat
