/- Entities in memory by their names and their parents' slices; entity.parentsByName: the parents under each name, those of the first entity with it. No condition. -/
import Derived.Test.YtbfaccndgjilmaaGreatUsK
import Derived.Test.YtbfaccndgjilmaaGreatGr
import Derived.Lib.Hide
namespace Go.Proofs.YtbfaccndgjilmaaGreat
open Go.RowKit Go.Maps Go.Sort
/-- An entity as its cells are. -/
structure Sh where
  u : Us
  ap : Option Addr
  np : Nat
  cp : Nat
  h : Hd
  ai : Option Addr
  ni : Nat
  ci : Nat
  an : Option Addr
  nn : Nat
  cn : Nat
def Sh.p (s : Sh) : Value := .slice s.ap s.np s.cp
def Sh.cs (s : Sh) : List Value := [.string s.u.t, .string s.u.i, .slice s.ap s.np s.cp, .int .i64 s.h.k, .bool s.h.b, .int .i64 s.h.n, .string s.h.s, .string s.h.t, .string s.h.i, .slice s.ai s.ni s.ci, .slice s.an s.nn s.cn]
/-- A slice of entities. -/
def EsAt (w : World) (r : Value) (l : List Sh) : Prop :=
  ∃ ao c, r = .slice ao l.length c ∧ (l.length ≤ c ∧ c ≤ 9223372036854775807) ∧ ∀ j (hj : j < l.length), ∃ b o, ao = some ⟨b, o, none⟩ ∧ CellsAt w b (o + j * 11) l[j].cs
theorem EsAt.low {w w' : World} {r : Value} {l : List Sh} (h : EsAt w r l) (hl : Low w w') : EsAt w' r l := by
  obtain ⟨ao, c, rfl, hc, hx⟩ := h
  refine ⟨ao, c, rfl, hc, fun j hj => ?_⟩
  obtain ⟨b, o, rfl, hs⟩ := hx j hj
  exact ⟨b, o, rfl, hl.cells hs⟩
theorem cells11 {w : World} {b o : Nat} {s : Sh} (hc : CellsAt w b o s.cs) :
    w.cell? ⟨b, o, none⟩ = some (.string s.u.t) ∧ w.cell? ⟨b, o + 1, none⟩ = some (.string s.u.i) ∧ w.cell? ⟨b, o + 2, none⟩ = some (.slice s.ap s.np s.cp) ∧ w.cell? ⟨b, o + 3, none⟩ = some (.int .i64 s.h.k) ∧
    w.cell? ⟨b, o + 4, none⟩ = some (.bool s.h.b) ∧ w.cell? ⟨b, o + 5, none⟩ = some (.int .i64 s.h.n) ∧ w.cell? ⟨b, o + 6, none⟩ = some (.string s.h.s) ∧ w.cell? ⟨b, o + 7, none⟩ = some (.string s.h.t) ∧
    w.cell? ⟨b, o + 8, none⟩ = some (.string s.h.i) ∧ w.cell? ⟨b, o + 9, none⟩ = some (.slice s.ai s.ni s.ci) ∧ w.cell? ⟨b, o + 10, none⟩ = some (.slice s.an s.nn s.cn) :=
  ⟨hc 0 _ rfl, hc 1 _ rfl, hc 2 _ rfl, hc 3 _ rfl, hc 4 _ rfl, hc 5 _ rfl, hc 6 _ rfl, hc 7 _ rfl, hc 8 _ rfl, hc 9 _ rfl, hc 10 _ rfl⟩
/-- The parents under a name: those of the first entity with it. -/
def fS (l : List Sh) (x : Us) : Option Value := (l.find? fun s => decide (s.u = x)).map Sh.p
theorem fS_more {l : List Sh} {s : Sh} (x : Us) : fS (l ++ [s]) x = if (fS l x).isSome = true then fS l x else if s.u = x then some s.p else none := by
  unfold fS
  rw [List.find?_append]
  cases h : l.find? fun s => decide (s.u = x) with
  | some v => simp
  | none =>
    by_cases e : s.u = x
    · simp [e]
    · simp [e]
theorem fS_there {l : List Sh} {s : Sh} (h : (fS l s.u).isSome = true) : fS (l ++ [s]) = fS l := by
  funext x
  rw [fS_more]
  by_cases e : (fS l x).isSome = true
  · rw [if_pos e]
  · rw [if_neg e, if_neg (fun hx : s.u = x => e (hx ▸ h))]
    cases hf : fS l x with
    | none => rfl
    | some v => rw [hf] at e; simp at e
theorem fS_new {l : List Sh} {s : Sh} (h : (fS l s.u).isSome = false) : fS (l ++ [s]) = updF (fS l) s.u (some s.p) := by
  funext x
  rw [fS_more]
  unfold updF
  by_cases e : x = s.u
  · rw [if_pos e, e, h]; simp
  · rw [if_neg e, if_neg (Ne.symm e)]
    by_cases e2 : (fS l x).isSome = true
    · rw [if_pos e2]
    · rw [if_neg e2]
      cases hf : fS l x with
      | none => rfl
      | some v => rw [hf] at e2; simp at e2
theorem Low.turned {w a b : World} {k : Nat} (h : Low w a) (ht : a.mapTurned b k) (hk : w.heap.size ≤ k) : Low w b := by
  obtain ⟨es, cl, es', cl', hb, rfl⟩ := ht
  refine ⟨h.1, h.2.1, ?_, fun j hj => ?_⟩
  · have := h.2.2.1
    simp [ChangeMaps.setBlock]
    exact this
  · rw [← h.2.2.2 j hj]
    exact ChangeMaps.heap_setBlock_other hb _ (by omega)
theorem zeroUs (w : World) : (zeroValue 29).run Tryz.prog w = .ok (.slice none 0 0) w := by kernel_rfl
/-- What parentsByName answers. -/
def ParP (l : List Sh) (w : World) (e : Ending) (w' : World) : Prop := ∃ b, e = .returned (.map (some b)) ∧ w.heap.size ≤ b ∧ MapAt keyUs w' b l.length (fS l) ∧ Low w w'
set_option maxHeartbeats 1600000 in
theorem par_c (l : List Sh) (w : World) (r : Value) (hr : EsAt w r l) : Calls Tryz.prog 31 #[r] w (ParP l w) := by
  obtain ⟨ao, c, rfl, ⟨hlc, hc9⟩, hx⟩ := hr
  have hmm := @run_makeMap Tryz.prog
  have HX := Lib.hid hx
  clear hx
  go_enter Tryz.func31, Tryz.ntmps31
  go_wp2_with fail
  clear hmm
  go_loopg [11] l.length (fun gk vi wr => ∃ i : Nat, vi = .int .i64 (i : Int) ∧ i ≤ l.length ∧ l.length - i ≤ gk ∧ Hid (Low w wr) ∧ Hid (MapAt keyUs wr w.heap.size i (fS (l.take i))))
  case atStart => exact ⟨0, rfl, Nat.zero_le _, Nat.le_refl _, Lib.hid (by exact (Low.of_below ((Below.refl _ _).alloc (Nat.le_refl _) _))), Lib.hid ((MapAt.made keyUs w).congr fun _ => rfl)⟩
  case round =>
    obtain ⟨i, rfl, hi, hg, L, M⟩ := hrel
    by_cases hlt : i < l.length
    · have zl : (i : Int) < (l.length : Int) := by omega
      obtain ⟨b, o, rfl, hcs⟩ := HX.out i hlt
      obtain ⟨e0, e1, e2, e3, e4, e5, e6, e7, e8, e9, e10⟩ := cells11 (L.out.cells hcs)
      clear hcs
      obtain ⟨s, hs⟩ : ∃ s, s = l[i] := ⟨_, rfl⟩
      have HT := Lib.hid (show l.take (i + 1) = l.take i ++ [s] by rw [hs, List.take_succ_eq_append_getElem hlt])
      rw [← hs] at e0 e1 e2 e3 e4 e5 e6 e7 e8 e9 e10
      clear hs
      have M2 := Lib.hid (show MapAt keyUs (wr.alloc (.cells s.cs.toArray 37)) w.heap.size i (fS (l.take i)) from M.out.block ((Gr.alloc (Gr.refl wr) _).low.2.2.2 _ M.out.lt))
      have L2 := Lib.hid (show Low w (wr.alloc (.cells s.cs.toArray 37)) from L.out.trans (Gr.alloc (Gr.refl wr) _).low)
      cases hq : (fS (l.take i) s.u).isSome with
      | true =>
        have HQ := Lib.hid hq
        clear hq
        go_wp2_with (at_lookup; refine at_lookOk rfl _ _ _ rfl keyedUs Tryz.underlying58 (zeroUs _) rfl M2.out s.u rfl _ true rfl HQ.out ?_)
        go_roundg (l.length - (i + 1))
        case measure => omega
        case rel => exact ⟨i + 1, by go_num, by omega, by omega, L2, Lib.hid (by rw [HT.out, fS_there HQ.out]; exact M2.out.mono (Nat.le_succ _))⟩
      | false =>
        have HQ := Lib.hid hq
        clear hq
        go_wp2_with (first
          | (at_lookup; refine at_lookOk rfl _ _ _ rfl keyedUs Tryz.underlying58 (zeroUs _) rfl M2.out s.u rfl _ false rfl HQ.out ?_)
          | (at_mapUpdate; refine at_store rfl _ _ _ _ rfl keyedUs Tryz.underlying58 rfl M2.out (by unfold maxLen; omega) s.u rfl s.p rfl ?_; intro w1 M3 T3))
        have M4 := Lib.hid M3
        have L4 := Lib.hid (L2.out.turned T3 (Nat.le_refl _))
        clear M3 T3
        go_wp2_with fail
        go_roundg (l.length - (i + 1))
        case measure => omega
        case rel => exact ⟨i + 1, by go_num, by omega, by omega, L4, Lib.hid (by rw [HT.out, fS_new HQ.out]; exact M4.out)⟩
    · have zl : ¬ (i : Int) < (l.length : Int) := by omega
      go_wp2_with fail
      go_ret
      obtain rfl : i = l.length := by omega
      exact ⟨_, rfl, Nat.le_refl _, by have := M.out; rwa [List.take_length] at this, L.out⟩
end Go.Proofs.YtbfaccndgjilmaaGreat
