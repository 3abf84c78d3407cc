/- The document's examples of layer 3 hold: awake answers true. No condition. A value among a law's arguments is a tree that lies in memory. No condition. A row of values, of texts or of numbers among a law's arguments lies in memory. No condition. -/
import Derived.Test.YtmkillbanmbafaaGreatCanon
import Derived.Shelf.SlSortCmp.QuietGrown
import Derived.Deep.Slices
import Derived.ChangeArms
import Derived.DataReads
import Derived.OpenShut
namespace Go.Proofs.YtmkillbanmbafaaGreat
open Go.RowKit Go.Sort
def nV (n : Int) : V := .mk { hd0 with k := 2, n := n } [] []
theorem r_nV (w : World) (n : Int) : R w (nV n) (.slice none 0 0) (.slice none 0 0) :=
  rep_v.2 ⟨⟨Nat.zero_le _, Nat.zero_le _, Nat.zero_le _⟩, names_nil _ _, none, 0, rfl, ⟨Nat.zero_le _, Nat.zero_le _⟩, .inl rfl⟩
/-- Values in a new block. -/
theorem new_row {w W : World} {cs : List Value} {C : Array Value} {t : TypeId} (g : Gr (w.alloc (.cells C t)) W) (hC : C = cs.toArray) {o : Nat} {l : List Value} (hl : ∀ j v, l[j]? = some v → cs[o + j]? = some v) : CellsAt W w.heap.size o l := fun j v hv => by
  refine gr_cells g ?_
  rw [hC]
  simpa using hl j v hv
def sV (l : List V) : V := .mk { hd0 with k := 5 } l []
def rV (n : ByteArray) (x : V) : V := .mk { hd0 with k := 6 } [x] [n]
theorem can_aw : canD (sV [nV 2, nV 1, nV 2]) = (0, sV [nV 1, nV 2]) := by kernel_rfl
theorem sm_aw : Sm (sV [nV 2, nV 1, nV 2]) := by simp [sV, nV, Sm, SmL]
end Go.Proofs.YtmkillbanmbafaaGreat
namespace Go.Proofs.YtmkillbanmbafaaGreat
open Go.RowKit Go.ChangeShapes Go.WideShapes Go.Deep
variable {H : Type} {enc : TypeId × Value → H} {w : World} {spare : Nat → Bool} {held : Bool}
theorem cof27 : Tryz.prog.cellsOf 37 = 8 := by kernel_rfl
theorem cof3 : Tryz.prog.cellsOf 3 = 1 := by kernel_rfl
theorem cof4 : Tryz.prog.cellsOf 4 = 1 := by kernel_rfl
theorem cof2 : Tryz.prog.cellsOf 2 = 1 := by kernel_rfl
theorem cof9 : Tryz.prog.cellsOf 9 = 1 := by kernel_rfl
theorem cof23 : Tryz.prog.cellsOf 24 = 2 := by kernel_rfl
theorem cof24 : Tryz.prog.cellsOf 34 = 1 := by kernel_rfl
theorem cof25 : Tryz.prog.cellsOf 35 = 1 := by kernel_rfl
theorem addr_plain {a : Addr} {v : Value} (h : w.cell? (a.add 0) = some v) : ∃ b o, a = ⟨b, o, none⟩ := by
  have e : a.add 0 = a := by simp [Addr.add]
  rw [e] at h
  obtain ⟨b, o, s⟩ := a
  cases s with
  | none => exact ⟨b, o, rfl⟩
  | some s => unfold World.cell? at h; split at h <;> simp at h
theorem trod_names {base fuel : Nat} {cs : List Value} {x : DataW H × List MemPlace} (h : DataW.trod enc Tryz.prog w base spare held fuel 35 cs = some x) : ∃ (ns : List ByteArray) (nm : Value), cs = [nm] ∧ Na w ns nm := by
  rcases DataW.trod_slice Tryz.underlying35 h with ⟨rfl, -⟩ | ⟨a, len, cap, elems, rest, n, -, rfl, -, -, hlc, hcm, hel, hall, -, -⟩
  · exact ⟨[], _, rfl, none, 0, rfl, by simp, by simp, .inl rfl⟩
  · rw [cof9] at hall
    have hx : ∀ i, i < len → ∃ s : ByteArray, w.cell? (a.add i) = some (.string s) ∧ s.size ≤ 9223372036854775807 := fun i hi => by
      have h1 := hall i hi
      rw [List.getElem?_eq_getElem (by omega)] at h1
      obtain ⟨c, h2, h3⟩ := Option.bind_eq_some_iff.1 h1
      obtain ⟨s, rfl, -, hs⟩ := DataW.trod_string Tryz.underlying9 h3
      obtain ⟨-, -, hat⟩ := World.cells?_some h2
      have := hat 0 (by decide)
      rw [add_add, Nat.mul_one, Nat.add_zero] at this
      exact ⟨s, this, by unfold maxLen at hs; exact hs⟩
    haveI : Inhabited ByteArray := ⟨⟨#[]⟩⟩
    obtain ⟨f, hf⟩ := choose_lt hx
    refine ⟨(List.range len).map f, _, rfl, some a, cap, by simp, by simp; unfold maxLen at hcm; omega, fun x hx => ?_, ?_⟩
    · obtain ⟨i, hi, rfl⟩ := List.mem_map.1 hx
      exact (hf i (List.mem_range.1 hi)).2
    · rcases Nat.eq_zero_or_pos len with h0 | h0
      · exact .inl (by rw [h0]; rfl)
      · obtain ⟨b, o, rfl⟩ := addr_plain (hf 0 h0).1
        refine .inr ⟨b, o, rfl, trivial, fun j hj => ?_⟩
        have hj' : j < len := by simpa using hj
        have := (hf j hj').1
        rw [Addr.add_lit] at this
        rw [this]
        simp
instance : Inhabited V := ⟨V0⟩
set_option maxRecDepth 100000 in
theorem trod_val {base : Nat} : ∀ (fuel : Nat) {cs : List Value} {x : DataW H × List MemPlace}, DataW.trod enc Tryz.prog w base spare held fuel 37 cs = some x → ∃ (v : V) (it nm : Value), cs = hdc v.h it nm ∧ R w v it nm := by
  intro fuel
  induction fuel using Nat.strongRecOn with
  | _ fuel ih =>
    intro cs x h
    obtain ⟨xs, n, rfl, -, hlen, hxl, hf⟩ := DataW.trod_struct Tryz.underlying37 h
    rw [cof27] at hlen
    have hx7 : xs.length = 7 := hxl
    have get : ∀ i, i < 7 → ∃ y, xs[i]? = some y := fun i hi => ⟨xs[i]'(by omega), List.getElem?_eq_getElem (by omega)⟩
    match cs, hlen with
    | [c0, c1, c2, c3, c4, c5, c6, c7], _ =>
      obtain ⟨y0, g0⟩ := get 0 (by decide)
      obtain ⟨y1, g1⟩ := get 1 (by decide)
      obtain ⟨y2, g2⟩ := get 2 (by decide)
      obtain ⟨y3, g3⟩ := get 3 (by decide)
      obtain ⟨y4, g4⟩ := get 4 (by decide)
      obtain ⟨y5, g5⟩ := get 5 (by decide)
      obtain ⟨y6, g6⟩ := get 6 (by decide)
      have f0 : DataW.trod enc Tryz.prog w base spare held n 3 (([c0, c1, c2, c3, c4, c5, c6, c7].drop 0).take (Tryz.prog.cellsOf 3)) = some y0 := (hf 0 _ rfl).trans g0
      have f1 : DataW.trod enc Tryz.prog w base spare held n 4 (([c0, c1, c2, c3, c4, c5, c6, c7].drop 1).take (Tryz.prog.cellsOf 4)) = some y1 := (hf 1 _ rfl).trans g1
      have f2 : DataW.trod enc Tryz.prog w base spare held n 2 (([c0, c1, c2, c3, c4, c5, c6, c7].drop 2).take (Tryz.prog.cellsOf 2)) = some y2 := (hf 2 _ rfl).trans g2
      have f3 : DataW.trod enc Tryz.prog w base spare held n 9 (([c0, c1, c2, c3, c4, c5, c6, c7].drop 3).take (Tryz.prog.cellsOf 9)) = some y3 := (hf 3 _ rfl).trans g3
      have f4 : DataW.trod enc Tryz.prog w base spare held n 24 (([c0, c1, c2, c3, c4, c5, c6, c7].drop 4).take (Tryz.prog.cellsOf 24)) = some y4 := (hf 4 _ rfl).trans g4
      have f5 : DataW.trod enc Tryz.prog w base spare held n 34 (([c0, c1, c2, c3, c4, c5, c6, c7].drop 6).take (Tryz.prog.cellsOf 34)) = some y5 := (hf 5 _ rfl).trans g5
      have f6 : DataW.trod enc Tryz.prog w base spare held n 35 (([c0, c1, c2, c3, c4, c5, c6, c7].drop 7).take (Tryz.prog.cellsOf 35)) = some y6 := (hf 6 _ rfl).trans g6
      rw [cof3] at f0
      rw [cof4] at f1
      rw [cof2] at f2
      rw [cof9] at f3
      rw [cof23] at f4
      rw [cof24] at f5
      rw [cof25] at f6
      obtain ⟨k, e0, -, -⟩ := DataW.trod_int Tryz.underlying3 f0
      obtain ⟨b, e1, -⟩ := DataW.trod_bool Tryz.underlying4 f1
      obtain ⟨m, e2, -, -⟩ := DataW.trod_int Tryz.underlying2 f2
      obtain ⟨s, e3, -, hs⟩ := DataW.trod_string Tryz.underlying9 f3
      obtain ⟨us, un, -, -, -, hul, huf⟩ := DataW.trod_struct Tryz.underlying24 f4
      have hu2 : us.length = 2 := hul
      have u0 : DataW.trod enc Tryz.prog w base spare held un 9 ((([c0, c1, c2, c3, c4, c5, c6, c7].drop 4).take 2).drop 0 |>.take (Tryz.prog.cellsOf 9)) = some _ := (huf 0 _ rfl).trans (List.getElem?_eq_getElem (by omega))
      have u1 : DataW.trod enc Tryz.prog w base spare held un 9 ((([c0, c1, c2, c3, c4, c5, c6, c7].drop 4).take 2).drop 1 |>.take (Tryz.prog.cellsOf 9)) = some _ := (huf 1 _ rfl).trans (List.getElem?_eq_getElem (by omega))
      rw [cof9] at u0 u1
      obtain ⟨t, e4, -, ht⟩ := DataW.trod_string Tryz.underlying9 u0
      obtain ⟨i, e5, -, hi⟩ := DataW.trod_string Tryz.underlying9 u1
      obtain ⟨ns, nm, e7, hns⟩ := trod_names f6
      simp at e0 e1 e2 e3 e4 e5 e7
      subst e0 e1 e2 e3 e4 e5 e7
      have hb : Bh ⟨k, b, m, s, t, i⟩ := ⟨by unfold maxLen at hs; exact hs, by unfold maxLen at ht; exact ht, by unfold maxLen at hi; exact hi⟩
      rcases DataW.trod_slice Tryz.underlying34 f5 with ⟨e6, -⟩ | ⟨a, len, cap, elems, rest, n2, hn2, e6, -, -, hlc, hcm, hel, hall, -, -⟩
      · simp at e6
        subst e6
        exact ⟨.mk ⟨k, b, m, s, t, i⟩ [] ns, _, _, rfl, rep_v.2 ⟨hb, hns, none, 0, rfl, ⟨by simp [V.l], by simp⟩, .inl rfl⟩⟩
      · simp at e6
        subst e6
        rw [cof27] at hall
        have hx : ∀ j, j < len → ∃ z : V × Value × Value, (∀ c u, (hdc z.1.h z.2.1 z.2.2)[c]? = some u → w.cell? (a.add (j * 8 + c)) = some u) ∧ R w z.1 z.2.1 z.2.2 := fun j hj => by
          have h1 := hall j hj
          rw [List.getElem?_eq_getElem (by omega)] at h1
          obtain ⟨c, h2, h3⟩ := Option.bind_eq_some_iff.1 h1
          obtain ⟨v, it, nm, rfl, hr⟩ := ih n2 (by omega) h3
          obtain ⟨-, -, hat⟩ := World.cells?_some h2
          refine ⟨(v, it, nm), fun c u hu => ?_, hr⟩
          have h8 : c < 8 := by have := (List.getElem?_eq_some_iff.1 hu).1; simpa [hdc] using this
          have := hat c h8
          rw [add_add] at this
          rw [this]; exact hu
        haveI : Inhabited (V × Value × Value) := ⟨(V0, .nilFunc, .nilFunc)⟩
        obtain ⟨f, hfz⟩ := choose_lt hx
        refine ⟨.mk ⟨k, b, m, s, t, i⟩ ((List.range len).map fun j => (f j).1) ns, _, _, rfl, rep_v.2 ⟨hb, hns, some a, cap, by simp [V.l], ⟨by simp [V.l]; exact hlc, by unfold maxLen at hcm; exact hcm⟩, ?_⟩⟩
        rcases Nat.eq_zero_or_pos len with h0 | h0
        · exact .inl (by rw [h0]; rfl)
        · obtain ⟨bb, oo, rfl⟩ := addr_plain ((hfz 0 h0).1 0 _ rfl)
          refine .inr ⟨bb, oo, rfl, trivial, repF_of fun j hj => ?_⟩
          have hj' : j < len := by simpa [V.l] using hj
          have hg : (V.mk ⟨k, b, m, s, t, i⟩ ((List.range len).map fun j => (f j).1) ns).l[j] = (f j).1 := by simp [V.l]
          rw [hg]
          refine ⟨(f j).2.1, (f j).2.2, fun c u hu => ?_, (hfz j hj').2⟩
          have := (hfz j hj').1 c u hu
          rw [Addr.add_lit] at this
          rw [Nat.add_assoc]; exact this

set_option maxRecDepth 100000 in
theorem open_val {r : Reach} {base : Nat} {v : Value} {d : DataW H} {p : List MemPlace} (hv : Value.okWide Tryz.prog w r base 37 v) (h : DataW.Trod enc Tryz.prog w 0 spare held 37 v d p) : ∃ (x : V) (it nm : Value), v = av x.h it nm ∧ R w x it nm := by
  obtain ⟨cs, rfl, -⟩ := okWide_struct Tryz.underlying37 hv
  obtain ⟨fuel, hf⟩ := h
  obtain ⟨x, it, nm, he, hr⟩ := trod_val fuel hf
  refine ⟨x, it, nm, ?_, hr⟩
  have : cs = (hdc x.h it nm).toArray := by
    rw [← he]; simp [Value.cells]
  rw [this]; rfl
end Go.Proofs.YtmkillbanmbafaaGreat
namespace Go.Proofs.YtmkillbanmbafaaGreat
open Go.RowKit Go.ChangeShapes Go.WideShapes Go.Deep
variable {H : Type} {enc : TypeId × Value → H} {w : World} {spare : Nat → Bool} {held : Bool}
theorem one_slice {a b : Option Addr} {n c n' c' : Nat} (h : (Value.cells (.slice a n c)).toList = [.slice b n' c']) : Value.slice a n c = .slice b n' c' := by
  have : (Value.cells (.slice a n c)).toList = [.slice a n c] := rfl
  rw [this] at h
  exact (List.cons.inj h).1
set_option maxRecDepth 100000 in
theorem open_row {r : Reach} {base : Nat} {v : Value} {d : DataW H} {p : List MemPlace} (hv : Value.okWide Tryz.prog w r base 34 v) (h : DataW.Trod enc Tryz.prog w 0 spare held 34 v d p) : ∃ l : List V, Ro w l v := by
  obtain ⟨ao, n, c, rfl⟩ := okWide_slice Tryz.underlying34 hv
  obtain ⟨fuel, hf⟩ := h
  rcases DataW.trod_slice Tryz.underlying34 hf with ⟨e6, -⟩ | ⟨a, len, cap, elems, rest, n2, hn2, e6, -, -, hlc, hcm, hel, hall, -, -⟩
  · rw [one_slice e6]
    exact ⟨[], none, 0, rfl, ⟨by simp, by simp⟩, .inl rfl⟩
  · rw [one_slice e6]
    rw [cof27] at hall
    have hx : ∀ j, j < len → ∃ z : V × Value × Value, (∀ c u, (hdc z.1.h z.2.1 z.2.2)[c]? = some u → w.cell? (a.add (j * 8 + c)) = some u) ∧ R w z.1 z.2.1 z.2.2 := fun j hj => by
      have h1 := hall j hj
      rw [List.getElem?_eq_getElem (by omega)] at h1
      obtain ⟨c, h2, h3⟩ := Option.bind_eq_some_iff.1 h1
      obtain ⟨v, it, nm, rfl, hr⟩ := trod_val n2 h3
      obtain ⟨-, -, hat⟩ := World.cells?_some h2
      refine ⟨(v, it, nm), fun c u hu => ?_, hr⟩
      have h8 : c < 8 := by have := (List.getElem?_eq_some_iff.1 hu).1; simpa [hdc] using this
      have := hat c h8
      rw [add_add] at this
      rw [this]; exact hu
    haveI : Inhabited (V × Value × Value) := ⟨(V0, .nilFunc, .nilFunc)⟩
    obtain ⟨f, hfz⟩ := choose_lt hx
    refine ⟨(List.range len).map fun j => (f j).1, some a, cap, by simp, ⟨by simp; exact hlc, by unfold maxLen at hcm; exact hcm⟩, ?_⟩
    rcases Nat.eq_zero_or_pos len with h0 | h0
    · exact .inl (by rw [h0]; rfl)
    · obtain ⟨bb, oo, rfl⟩ := addr_plain ((hfz 0 h0).1 0 _ rfl)
      refine .inr ⟨bb, oo, rfl, trivial, repF_of fun j hj => ?_⟩
      have hj' : j < len := by simpa using hj
      have hg : ((List.range len).map fun j => (f j).1)[j] = (f j).1 := by simp
      rw [hg]
      refine ⟨(f j).2.1, (f j).2.2, fun c u hu => ?_, (hfz j hj').2⟩
      have := (hfz j hj').1 c u hu
      rw [Addr.add_lit] at this
      rw [Nat.add_assoc]; exact this
set_option maxRecDepth 100000 in
theorem open_names {r : Reach} {base : Nat} {v : Value} {d : DataW H} {p : List MemPlace} (hv : Value.okWide Tryz.prog w r base 35 v) (h : DataW.Trod enc Tryz.prog w 0 spare held 35 v d p) : ∃ ns : List ByteArray, Na w ns v := by
  obtain ⟨ao, n, c, rfl⟩ := okWide_slice Tryz.underlying35 hv
  obtain ⟨fuel, hf⟩ := h
  obtain ⟨ns, nm, e, hn⟩ := trod_names hf
  have : (Value.cells (.slice ao n c)).toList = [.slice ao n c] := rfl
  rw [this] at e
  exact ⟨ns, (List.cons.inj e).1 ▸ hn⟩
/-- A slice of numbers. -/
def Nu (w : World) (zs : List Int) (v : Value) : Prop :=
  ∃ ao cap, v = .slice ao zs.length cap ∧ zs.length ≤ 9223372036854775807 ∧ (∀ z ∈ zs, -9223372036854775808 ≤ z ∧ z ≤ 9223372036854775807) ∧
    (zs = [] ∨ ∃ b o, ao = some ⟨b, o, none⟩ ∧ ∀ j (hj : j < zs.length), w.cell? ⟨b, o + j, none⟩ = some (.int .i64 zs[j]))
theorem Nu.low {w w' : World} {zs : List Int} {v : Value} (h : Nu w zs v) (l : Low w w') : Nu w' zs v := by
  obtain ⟨ao, cap, h1, h2, h3, h4⟩ := h
  exact ⟨ao, cap, h1, h2, h3, h4.imp id fun ⟨b, o, h5, h6⟩ => ⟨b, o, h5, fun j hj => l.keep (h6 j hj)⟩⟩
end Go.Proofs.YtmkillbanmbafaaGreat
