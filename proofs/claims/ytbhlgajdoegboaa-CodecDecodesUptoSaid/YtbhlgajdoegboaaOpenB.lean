/- A value among a law's arguments is a tree that lies in memory, no larger than what the argument holds; its numbers are in their range. No condition. -/
import Derived.Test.YtbhlgajdoegboaaOpenV
import Derived.Test.YtbhlgajdoegboaaLayA
import Derived.Test.YtbhlgajdoegboaaRows
namespace Go.Proofs.Ytbhlgajdoegboaa
open Go.RowKit Go.ChangeShapes Go.WideShapes Go.Deep
mutual
/-- All numbers are in their range. -/
def Iv : V → Prop
  | .mk h l _ => (-9223372036854775808 ≤ h.n ∧ h.n ≤ 9223372036854775807) ∧ IvL l
def IvL : List V → Prop
  | [] => True
  | x :: l => Iv x ∧ IvL l
end
theorem ivL_iff {l : List V} : IvL l ↔ ∀ x ∈ l, Iv x := by
  induction l with
  | nil => simp [IvL]
  | cons y l ih => simp [IvL, ih]
theorem iv_v {v : V} : Iv v ↔ (-9223372036854775808 ≤ v.h.n ∧ v.h.n ≤ 9223372036854775807) ∧ ∀ x ∈ v.l, Iv x := by
  cases v; rw [Iv, ivL_iff]; rfl
variable {H : Type} {enc : TypeId × Value → H} {w : World} {spare : Nat → Bool} {held : Bool}
theorem bulks_one (d : DataW H) : 1 ≤ Rows.uptoBulk d := by
  cases d with
  | lit l => cases l <;> simp [Rows.uptoBulk]
  | _ => simp [Rows.uptoBulk]
theorem str_bulk (s : ByteArray) : Rows.uptoBulk (DataW.lit (H := H) (.string s.data.toList)) = s.size + 1 := by
  have e : s.data.toList.length = s.size := by rw [Array.length_toList]; rfl
  simp only [Rows.uptoBulk, e]
theorem two_bulk {P : Type} (us : List (DataW H × P)) (h : us.length = 2) (a b : Nat) (h0 : Rows.uptoBulk (us[0]'(by omega)).1 = a) (h1 : Rows.uptoBulk (us[1]'(by omega)).1 = b) : Rows.uptoBulkAll (us.map (·.1)) = a + b := by
  match us, h with
  | [x, y], _ =>
    simp only [List.map_cons, List.map_nil, Rows.uptoBulkAll]
    have h0' : Rows.uptoBulk x.1 = a := h0
    have h1' : Rows.uptoBulk y.1 = b := h1
    omega
theorem nbL_le : ∀ (l : List ByteArray) (m : List (DataW H)), l.length = m.length → (∀ j (h : j < l.length) (k : j < m.length), l[j].size + 1 ≤ Rows.uptoBulk m[j]) → nbL l ≤ Rows.uptoBulkAll m
  | [], _, _, _ => Nat.zero_le _
  | x :: l, [], h, _ => by simp at h
  | x :: l, y :: m, h, k => by
    have h0 := k 0 (by simp) (by simp)
    have h1 := nbL_le l m (by simpa using h) fun j h1 h2 => k (j + 1) (by simpa using h1) (by simpa using h2)
    simp only [nbL, Rows.uptoBulkAll]
    simp at h0
    omega
theorem vbL_le : ∀ (l : List V) (m : List (DataW H)), l.length = m.length → (∀ j (h : j < l.length) (k : j < m.length), vb l[j] ≤ Rows.uptoBulk m[j]) → vbL l ≤ Rows.uptoBulkAll m
  | [], _, _, _ => Nat.zero_le _
  | x :: l, [], h, _ => by simp at h
  | x :: l, y :: m, h, k => by
    have h0 := k 0 (by simp) (by simp)
    have h1 := vbL_le l m (by simpa using h) fun j h1 h2 => k (j + 1) (by simpa using h1) (by simpa using h2)
    simp only [vbL, Rows.uptoBulkAll]
    simp at h0
    omega
theorem trod_namesB {base fuel : Nat} {cs : List Value} {x : DataW H × List MemPlace} (h : DataW.trod enc Try.prog w base spare held fuel 22 cs = some x) : ∃ (ns : List ByteArray) (nm : Value), cs = [nm] ∧ Na w ns nm ∧ nbL ns + 1 ≤ Rows.uptoBulk x.1 := by
  rcases DataW.trod_slice Try.underlying22 h with ⟨rfl, rfl⟩ | ⟨a, len, cap, elems, rest, n, -, rfl, rfl, -, hlc, hcm, hel, hall, -, -⟩
  · exact ⟨[], _, rfl, ⟨none, 0, rfl, by simp, by simp, .inl rfl⟩, by simp [nbL, Rows.uptoBulk]⟩
  · rw [cof9] at hall
    have hx : ∀ i, i < len → ∃ s : ByteArray, w.cell? (a.add i) = some (.string s) ∧ s.size ≤ 9223372036854775807 ∧ ∀ (k : i < elems.length), s.size + 1 ≤ Rows.uptoBulk elems[i].1 := fun i hi => by
      have h1 := hall i hi
      rw [List.getElem?_eq_getElem (by omega)] at h1
      obtain ⟨c, h2, h3⟩ := Option.bind_eq_some_iff.1 h1
      obtain ⟨s, rfl, hd, hs⟩ := DataW.trod_string Try.underlying9 h3
      obtain ⟨-, -, hat⟩ := World.cells?_some h2
      have := hat 0 (by decide)
      rw [add_add, Nat.mul_one, Nat.add_zero] at this
      exact ⟨s, this, by unfold maxLen at hs; exact hs, fun k => by rw [hd, str_bulk]; exact Nat.le_refl _⟩
    haveI : Inhabited ByteArray := ⟨⟨#[]⟩⟩
    obtain ⟨f, hf⟩ := choose_lt hx
    have hsum : nbL ((List.range len).map f) ≤ Rows.uptoBulkAll (elems.map (·.1)) := nbL_le _ _ (by simp; omega) fun j h1 h2 => by
      have hj : j < len := by simpa using h1
      have := (hf j hj).2.2 (by omega)
      simpa using this
    refine ⟨(List.range len).map f, _, rfl, ⟨some a, cap, by simp, by simp; unfold maxLen at hcm; omega, fun x hx => ?_, ?_⟩, by simp only [Rows.uptoBulk]; omega⟩
    · obtain ⟨i, hi, rfl⟩ := List.mem_map.1 hx
      exact (hf i (List.mem_range.1 hi)).2.1
    · rcases Nat.eq_zero_or_pos len with h0 | h0
      · exact .inl (by rw [h0]; rfl)
      · obtain ⟨b, o, rfl⟩ := addr_plain (hf 0 h0).1
        refine .inr ⟨b, o, rfl, trivial, fun j hj => ?_⟩
        have hj' : j < len := by simpa using hj
        have := (hf j hj').1
        rw [Addr.add_lit] at this
        rw [this]
        simp
set_option maxRecDepth 100000 in
theorem trod_valB {base : Nat} : ∀ (fuel : Nat) {cs : List Value} {x : DataW H × List MemPlace}, DataW.trod enc Try.prog w base spare held fuel 29 cs = some x → ∃ (v : V) (it nm : Value), cs = hdc v.h it nm ∧ R w v it nm ∧ vb v ≤ Rows.uptoBulk x.1 ∧ Iv v := by
  intro fuel
  induction fuel using Nat.strongRecOn with
  | _ fuel ih =>
    intro cs x h
    obtain ⟨xs, n, rfl, rfl, hlen, hxl, hf⟩ := DataW.trod_struct Try.underlying29 h
    rw [cof27] at hlen
    have hx7 : xs.length = 7 := hxl
    have get : ∀ i, i < 7 → ∃ y, xs[i]? = some y := fun i hi => ⟨xs[i]'(by omega), List.getElem?_eq_getElem (by omega)⟩
    match cs, hlen with
    | [c0, c1, c2, c3, c4, c5, c6, c7], _ =>
      obtain ⟨y0, g0⟩ := get 0 (by decide)
      obtain ⟨y1, g1⟩ := get 1 (by decide)
      obtain ⟨y2, g2⟩ := get 2 (by decide)
      obtain ⟨y3, g3⟩ := get 3 (by decide)
      obtain ⟨y4, g4⟩ := get 4 (by decide)
      obtain ⟨y5, g5⟩ := get 5 (by decide)
      obtain ⟨y6, g6⟩ := get 6 (by decide)
      have f0 : DataW.trod enc Try.prog w base spare held n 3 (([c0, c1, c2, c3, c4, c5, c6, c7].drop 0).take (Try.prog.cellsOf 3)) = some y0 := (hf 0 _ rfl).trans g0
      have f1 : DataW.trod enc Try.prog w base spare held n 4 (([c0, c1, c2, c3, c4, c5, c6, c7].drop 1).take (Try.prog.cellsOf 4)) = some y1 := (hf 1 _ rfl).trans g1
      have f2 : DataW.trod enc Try.prog w base spare held n 2 (([c0, c1, c2, c3, c4, c5, c6, c7].drop 2).take (Try.prog.cellsOf 2)) = some y2 := (hf 2 _ rfl).trans g2
      have f3 : DataW.trod enc Try.prog w base spare held n 9 (([c0, c1, c2, c3, c4, c5, c6, c7].drop 3).take (Try.prog.cellsOf 9)) = some y3 := (hf 3 _ rfl).trans g3
      have f4 : DataW.trod enc Try.prog w base spare held n 26 (([c0, c1, c2, c3, c4, c5, c6, c7].drop 4).take (Try.prog.cellsOf 26)) = some y4 := (hf 4 _ rfl).trans g4
      have f5 : DataW.trod enc Try.prog w base spare held n 27 (([c0, c1, c2, c3, c4, c5, c6, c7].drop 6).take (Try.prog.cellsOf 27)) = some y5 := (hf 5 _ rfl).trans g5
      have f6 : DataW.trod enc Try.prog w base spare held n 22 (([c0, c1, c2, c3, c4, c5, c6, c7].drop 7).take (Try.prog.cellsOf 22)) = some y6 := (hf 6 _ rfl).trans g6
      rw [cof3] at f0
      rw [cof4] at f1
      rw [cof2] at f2
      rw [cof9] at f3
      rw [cof23] at f4
      rw [cof24] at f5
      rw [cof25] at f6
      obtain ⟨k, e0, -, -⟩ := DataW.trod_int Try.underlying3 f0
      obtain ⟨b, e1, -⟩ := DataW.trod_bool Try.underlying4 f1
      obtain ⟨m, e2, d2, hmw⟩ := DataW.trod_int Try.underlying2 f2
      obtain ⟨s, e3, d3, hs⟩ := DataW.trod_string Try.underlying9 f3
      obtain ⟨us, un, -, d4, -, hul, huf⟩ := DataW.trod_struct Try.underlying26 f4
      have hu2 : us.length = 2 := hul
      have u0 : DataW.trod enc Try.prog w base spare held un 9 ((([c0, c1, c2, c3, c4, c5, c6, c7].drop 4).take 2).drop 0 |>.take (Try.prog.cellsOf 9)) = some _ := (huf 0 _ rfl).trans (List.getElem?_eq_getElem (by omega))
      have u1 : DataW.trod enc Try.prog w base spare held un 9 ((([c0, c1, c2, c3, c4, c5, c6, c7].drop 4).take 2).drop 1 |>.take (Try.prog.cellsOf 9)) = some _ := (huf 1 _ rfl).trans (List.getElem?_eq_getElem (by omega))
      rw [cof9] at u0 u1
      obtain ⟨t, e4, dt, ht⟩ := DataW.trod_string Try.underlying9 u0
      obtain ⟨i, e5, di, hi⟩ := DataW.trod_string Try.underlying9 u1
      obtain ⟨ns, nm, e7, hns, d6⟩ := trod_namesB f6
      simp at e0 e1 e2 e3 e4 e5 e7
      subst e0 e1 e2 e3 e4 e5 e7
      have hb : Bh ⟨k, b, m, s, t, i⟩ := ⟨by unfold maxLen at hs; exact hs, by unfold maxLen at ht; exact ht, by unfold maxLen at hi; exact hi⟩
      have hsize : ∀ x : DataW H × List MemPlace, xs = [y0, y1, y2, y3, y4, x, y6] → 9 + s.size + t.size + i.size + nbL ns + Rows.uptoBulk x.1 ≤ Rows.uptoBulk (DataW.agg (xs.map (·.1))) := fun x hxs => by
        have g0 := bulks_one y0.1
        have g1 := bulks_one y1.1
        have g2 := bulks_one y2.1
        have g3 : Rows.uptoBulk y3.1 = s.size + 1 := by rw [d3, str_bulk]
        have g4 : 1 + (t.size + 1) + (i.size + 1) ≤ Rows.uptoBulk y4.1 := by
          have e2 := two_bulk us hu2 (t.size + 1) (i.size + 1) (by rw [dt]; exact str_bulk t) (by rw [di]; exact str_bulk i)
          rw [d4]
          simp only [Rows.uptoBulk]
          omega
        rw [hxs]
        simp only [Rows.uptoBulk, Rows.uptoBulkAll, List.map_cons, List.map_nil]
        omega
      have hxs : xs = [y0, y1, y2, y3, y4, y5, y6] := by
        match xs, hx7, g0, g1, g2, g3, g4, g5, g6 with
        | [z0, z1, z2, z3, z4, z5, z6], _, g0, g1, g2, g3, g4, g5, g6 =>
          simp at g0 g1 g2 g3 g4 g5 g6
          rw [g0, g1, g2, g3, g4, g5, g6]
      have hsz := hsize y5 hxs
      have hmr : -9223372036854775808 ≤ m ∧ m ≤ 9223372036854775807 := by
        simp [Lit.wf, IntKind.min, IntKind.max, IntKind.signed, IntKind.bits] at hmw
        omega
      rcases DataW.trod_slice Try.underlying27 f5 with ⟨e6, d5⟩ | ⟨a, len, cap, elems, rest, n2, hn2, e6, d5, -, hlc, hcm, hel, hall, -, -⟩
      · simp at e6
        subst e6
        exact ⟨.mk ⟨k, b, m, s, t, i⟩ [] ns, _, _, rfl, rep_v.2 ⟨hb, hns, none, 0, rfl, ⟨by simp [V.l], by simp⟩, .inl rfl⟩, by
          rw [d5] at hsz
          simp only [Rows.uptoBulk] at hsz
          rw [vb]
          simp only [vbL]
          simp only [Rows.uptoBulk]
          omega, iv_v.2 ⟨hmr, fun x hx => absurd hx (by simp [V.l])⟩⟩
      · simp at e6
        subst e6
        rw [cof27] at hall
        have hx : ∀ j, j < len → ∃ z : V × Value × Value, (∀ c u, (hdc z.1.h z.2.1 z.2.2)[c]? = some u → w.cell? (a.add (j * 8 + c)) = some u) ∧ R w z.1 z.2.1 z.2.2 ∧ (∀ (k : j < elems.length), vb z.1 ≤ Rows.uptoBulk elems[j].1) ∧ Iv z.1 := fun j hj => by
          have h1 := hall j hj
          rw [List.getElem?_eq_getElem (by omega)] at h1
          obtain ⟨c, h2, h3⟩ := Option.bind_eq_some_iff.1 h1
          obtain ⟨v, it, nm, rfl, hr, hvb, hiv⟩ := ih n2 (by omega) h3
          obtain ⟨-, -, hat⟩ := World.cells?_some h2
          refine ⟨(v, it, nm), fun c u hu => ?_, hr, fun _ => hvb, hiv⟩
          have h8 : c < 8 := by have := (List.getElem?_eq_some_iff.1 hu).1; simpa [hdc] using this
          have := hat c h8
          rw [add_add] at this
          rw [this]; exact hu
        haveI : Inhabited (V × Value × Value) := ⟨(V0, .nilFunc, .nilFunc)⟩
        obtain ⟨f, hfz⟩ := choose_lt hx
        have hsum : vbL ((List.range len).map fun j => (f j).1) ≤ Rows.uptoBulkAll (elems.map (·.1)) := vbL_le _ _ (by simp; omega) fun j h1 h2 => by
          have hj : j < len := by simpa using h1
          have := (hfz j hj).2.2.1 (by omega)
          simpa using this
        have hbulk : vb (.mk ⟨k, b, m, s, t, i⟩ ((List.range len).map fun j => (f j).1) ns) ≤ Rows.uptoBulk (DataW.agg (xs.map (·.1))) := by
          rw [d5] at hsz
          simp only [Rows.uptoBulk] at hsz ⊢
          rw [vb]
          simp only
          omega
        have hiv : Iv (.mk ⟨k, b, m, s, t, i⟩ ((List.range len).map fun j => (f j).1) ns) := iv_v.2 ⟨hmr, fun x hx => by
          obtain ⟨j, hj, rfl⟩ := List.mem_map.1 (show x ∈ (List.range len).map fun j => (f j).1 from hx)
          exact (hfz j (List.mem_range.1 hj)).2.2.2⟩
        refine ⟨.mk ⟨k, b, m, s, t, i⟩ ((List.range len).map fun j => (f j).1) ns, _, _, rfl, rep_v.2 ⟨hb, hns, some a, cap, by simp [V.l], ⟨by simp [V.l]; exact hlc, by unfold maxLen at hcm; exact hcm⟩, ?_⟩, hbulk, hiv⟩
        rcases Nat.eq_zero_or_pos len with h0 | h0
        · exact .inl (by rw [h0]; rfl)
        · obtain ⟨bb, oo, rfl⟩ := addr_plain ((hfz 0 h0).1 0 _ rfl)
          refine .inr ⟨bb, oo, rfl, trivial, repF_of fun j hj => ?_⟩
          have hj' : j < len := by simpa [V.l] using hj
          have hg : (V.mk ⟨k, b, m, s, t, i⟩ ((List.range len).map fun j => (f j).1) ns).l[j] = (f j).1 := by simp [V.l]
          rw [hg]
          refine ⟨(f j).2.1, (f j).2.2, fun c u hu => ?_, (hfz j hj').2.1⟩
          have := (hfz j hj').1 c u hu
          rw [Addr.add_lit] at this
          rw [Nat.add_assoc]; exact this

set_option maxRecDepth 100000 in
theorem open_valB {r : Reach} {base : Nat} {v : Value} {d : DataW H} {p : List MemPlace} (hv : Value.okWide Try.prog w r base 29 v) (h : DataW.Trod enc Try.prog w 0 spare held 29 v d p) : ∃ (x : V) (it nm : Value), v = av x.h it nm ∧ R w x it nm ∧ vb x ≤ Rows.uptoBulk d ∧ Iv x := by
  obtain ⟨cs, rfl, -⟩ := okWide_struct Try.underlying29 hv
  obtain ⟨fuel, hf⟩ := h
  obtain ⟨x, it, nm, he, hr, hb, hi⟩ := trod_valB fuel hf
  refine ⟨x, it, nm, ?_, hr, hb, hi⟩
  have : cs = (hdc x.h it nm).toArray := by
    rw [← he]; simp [Value.cells]
  rw [this]; rfl
end Go.Proofs.Ytbhlgajdoegboaa
