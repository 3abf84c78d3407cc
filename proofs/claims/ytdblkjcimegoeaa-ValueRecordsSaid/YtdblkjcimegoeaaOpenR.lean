/- A row of values, of texts or of numbers among a law's arguments lies in memory. No condition. -/
import Derived.Test.YtdblkjcimegoeaaOpenV
import Derived.OpenShut
namespace Go.Proofs.Ytdblkjcimegoeaa
open Go.RowKit Go.ChangeShapes Go.WideShapes Go.Deep
variable {H : Type} {enc : TypeId × Value → H} {w : World} {spare : Nat → Bool} {held : Bool}
theorem one_slice {a b : Option Addr} {n c n' c' : Nat} (h : (Value.cells (.slice a n c)).toList = [.slice b n' c']) : Value.slice a n c = .slice b n' c' := by
  have : (Value.cells (.slice a n c)).toList = [.slice a n c] := rfl
  rw [this] at h
  exact (List.cons.inj h).1
set_option maxRecDepth 100000 in
theorem open_row {r : Reach} {base : Nat} {v : Value} {d : DataW H} {p : List MemPlace} (hv : Value.okWide Try.prog w r base 27 v) (h : DataW.Trod enc Try.prog w 0 spare held 27 v d p) : ∃ l : List V, Ro w l v := by
  obtain ⟨ao, n, c, rfl⟩ := okWide_slice Try.underlying27 hv
  obtain ⟨fuel, hf⟩ := h
  rcases DataW.trod_slice Try.underlying27 hf with ⟨e6, -⟩ | ⟨a, len, cap, elems, rest, n2, hn2, e6, -, -, hlc, hcm, hel, hall, -, -⟩
  · rw [one_slice e6]
    exact ⟨[], none, 0, rfl, ⟨by simp, by simp⟩, .inl rfl⟩
  · rw [one_slice e6]
    rw [cof27] at hall
    have hx : ∀ j, j < len → ∃ z : V × Value × Value, (∀ c u, (hdc z.1.h z.2.1 z.2.2)[c]? = some u → w.cell? (a.add (j * 8 + c)) = some u) ∧ R w z.1 z.2.1 z.2.2 := fun j hj => by
      have h1 := hall j hj
      rw [List.getElem?_eq_getElem (by omega)] at h1
      obtain ⟨c, h2, h3⟩ := Option.bind_eq_some_iff.1 h1
      obtain ⟨v, it, nm, rfl, hr⟩ := trod_val n2 h3
      obtain ⟨-, -, hat⟩ := World.cells?_some h2
      refine ⟨(v, it, nm), fun c u hu => ?_, hr⟩
      have h8 : c < 8 := by have := (List.getElem?_eq_some_iff.1 hu).1; simpa [hdc] using this
      have := hat c h8
      rw [add_add] at this
      rw [this]; exact hu
    haveI : Inhabited (V × Value × Value) := ⟨(V0, .nilFunc, .nilFunc)⟩
    obtain ⟨f, hfz⟩ := choose_lt hx
    refine ⟨(List.range len).map fun j => (f j).1, some a, cap, by simp, ⟨by simp; exact hlc, by unfold maxLen at hcm; exact hcm⟩, ?_⟩
    rcases Nat.eq_zero_or_pos len with h0 | h0
    · exact .inl (by rw [h0]; rfl)
    · obtain ⟨bb, oo, rfl⟩ := addr_plain ((hfz 0 h0).1 0 _ rfl)
      refine .inr ⟨bb, oo, rfl, trivial, repF_of fun j hj => ?_⟩
      have hj' : j < len := by simpa using hj
      have hg : ((List.range len).map fun j => (f j).1)[j] = (f j).1 := by simp
      rw [hg]
      refine ⟨(f j).2.1, (f j).2.2, fun c u hu => ?_, (hfz j hj').2⟩
      have := (hfz j hj').1 c u hu
      rw [Addr.add_lit] at this
      rw [Nat.add_assoc]; exact this
set_option maxRecDepth 100000 in
theorem open_names {r : Reach} {base : Nat} {v : Value} {d : DataW H} {p : List MemPlace} (hv : Value.okWide Try.prog w r base 22 v) (h : DataW.Trod enc Try.prog w 0 spare held 22 v d p) : ∃ ns : List ByteArray, Na w ns v := by
  obtain ⟨ao, n, c, rfl⟩ := okWide_slice Try.underlying22 hv
  obtain ⟨fuel, hf⟩ := h
  obtain ⟨ns, nm, e, hn⟩ := trod_names hf
  have : (Value.cells (.slice ao n c)).toList = [.slice ao n c] := rfl
  rw [this] at e
  exact ⟨ns, (List.cons.inj e).1 ▸ hn⟩
/-- A slice of numbers. -/
def Nu (w : World) (zs : List Int) (v : Value) : Prop :=
  ∃ ao cap, v = .slice ao zs.length cap ∧ zs.length ≤ 9223372036854775807 ∧ (∀ z ∈ zs, -9223372036854775808 ≤ z ∧ z ≤ 9223372036854775807) ∧
    (zs = [] ∨ ∃ b o, ao = some ⟨b, o, none⟩ ∧ ∀ j (hj : j < zs.length), w.cell? ⟨b, o + j, none⟩ = some (.int .i64 zs[j]))
theorem Nu.low {w w' : World} {zs : List Int} {v : Value} (h : Nu w zs v) (l : Low w w') : Nu w' zs v := by
  obtain ⟨ao, cap, h1, h2, h3, h4⟩ := h
  exact ⟨ao, cap, h1, h2, h3, h4.imp id fun ⟨b, o, h5, h6⟩ => ⟨b, o, h5, fun j hj => l.keep (h6 j hj)⟩⟩
set_option maxRecDepth 100000 in
theorem open_nums {r : Reach} {base : Nat} {v : Value} {d : DataW H} {p : List MemPlace} (hv : Value.okWide Try.prog w r base 23 v) (h : DataW.Trod enc Try.prog w 0 spare held 23 v d p) : ∃ zs : List Int, Nu w zs v := by
  obtain ⟨ao, n, c, rfl⟩ := okWide_slice Try.underlying23 hv
  obtain ⟨fuel, hf⟩ := h
  rcases DataW.trod_slice Try.underlying23 hf with ⟨e6, -⟩ | ⟨a, len, cap, elems, rest, n2, hn2, e6, -, -, hlc, hcm, hel, hall, -, -⟩
  · rw [one_slice e6]
    exact ⟨[], none, 0, rfl, by simp, by simp, .inl rfl⟩
  · rw [one_slice e6]
    rw [cof2] at hall
    have hx : ∀ i, i < len → ∃ s : Int, w.cell? (a.add i) = some (.int .i64 s) ∧ -9223372036854775808 ≤ s ∧ s ≤ 9223372036854775807 := fun i hi => by
      have h1 := hall i hi
      rw [List.getElem?_eq_getElem (by omega)] at h1
      obtain ⟨c, h2, h3⟩ := Option.bind_eq_some_iff.1 h1
      obtain ⟨s, rfl, -, hs⟩ := DataW.trod_int Try.underlying2 h3
      obtain ⟨-, -, hat⟩ := World.cells?_some h2
      have := hat 0 (by decide)
      rw [add_add, Nat.mul_one, Nat.add_zero] at this
      have hb := bounds_i64 hs
      exact ⟨s, this, hb.1, hb.2⟩
    haveI : Inhabited Int := ⟨0⟩
    obtain ⟨f, hf⟩ := choose_lt hx
    refine ⟨(List.range len).map f, some a, cap, by simp, by simp; unfold maxLen at hcm; omega, fun x hx => ?_, ?_⟩
    · obtain ⟨i, hi, rfl⟩ := List.mem_map.1 hx
      exact (hf i (List.mem_range.1 hi)).2
    · rcases Nat.eq_zero_or_pos len with h0 | h0
      · exact .inl (by rw [h0]; rfl)
      · obtain ⟨b, o, rfl⟩ := addr_plain (hf 0 h0).1
        refine .inr ⟨b, o, rfl, fun j hj => ?_⟩
        have hj' : j < len := by simpa using hj
        have := (hf j hj').1
        rw [Addr.add_lit] at this
        rw [this]
        simp
end Go.Proofs.Ytdblkjcimegoeaa
