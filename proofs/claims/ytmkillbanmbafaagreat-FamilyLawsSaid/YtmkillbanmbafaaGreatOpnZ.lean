/- A list of entities among a law's arguments lies in memory. No condition. A name among a law's arguments. No condition. -/
import Derived.Test.YtmkillbanmbafaaGreatOpns
import Derived.Test.YtmkillbanmbafaaGreatEntM
namespace Go.Proofs.YtmkillbanmbafaaGreat
open Go.RowKit Go.ChangeShapes Go.WideShapes Go.Deep
variable {H : Type} {enc : TypeId × Value → H} {w : World} {spare : Nat → Bool} {held : Bool}
theorem cofE : Tryz.prog.cellsOf 39 = 11 := by kernel_rfl
theorem cofUs : Tryz.prog.cellsOf 33 = 1 := by kernel_rfl
theorem trod_uid {base fuel : Nat} {c0 c1 : Value} {x : DataW H × List MemPlace} (h : DataW.trod enc Tryz.prog w base spare held fuel 24 [c0, c1] = some x) : ∃ u : Us, [c0, c1] = u.cs := by
  obtain ⟨us, un, -, -, -, hul, huf⟩ := DataW.trod_struct Tryz.underlying24 h
  have hu2 : us.length = 2 := hul
  have u0 : DataW.trod enc Tryz.prog w base spare held un 9 (([c0, c1].drop 0).take (Tryz.prog.cellsOf 9)) = some _ := (huf 0 _ rfl).trans (List.getElem?_eq_getElem (by omega))
  have u1 : DataW.trod enc Tryz.prog w base spare held un 9 (([c0, c1].drop 1).take (Tryz.prog.cellsOf 9)) = some _ := (huf 1 _ rfl).trans (List.getElem?_eq_getElem (by omega))
  rw [cof9] at u0 u1
  obtain ⟨t, e4, -, ht⟩ := DataW.trod_string Tryz.underlying9 u0
  obtain ⟨i, e5, -, hi⟩ := DataW.trod_string Tryz.underlying9 u1
  simp at e4 e5
  subst e4 e5
  exact ⟨⟨t, i, ht, hi⟩, rfl⟩
theorem trod_uids {base fuel : Nat} {cs : List Value} {x : DataW H × List MemPlace} (h : DataW.trod enc Tryz.prog w base spare held fuel 33 cs = some x) : ∃ (l : List Us) (v : Value), cs = [v] ∧ UsIn (fun _ => True) w v l := by
  rcases DataW.trod_slice Tryz.underlying33 h with ⟨rfl, -⟩ | ⟨a, len, cap, elems, rest, n, -, rfl, -, -, hlc, hcm, hel, hall, -, -⟩
  · exact ⟨[], _, rfl, none, 0, rfl, ⟨by simp, by simp⟩, fun j hj => by simp at hj⟩
  · rw [cof23] at hall
    have hx : ∀ j, j < len → ∃ u : Us, ∀ c v, u.cs[c]? = some v → w.cell? (a.add (j * 2 + c)) = some v := fun j hj => by
      have h1 := hall j hj
      rw [List.getElem?_eq_getElem (by omega)] at h1
      obtain ⟨c, h2, h3⟩ := Option.bind_eq_some_iff.1 h1
      obtain ⟨-, hl, hat⟩ := World.cells?_some h2
      match c, hl with
      | [c0, c1], _ =>
        obtain ⟨u, hu⟩ := trod_uid h3
        refine ⟨u, fun c v hv => ?_⟩
        have h8 : c < 2 := by have := (List.getElem?_eq_some_iff.1 hv).1; simpa [Us.cs] using this
        have := hat c h8
        rw [add_add] at this
        rw [this, hu]; exact hv
    haveI : Inhabited Us := ⟨⟨⟨#[]⟩, ⟨#[]⟩, Nat.zero_le _, Nat.zero_le _⟩⟩
    obtain ⟨f, hf⟩ := choose_lt hx
    refine ⟨(List.range len).map f, _, rfl, some a, cap, by simp, ⟨by simp; exact hlc, by unfold maxLen at hcm; exact hcm⟩, fun j hj => ?_⟩
    have hj' : j < len := by simpa using hj
    obtain ⟨b, o, rfl⟩ := addr_plain (hf 0 (by omega) 0 _ rfl)
    refine ⟨b, o, rfl, trivial, fun c v hv => ?_⟩
    have hg : ((List.range len).map f)[j] = f j := by simp
    rw [hg] at hv
    have := hf j hj' c v hv
    rw [Addr.add_lit] at this
    rw [Nat.add_assoc]; exact this
set_option maxRecDepth 100000 in
theorem trod_ent {base fuel : Nat} {cs : List Value} {x : DataW H × List MemPlace} (h : DataW.trod enc Tryz.prog w base spare held fuel 39 cs = some x) : ∃ q : Ee, cs = q.sh.cs ∧ EeOk (fun _ => True) w q := by
  obtain ⟨xs, n, rfl, -, hlen, hxl, hf⟩ := DataW.trod_struct Tryz.underlying39 h
  rw [cofE] at hlen
  have hx3 : xs.length = 3 := hxl
  match cs, hlen with
  | [c0, c1, c2, c3, c4, c5, c6, c7, c8, c9, c10], _ =>
    have f0 : DataW.trod enc Tryz.prog w base spare held n 24 (([c0, c1, c2, c3, c4, c5, c6, c7, c8, c9, c10].drop 0).take (Tryz.prog.cellsOf 24)) = some _ := (hf 0 _ rfl).trans (List.getElem?_eq_getElem (by omega))
    have f1 : DataW.trod enc Tryz.prog w base spare held n 33 (([c0, c1, c2, c3, c4, c5, c6, c7, c8, c9, c10].drop 2).take (Tryz.prog.cellsOf 33)) = some _ := (hf 1 _ rfl).trans (List.getElem?_eq_getElem (by omega))
    have f2 : DataW.trod enc Tryz.prog w base spare held n 37 (([c0, c1, c2, c3, c4, c5, c6, c7, c8, c9, c10].drop 3).take (Tryz.prog.cellsOf 37)) = some _ := (hf 2 _ rfl).trans (List.getElem?_eq_getElem (by omega))
    rw [cof23] at f0
    rw [cofUs] at f1
    rw [cof27] at f2
    obtain ⟨u, hu⟩ := trod_uid f0
    obtain ⟨ps, pv, hp, hps⟩ := trod_uids f1
    obtain ⟨v, it, nm, hv, hr⟩ := trod_val n f2
    obtain ⟨ai, ci, an, cn, rfl, rfl⟩ := r_slices hr
    obtain ⟨ap, cp, rfl, hc, hx⟩ := hps
    simp [Us.cs] at hu
    simp at hp
    simp [hdc] at hv
    obtain ⟨rfl, rfl⟩ := hu
    obtain ⟨rfl, rfl, rfl, rfl, rfl, rfl, rfl, rfl⟩ := hv
    subst hp
    exact ⟨⟨⟨u, ps, v⟩, ap, cp, ai, ci, an, cn⟩, rfl, ⟨ap, cp, rfl, hc, hx⟩, hr⟩
set_option maxRecDepth 100000 in
theorem open_ents {r : Reach} {base : Nat} {v : Value} {d : DataW H} {p : List MemPlace} (hv : Value.okWide Tryz.prog w r base 22 v) (h : DataW.Trod enc Tryz.prog w 0 spare held 22 v d p) : ∃ qs : List Ee, EtAt w v qs := by
  obtain ⟨ao, n, c, rfl⟩ := okWide_slice Tryz.underlying22 hv
  obtain ⟨fuel, hf⟩ := h
  rcases DataW.trod_slice Tryz.underlying22 hf with ⟨e6, -⟩ | ⟨a, len, cap, elems, rest, n2, hn2, e6, -, -, hlc, hcm, hel, hall, -, -⟩
  · rw [one_slice e6]
    exact ⟨[], ⟨none, 0, rfl, ⟨by simp, by simp⟩, fun j hj => by simp at hj⟩, fun q hq => by simp at hq⟩
  · rw [one_slice e6]
    rw [cofE] at hall
    have hx : ∀ j, j < len → ∃ q : Ee, (∀ c u, q.sh.cs[c]? = some u → w.cell? (a.add (j * 11 + c)) = some u) ∧ EeOk (fun _ => True) w q := fun j hj => by
      have h1 := hall j hj
      rw [List.getElem?_eq_getElem (by omega)] at h1
      obtain ⟨c, h2, h3⟩ := Option.bind_eq_some_iff.1 h1
      obtain ⟨q, rfl, hq⟩ := trod_ent h3
      obtain ⟨-, -, hat⟩ := World.cells?_some h2
      refine ⟨q, fun c u hu => ?_, hq⟩
      have h8 : c < 11 := by have := (List.getElem?_eq_some_iff.1 hu).1; simpa [Sh.cs] using this
      have := hat c h8
      rw [add_add] at this
      rw [this]; exact hu
    haveI : Inhabited Ee := ⟨⟨⟨⟨⟨#[]⟩, ⟨#[]⟩, Nat.zero_le _, Nat.zero_le _⟩, [], V0⟩, none, 0, none, 0, none, 0⟩⟩
    obtain ⟨f, hfz⟩ := choose_lt hx
    refine ⟨(List.range len).map f, ⟨some a, cap, by simp, ⟨by simp; exact hlc, by unfold maxLen at hcm; exact hcm⟩, fun j hj => ?_⟩, fun q hq => ?_⟩
    · have hj' : j < len := by simpa using hj
      obtain ⟨bb, oo, rfl⟩ := addr_plain ((hfz 0 (by omega)).1 0 _ rfl)
      refine ⟨bb, oo, rfl, fun c u hu => ?_⟩
      have hg : (((List.range len).map f).map Ee.sh)[j] = (f j).sh := by simp
      rw [hg] at hu
      have := (hfz j hj').1 c u hu
      rw [Addr.add_lit] at this
      rw [Nat.add_assoc]; exact this
    · obtain ⟨j, hj, rfl⟩ := List.mem_map.1 hq
      exact (hfz j (List.mem_range.1 hj)).2
end Go.Proofs.YtmkillbanmbafaaGreat
namespace Go.Proofs.YtmkillbanmbafaaGreat
open Go.RowKit Go.ChangeShapes Go.WideShapes Go.Deep
variable {H : Type} {enc : TypeId × Value → H} {w : World} {spare : Nat → Bool} {held : Bool}
set_option maxRecDepth 100000 in
theorem open_uid {r : Reach} {base : Nat} {v : Value} {d : DataW H} {p : List MemPlace} (hv : Value.okWide Tryz.prog w r base 24 v) (h : DataW.Trod enc Tryz.prog w 0 spare held 24 v d p) : ∃ u : Us, v = .agg #[.string u.t, .string u.i] := by
  obtain ⟨cs, rfl, -⟩ := okWide_struct Tryz.underlying24 hv
  obtain ⟨fuel, hf⟩ := h
  obtain ⟨xs, n, -, -, hlen, -, -⟩ := DataW.trod_struct Tryz.underlying24 hf
  rw [cof23] at hlen
  have hl : cs.toList.length = 2 := by simpa [Value.cells] using hlen
  have hf2 : DataW.trod enc Tryz.prog w 0 spare held fuel 24 cs.toList = some (d, p) := by simpa [Value.cells] using hf
  match hcs : cs.toList, hl with
  | [c0, c1], _ =>
    rw [hcs] at hf2
    obtain ⟨u, hu⟩ := trod_uid hf2
    refine ⟨u, ?_⟩
    have : cs = u.cs.toArray := by rw [← hu, ← hcs]
    rw [this]; rfl
end Go.Proofs.YtmkillbanmbafaaGreat
