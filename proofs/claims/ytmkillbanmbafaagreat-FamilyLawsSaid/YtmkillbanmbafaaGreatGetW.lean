/- A record's attribute of a name, as the program finds it and as the reference does. No condition. -/
import Derived.Test.YtmkillbanmbafaaGreatWhos
import Derived.Lib.SlicesS
namespace Go.Proofs.YtmkillbanmbafaaGreat
open Go.RowKit Go.Sort
def hd0 : Hd := ⟨0, false, 0, ⟨#[]⟩, ⟨#[]⟩, ⟨#[]⟩⟩
def V0 : V := .mk hd0 [] []
theorem r_V0 (w : World) : R w V0 (.slice none 0 0) (.slice none 0 0) := by
  unfold R V0
  rw [Rep]
  exact ⟨⟨by decide, by decide, by decide⟩, ⟨none, 0, rfl, by simp, by simp, .inl rfl⟩, none, 0, rfl, ⟨by simp, by simp⟩, .inl rfl⟩
/-- Where a record has a name; below 0: nowhere. -/
def getI (v : V) (x : ByteArray) : Int := if v.h.k = 6 then (if Lib.idxOfS v.ns x < 0 ∨ (v.l.length : Int) ≤ Lib.idxOfS v.ns x then -1 else Lib.idxOfS v.ns x) else -1
/-- What it has there. -/
def getV (v : V) (x : ByteArray) : V := if 0 ≤ getI v x then v.l.getD (getI v x).toNat V0 else V0
/-- What Get answers. -/
def GetP (x : V) (b : Bool) (w : World) (e : Ending) (w' : World) : Prop := ∃ it nm, e = .returned (.tuple #[av x.h it nm, .bool b]) ∧ R w' x it nm ∧ Gr w w'
theorem retG {v v' : V} {it nm : Value} {b b' : Bool} (hv : v = v') (hb : b = b') : Ending.returned (.tuple #[av v.h it nm, .bool b]) = .returned (.tuple #[av v'.h it nm, .bool b']) := by rw [hv, hb]
theorem idx_hit {ns : List ByteArray} {x : ByteArray} {k : Nat} (hk : k < ns.length) (h : ns[k] = x) (hne : ∀ j (hj : j < ns.length), j < k → ns[j] ≠ x) : Lib.idxOfS ns x = k := by
  have := Lib.idxOfS_hit ns ns.length k x hk (Nat.le_refl _) (by simp [List.getD, List.getElem?_eq_getElem hk, h]) fun j hj => by
    have := hne j (by omega) hj
    simpa [List.getD, List.getElem?_eq_getElem (show j < ns.length by omega)] using this
  rwa [List.take_length] at this
theorem idx_miss {ns : List ByteArray} {x : ByteArray} (hne : ∀ j (hj : j < ns.length), ns[j] ≠ x) : Lib.idxOfS ns x = -1 := by
  have := Lib.idxOfS_miss ns ns.length x fun j hj => by
    have := hne j hj
    simpa [List.getD, List.getElem?_eq_getElem hj] using this
  rwa [List.take_length] at this
end Go.Proofs.YtmkillbanmbafaaGreat
