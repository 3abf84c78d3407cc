/- Names as keys of a map: how one is laid as a value, and what it reads as. No condition. -/
import Derived.Test.YtbfaccndgjilmaaGreatRows
import Derived.Test.YtbfaccndgjilmaaGreatMps
import Derived.Test.YtbfaccndgjilmaaGreatEnts
import Derived.DeepKeys4
namespace Go.Proofs.YtbfaccndgjilmaaGreat
open Go.RowKit Go.Maps
def usV (u : Us) : Value := .agg #[.string u.t, .string u.i]
def usL (u : Us) : Lit := .string (keyBytes [.string u.t.data.toList, .string u.i.data.toList])
theorem laidOutE : laidOutB Tryz.prog = true := by kernel_rfl
theorem rowUs : 31 < Tryz.prog.types.size := of_decide_eq_true (by kernel_rfl)
theorem kt2Us : Tryz.prog.keyTypeAt 2 31 = true := by kernel_rfl
theorem lawUs : WideMaps.KeyLaw Tryz.prog 31 := deep_law_laid laidOutE (m := 2) (by omega) rowUs kt2Us (by rw [Tryz.underlying31])
theorem keyedUs : Keyed Tryz.prog 31 := Keyed.of_law lawUs
theorem cellsUs : Tryz.prog.cellsOf 31 = 2 := by kernel_rfl
theorem ktUs : Tryz.prog.keyType 31 = true := by kernel_rfl
theorem szP : ∃ D, Tryz.prog.types.size + 1 = D + 2 := ⟨Tryz.prog.types.size - 1, by have := rowUs; omega⟩
theorem lits_text (D : Nat) (s : ByteArray) (h : s.size ≤ maxLen) : Tryz.prog.keyLits (D + 1) 9 [.string s] = some [.string s.data.toList] := by
  unfold Program.keyLits
  rw [Tryz.underlying9]
  simp [h]
theorem usOk (u : Us) : keyOf Tryz.prog 31 (usV u) = some (usL u) := by
  have hf : (usV u).formed Tryz.prog 31 = true := by simp [usV, Value.formed, Tryz.underlying31, cellsUs]
  obtain ⟨D, hD⟩ := szP
  have hl : Tryz.prog.keyLits (Tryz.prog.types.size + 1) 31 [.string u.t, .string u.i] = some [.string u.t.data.toList, .string u.i.data.toList] := by
    have h1 := lits_text D u.t u.ht
    have h2 := lits_text D u.i u.hi
    have hc : Tryz.prog.cellsOf 9 = 1 := by kernel_rfl
    rw [hD]
    unfold Program.keyLits
    rw [Tryz.underlying31]
    simp [cellsUs, hc, h1, h2]
  unfold keyOf
  rw [Tryz.underlying31]
  simp only [ktUs, hf, Bool.and_self, if_true]
  show ((Tryz.prog.keyLits (Tryz.prog.types.size + 1) 31 [.string u.t, .string u.i]).map fun ls => Lit.string (keyBytes ls)) = _
  rw [hl]
  rfl
theorem usInj (a b : Us) (h : usV a = usV b) : a = b := by
  unfold usV at h
  injection h with h
  have h1 : ([.string a.t, .string a.i] : List Value) = [.string b.t, .string b.i] := by
    have := congrArg Array.toList h
    exact this
  injection h1 with e1 e2
  injection e2 with e2 _
  injection e1 with e1
  injection e2 with e2
  exact Us.ext' e1 e2
def keyUs : KeyF Tryz.prog 31 Us := ⟨usV, usL, usOk, usInj⟩
end Go.Proofs.YtbfaccndgjilmaaGreat
