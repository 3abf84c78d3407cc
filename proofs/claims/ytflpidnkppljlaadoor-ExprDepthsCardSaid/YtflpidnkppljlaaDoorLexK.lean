/- What the rows' list gives: the table of marks holds its texts. No condition but the list. -/
import Derived.Test.YtflpidnkppljlaaDoorRows
import Derived.Test.YtflpidnkppljlaaDoorLexD
import Derived.Lib.LaidTab
set_option linter.unusedVariables false
set_option linter.unnecessarySimpa false
set_option linter.unusedSimpArgs false
namespace Go.Proofs.YtflpidnkppljlaaDoor
open Go.RowKit Go.Lib
theorem cells_of_strs {H : Type} {enc : TypeId × Value → H} {P : Program} {w : World} {base : Nat} {sp : Nat → Bool} {held : Bool} {fuel : Nat} {t e : TypeId} {n : Nat} {cs : List Value} {bs : List (List UInt8)} {p : List MemPlace}
    (ht : P.underlying t = some (.array n e)) (he : P.underlying e = some .string) (hce : P.cellsOf e = 1) (hct : P.cellsOf t = n)
    (h : DataW.trod enc P w base sp held fuel t cs = some (.agg (bs.map fun b => .lit (.string b)), p)) : cs = bs.map fun b => Value.string ⟨b.toArray⟩ := by
  cases fuel with
  | zero => simp [DataW.trod] at h
  | succ fuel =>
    simp only [DataW.trod, ht, hce, hct, Nat.mul_one] at h
    split at h
    · rename_i hl
      obtain ⟨xs, hm, hx⟩ := Option.map_eq_some_iff.1 h
      have hxs : xs.map (·.1) = bs.map fun b => (DataW.lit (.string b) : DataW H) := by
        have := congrArg Prod.fst hx
        simpa using this
      have hxl : xs.length = n := by simpa using mapM_length hm
      have hzl : bs.length = n := by
        have := congrArg List.length hxs
        simp at this
        omega
      apply List.ext_getElem?
      intro i
      by_cases hi : i < n
      · obtain ⟨b, hb, hf⟩ := mapM_at hm i i (by simp [hi])
        obtain ⟨s, hc, rfl, _⟩ := DataW.trod_string he hf
        have h1 : cs[i]? = some (.string s) := by
          have := congrArg (·[0]?) hc
          simpa [List.getElem?_take, List.getElem?_drop] using this
        have h2 : (xs.map (·.1))[i]? = some (DataW.lit (.string s.data.toList) : DataW H) := by simp [hb]
        rw [hxs] at h2
        simp only [List.getElem?_map, Option.map_eq_some_iff, DataW.lit.injEq, Lit.string.injEq] at h2
        obtain ⟨z', hz', hz2⟩ := h2
        simp only [h1, List.getElem?_map, hz', Option.map_some, Option.some.injEq, Value.string.injEq]
        rw [hz2]
      · rw [List.getElem?_eq_none (by omega), List.getElem?_eq_none (by simp; omega)]
    · cases h
theorem gMarks : Tryd.prog.globalNamed "chamberlain/lex.marks" = some 0 := by kernel_rfl
theorem tMarks : (Tryd.prog.globals[0]?).map (·.type) = some 72 := by kernel_rfl
theorem cMarks : Tryd.prog.cellsOf 72 = 24 := by kernel_rfl
theorem cStr : Tryd.prog.cellsOf 9 = 1 := by kernel_rfl
theorem laid_is {H : Type} : (Rows.laid_chamberlain_lex_marks : DataW H) = .agg (marksL.map fun b => .lit (.string b)) := rfl
theorem mk_laid {W : World} {rest : List (String × DataW Unit)} (h : laidMet Tryd.prog (("chamberlain/lex.marks", Rows.laid_chamberlain_lex_marks) :: rest) W) : MkAt W := by
  obtain ⟨ps, ⟨g', t', cs, fuel, p, q, hg', ht', hvar, hd, _, _⟩, _⟩ := h
  obtain rfl := Option.some.inj (gMarks.symm.trans hg')
  obtain rfl := Option.some.inj (tMarks.symm.trans ht')
  rw [laid_is] at hd
  have hc := cells_of_strs Tryd.underlying72 Tryd.underlying9 cStr cMarks hd
  intro i hi
  have := World.var?_cell gMarks hvar i
  rw [this]
  have hl : i < marksL.length := by simpa [marksL] using hi
  have e : cs.toList[i]? = some (.string (mkS i)) := by
    rw [hc, List.getElem?_map, List.getElem?_eq_getElem hl]
    unfold mkS mkL
    rw [List.getD_eq_getElem?_getD, List.getElem?_eq_getElem hl]; rfl
  simpa using e
end Go.Proofs.YtflpidnkppljlaaDoor
