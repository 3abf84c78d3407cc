/- A request among a law's arguments lies in memory. No condition. -/
import Derived.Test.YtnenjgngahipdaaGreatZg40
import Derived.Test.YtnenjgngahipdaaGreatZg21
set_option linter.unusedVariables false
set_option linter.unusedSimpArgs false
set_option linter.unnecessarySimpa false
namespace Go.Proofs.YtnenjgngahipdaaGreat
open Go.RowKit Go.ChangeShapes Go.WideShapes Go.Deep
set_option linter.unusedVariables false
variable {H : Type} {enc : TypeId × Value → H} {w : World} {spare : Nat → Bool} {held : Bool}
set_option maxRecDepth 100000 in
theorem cofRq : Tryz.prog.cellsOf 56 = 14 := by kernel_rfl
set_option maxRecDepth 100000 in
theorem trod_rq {base fuel : Nat} {cs : List Value} {x : DataW H × List MemPlace} (h : DataW.trod enc Tryz.prog w base spare held fuel 56 cs = some x) : ∃ (a b c : Us) (v : V) (it nm : Value), cs = rqcs a.t a.i b.t b.i c.t c.i v.h it nm ∧ R w v it nm := by
  obtain ⟨xs, n, rfl, -, hlen, hxl, hf⟩ := DataW.trod_struct Tryz.underlying56 h
  rw [cofRq] at hlen
  have hx4 : xs.length = 4 := hxl
  match cs, hlen with
  | [c0, c1, c2, c3, c4, c5, c6, c7, c8, c9, c10, c11, c12, c13], _ =>
    have f0 : DataW.trod enc Tryz.prog w base spare held n 23 (([c0, c1, c2, c3, c4, c5, c6, c7, c8, c9, c10, c11, c12, c13].drop 0).take (Tryz.prog.cellsOf 23)) = some _ := (hf 0 _ rfl).trans (List.getElem?_eq_getElem (by omega))
    have f1 : DataW.trod enc Tryz.prog w base spare held n 23 (([c0, c1, c2, c3, c4, c5, c6, c7, c8, c9, c10, c11, c12, c13].drop 2).take (Tryz.prog.cellsOf 23)) = some _ := (hf 1 _ rfl).trans (List.getElem?_eq_getElem (by omega))
    have f2 : DataW.trod enc Tryz.prog w base spare held n 23 (([c0, c1, c2, c3, c4, c5, c6, c7, c8, c9, c10, c11, c12, c13].drop 4).take (Tryz.prog.cellsOf 23)) = some _ := (hf 2 _ rfl).trans (List.getElem?_eq_getElem (by omega))
    have f3 : DataW.trod enc Tryz.prog w base spare held n 27 (([c0, c1, c2, c3, c4, c5, c6, c7, c8, c9, c10, c11, c12, c13].drop 6).take (Tryz.prog.cellsOf 27)) = some _ := (hf 3 _ rfl).trans (List.getElem?_eq_getElem (by omega))
    rw [cof23] at f0 f1 f2
    rw [cof27] at f3
    obtain ⟨a, ha⟩ := trod_uid f0
    obtain ⟨b, hb⟩ := trod_uid f1
    obtain ⟨c, hc⟩ := trod_uid f2
    obtain ⟨v, it, nm, hv, hr⟩ := trod_val n f3
    simp [Us.cs] at ha hb hc
    simp [hdc] at hv
    obtain ⟨rfl, rfl⟩ := ha
    obtain ⟨rfl, rfl⟩ := hb
    obtain ⟨rfl, rfl⟩ := hc
    obtain ⟨rfl, rfl, rfl, rfl, rfl, rfl, rfl, rfl⟩ := hv
    exact ⟨a, b, c, v, _, _, rfl, hr⟩
set_option maxRecDepth 100000 in
theorem open_rq {r : Reach} {base : Nat} {v : Value} {d : DataW H} {p : List MemPlace} (hv : Value.okWide Tryz.prog w r base 56 v) (h : DataW.Trod enc Tryz.prog w 0 spare held 56 v d p) : ∃ (a b c : Us) (x : V) (it nm : Value), v = .agg (rqcs a.t a.i b.t b.i c.t c.i x.h it nm).toArray ∧ R w x it nm := by
  obtain ⟨cs, rfl, -⟩ := okWide_struct Tryz.underlying56 hv
  obtain ⟨fuel, hf⟩ := h
  obtain ⟨a, b, c, x, it, nm, he, hr⟩ := trod_rq hf
  refine ⟨a, b, c, x, it, nm, ?_, hr⟩
  have : cs = (rqcs a.t a.i b.t b.i c.t c.i x.h it nm).toArray := by
    rw [← he]; simp [Value.cells]
  rw [this]
end Go.Proofs.YtnenjgngahipdaaGreat
