/- The reference's Whole tells whether two values are the same. No condition. -/
import Derived.Test.YtgpdcelfnpoenaaSmall
namespace Go.Proofs.Ytgpdcelfnpoenaa
open Go.RowKit Go.Sort Go.WideShapes
/-- Are two the same? -/
noncomputable def eqB (a b : V) : Bool := @decide (a = b) (Classical.propDecidable _)
theorem eqB_true {a b : V} (h : a = b) : true = eqB a b := (@decide_eq_true _ (Classical.propDecidable _) h).symm
theorem eqB_false {a b : V} (h : ¬ a = b) : false = eqB a b := (@decide_eq_false _ (Classical.propDecidable _) h).symm
theorem eqB_t {a b : V} (h : eqB a b = true) : a = b := @of_decide_eq_true _ (Classical.propDecidable _) h
theorem eqB_f {a b : V} (h : eqB a b = false) : ¬ a = b := @of_decide_eq_false _ (Classical.propDecidable _) h
theorem tl_inj {s t : ByteArray} : s.toList = t.toList ↔ s = t := by
  rw [ByteArray.toList_eq, ByteArray.toList_eq]
  exact ⟨bytes_inj, fun h => by rw [h]⟩
/-- What Whole answers. -/
def WhC (a b : V) : Prop := ∀ (w : World) (it nm it' nm' : Value), R w a it nm → R w b it' nm' →
  Calls Try.prog 20 #[av a.h it nm, av b.h it' nm'] w fun e w' => e = .returned (.bool (eqB a b)) ∧ Gr w w'
set_option maxHeartbeats 1600000 in
set_option maxRecDepth 100000 in
theorem whole_no (k n k' n' : Int) (b b' : Bool) (s t i s' t' i' : ByteArray) (w : World) (ai ai' an an' : Option Addr) (ci ci' cn cn' ll ll' nn nn' : Nat)
    (hne : ¬ (k = k' ∧ b = b' ∧ n = n' ∧ s.toList = s'.toList ∧ t.toList = t'.toList ∧ i.toList = i'.toList ∧ ll = ll' ∧ nn = nn')) :
    Calls Try.prog 20 #[.agg #[.int .i64 k, .bool b, .int .i64 n, .string s, .string t, .string i, .slice ai ll ci, .slice an nn cn], .agg #[.int .i64 k', .bool b', .int .i64 n', .string s', .string t', .string i', .slice ai' ll' ci', .slice an' nn' cn']] w fun e w' => e = .returned (.bool false) ∧ Gr w w' := by
  have HN := Lib.hid hne
  clear hne
  go_enter Try.func20, Try.ntmps20
  go_wp2_with fail
  all_goals first
    | (go_ret
       exact ⟨rfl, Gr.alloc (Gr.alloc (Gr.refl w) _) _⟩)
    | (exfalso
       have hn := HN.out
       clear HN
       simp_all
       done)
    | (exfalso
       have hn := HN.out
       clear HN
       simp_all
       omega)
end Go.Proofs.Ytgpdcelfnpoenaa
