/-
  NARROWER THAN 'FOR EVERY INPUT', by the rows' own cells (each row's printed sentence says how): SchemaChecks: loops · SchemaFinds: loops · SchemaAbove: loops · SchemaAttrs: loops.
  DERIVED. THE GIVEN ROWS OF THIS SEAT. 5 by the template 'for every input the law returns true; each argument reads behind the call as it read before'; 0 by the template 'total and deterministic' (their statements: YtijjbfdbhfjfmaaTotals.lean).
  GIVEN WITH THE SEED: the statements are not yours to turn. If you find one false, say at which input.
  Laid BY PROGRAM, IN A SANDBOX (cutbox-rows.mjs): the forced cells as the released guide's own fill.sh prints them over the translation 045b231ef807e2fa… (all of the seat's roots in one cut). By AI agents, Wed Nov 11 2026. No macro, syntax, notation, axiom, sorry.
-/
import Derived.Test.YtijjbfdbhfjfmaaChecked
import GoSem.Claim
import GoSem.ClaimJoined
import GoSem.ClaimMapViews
import Derived.JoinedTies
import Derived.KernelRfl
namespace Go.Proofs.Ytijjbfdbhfjfmaa
/- THE CELL 'sum', in the pinned program and in every row, IS THE sha256 OF THE DUMP (.gsa) THAT YtijjbfdbhfjfmaaProg.lean LOADS. Nothing in Lean hashes anything: it is a label: what it is worth is what the hold of that sum in a sandbox is worth. -/
noncomputable def Try.pinned : Pinned := { name := "ytijjbfdbhfjfmaa", sum := "045b231ef807e2fa36a41a33ae0355c6c0bb39f48c821fe10e4e6d9ed3d8450b", checked := Try.checked }
namespace Rows
def none {H : Type} : Left H := { results := [], args := [] }

/-- 'chamberlainlaw12.SchemaChecks': WHATEVER THE INPUT: true; the input reads as it did. -/
def schemaChecksSpec : ChangeSpec := { name := "schemaChecks", fn := fun _ => fun
  | [d] => { results := [.lit (.bool true)], args := [d] }
  | _ => none }
def schemaChecksRow : OpenClaim := { program := "ytijjbfdbhfjfmaa", sum := "045b231ef807e2fa36a41a33ae0355c6c0bb39f48c821fe10e4e6d9ed3d8450b", func := "chamberlain/chamberlainlaw12.SchemaChecks", spec := "schemaChecks", inPlace := ["internal/bytealg.IndexByteString", "internal/bytealg.IndexString"], unfollowed := true, recurses := true, named := ["internal/bytealg.MaxLen"], loops := true, apart := false }
def SchemaChecksSaid : Prop := schemaChecksRow.holds Try.pinned (OpenSpec.ofChange schemaChecksSpec)

/-- ITS FALSE NEIGHBOUR: 'it returns false'. Refute it at one input. -/
def schemaChecksWrong : ChangeSpec := { name := "schemaChecks", fn := fun _ => fun
  | [d] => { results := [.lit (.bool false)], args := [d] }
  | _ => none }
def SchemaChecksWrongFalsely : Prop := schemaChecksRow.holds Try.pinned (OpenSpec.ofChange schemaChecksWrong)

/-- 'chamberlainlaw12.SchemaFinds': WHATEVER THE INPUT: true; the input reads as it did. -/
def schemaFindsSpec : ChangeSpec := { name := "schemaFinds", fn := fun _ => fun
  | [d1, d2] => { results := [.lit (.bool true)], args := [d1, d2] }
  | _ => none }
def schemaFindsRow : OpenClaim := { program := "ytijjbfdbhfjfmaa", sum := "045b231ef807e2fa36a41a33ae0355c6c0bb39f48c821fe10e4e6d9ed3d8450b", func := "chamberlain/chamberlainlaw12.SchemaFinds", spec := "schemaFinds", inPlace := ["internal/bytealg.IndexByteString", "internal/bytealg.IndexString"], unfollowed := true, recurses := true, named := ["internal/bytealg.MaxLen"], loops := true, apart := false }
def SchemaFindsSaid : Prop := schemaFindsRow.holds Try.pinned (OpenSpec.ofChange schemaFindsSpec)

/-- ITS FALSE NEIGHBOUR: 'it returns false'. Refute it at one input. -/
def schemaFindsWrong : ChangeSpec := { name := "schemaFinds", fn := fun _ => fun
  | [d1, d2] => { results := [.lit (.bool false)], args := [d1, d2] }
  | _ => none }
def SchemaFindsWrongFalsely : Prop := schemaFindsRow.holds Try.pinned (OpenSpec.ofChange schemaFindsWrong)

/-- 'chamberlainlaw12.SchemaAbove': WHATEVER THE INPUT: true; the input reads as it did. -/
def schemaAboveSpec : ChangeSpec := { name := "schemaAbove", fn := fun _ => fun
  | [d1, d2, d3, d4] => { results := [.lit (.bool true)], args := [d1, d2, d3, d4] }
  | _ => none }
def schemaAboveRow : OpenClaim := { program := "ytijjbfdbhfjfmaa", sum := "045b231ef807e2fa36a41a33ae0355c6c0bb39f48c821fe10e4e6d9ed3d8450b", func := "chamberlain/chamberlainlaw12.SchemaAbove", spec := "schemaAbove", inPlace := ["internal/bytealg.IndexByteString", "internal/bytealg.IndexString"], unfollowed := true, recurses := true, named := ["internal/bytealg.MaxLen"], loops := true, apart := false }
def SchemaAboveSaid : Prop := schemaAboveRow.holds Try.pinned (OpenSpec.ofChange schemaAboveSpec)

/-- ITS FALSE NEIGHBOUR: 'it returns false'. Refute it at one input. -/
def schemaAboveWrong : ChangeSpec := { name := "schemaAbove", fn := fun _ => fun
  | [d1, d2, d3, d4] => { results := [.lit (.bool false)], args := [d1, d2, d3, d4] }
  | _ => none }
def SchemaAboveWrongFalsely : Prop := schemaAboveRow.holds Try.pinned (OpenSpec.ofChange schemaAboveWrong)

/-- 'chamberlainlaw12.SchemaGraphs': WHATEVER THE INPUT: true; the input reads as it did. -/
def schemaGraphsSpec : ChangeSpec := { name := "schemaGraphs", fn := fun _ => fun
  | [d1, d2, d3] => { results := [.lit (.bool true)], args := [d1, d2, d3] }
  | _ => none }
def schemaGraphsRow : OpenClaim := { program := "ytijjbfdbhfjfmaa", sum := "045b231ef807e2fa36a41a33ae0355c6c0bb39f48c821fe10e4e6d9ed3d8450b", func := "chamberlain/chamberlainlaw12.SchemaGraphs", spec := "schemaGraphs", inPlace := ["internal/bytealg.IndexByteString", "internal/bytealg.IndexString"], unfollowed := true, recurses := true, named := ["internal/bytealg.MaxLen"], apart := false }
def SchemaGraphsSaid : Prop := schemaGraphsRow.holds Try.pinned (OpenSpec.ofChange schemaGraphsSpec)

/-- ITS FALSE NEIGHBOUR: 'it returns false'. Refute it at one input. -/
def schemaGraphsWrong : ChangeSpec := { name := "schemaGraphs", fn := fun _ => fun
  | [d1, d2, d3] => { results := [.lit (.bool false)], args := [d1, d2, d3] }
  | _ => none }
def SchemaGraphsWrongFalsely : Prop := schemaGraphsRow.holds Try.pinned (OpenSpec.ofChange schemaGraphsWrong)

/-- 'chamberlainlaw12.SchemaAttrs': WHATEVER THE INPUT: true; the input reads as it did. -/
def schemaAttrsSpec : ChangeSpec := { name := "schemaAttrs", fn := fun _ => fun
  | [d1, d2, d3] => { results := [.lit (.bool true)], args := [d1, d2, d3] }
  | _ => none }
def schemaAttrsRow : OpenClaim := { program := "ytijjbfdbhfjfmaa", sum := "045b231ef807e2fa36a41a33ae0355c6c0bb39f48c821fe10e4e6d9ed3d8450b", func := "chamberlain/chamberlainlaw12.SchemaAttrs", spec := "schemaAttrs", inPlace := ["internal/bytealg.IndexByteString", "internal/bytealg.IndexString"], unfollowed := true, recurses := true, named := ["internal/bytealg.MaxLen"], loops := true, apart := false }
def SchemaAttrsSaid : Prop := schemaAttrsRow.holds Try.pinned (OpenSpec.ofChange schemaAttrsSpec)

/-- ITS FALSE NEIGHBOUR: 'it returns false'. Refute it at one input. -/
def schemaAttrsWrong : ChangeSpec := { name := "schemaAttrs", fn := fun _ => fun
  | [d1, d2, d3] => { results := [.lit (.bool false)], args := [d1, d2, d3] }
  | _ => none }
def SchemaAttrsWrongFalsely : Prop := schemaAttrsRow.holds Try.pinned (OpenSpec.ofChange schemaAttrsWrong)

/- THE SECOND FORM. 'bulk': how many values and letters a reading holds, each counted each time it is reached (what is shared counts as often as it is met; a slice's spare places count too). A statement '..UptoSaid' is the law's where the arguments, and the package variables that the reading takes, are together of bulk at most 1048576: NARROWER than '..Said'. Prove '..Said' where nothing that the law and all that it calls make is longer than what came in: it says more and counts as full. Else prove '..UptoSaid'. A law counts once. -/
mutual
def uptoBulk {H : Type} : DataW H → Nat
  | .lit (.string bytes) => bytes.length + 1
  | .lit _ => 1
  | .nil => 1
  | .ptr d => uptoBulk d + 1
  | .slice elems spare => uptoBulkAll elems + uptoBulkAll spare + 1
  | .agg parts => uptoBulkAll parts + 1
  | .iface _ d => uptoBulk d + 1
  | .map entries => uptoBulkEntries entries + 1
  | .held _ => 1
def uptoBulkAll {H : Type} : List (DataW H) → Nat
  | [] => 0
  | d :: r => uptoBulk d + uptoBulkAll r
def uptoBulkEntries {H : Type} : List (Lit × DataW H) → Nat
  | [] => 0
  | x :: r => uptoBulkEntry x + uptoBulkEntries r
def uptoBulkEntry {H : Type} : Lit × DataW H → Nat
  | (.string bytes, d) => bytes.length + uptoBulk d + 1
  | (_, d) => uptoBulk d + 1
 end
def uptoSmall : (H : Type) → List (DataW H) → Bool := fun _ ds => decide (uptoBulkAll ds ≤ 1048576)
def OpenSpec.upto (s : _root_.Go.ChangeSpec) : _root_.Go.OpenSpec := { _root_.Go.OpenSpec.ofChange s with cond := some uptoSmall }

/-- 'chamberlainlaw12.SchemaChecks', WHERE WHAT IT READS IS OF BULK AT MOST 1048576: true; the input reads as it did. -/
def schemaChecksUptoRow : OpenClaim := { program := "ytijjbfdbhfjfmaa", sum := "045b231ef807e2fa36a41a33ae0355c6c0bb39f48c821fe10e4e6d9ed3d8450b", func := "chamberlain/chamberlainlaw12.SchemaChecks", spec := "schemaChecks", inPlace := ["internal/bytealg.IndexByteString", "internal/bytealg.IndexString"], unfollowed := true, recurses := true, named := ["internal/bytealg.MaxLen"], loops := true, apart := false, narrowed := true }
def SchemaChecksUptoSaid : Prop := schemaChecksUptoRow.holds Try.pinned (OpenSpec.upto schemaChecksSpec)

/-- 'chamberlainlaw12.SchemaFinds', WHERE WHAT IT READS IS OF BULK AT MOST 1048576: true; the input reads as it did. -/
def schemaFindsUptoRow : OpenClaim := { program := "ytijjbfdbhfjfmaa", sum := "045b231ef807e2fa36a41a33ae0355c6c0bb39f48c821fe10e4e6d9ed3d8450b", func := "chamberlain/chamberlainlaw12.SchemaFinds", spec := "schemaFinds", inPlace := ["internal/bytealg.IndexByteString", "internal/bytealg.IndexString"], unfollowed := true, recurses := true, named := ["internal/bytealg.MaxLen"], loops := true, apart := false, narrowed := true }
def SchemaFindsUptoSaid : Prop := schemaFindsUptoRow.holds Try.pinned (OpenSpec.upto schemaFindsSpec)

/-- 'chamberlainlaw12.SchemaAbove', WHERE WHAT IT READS IS OF BULK AT MOST 1048576: true; the input reads as it did. -/
def schemaAboveUptoRow : OpenClaim := { program := "ytijjbfdbhfjfmaa", sum := "045b231ef807e2fa36a41a33ae0355c6c0bb39f48c821fe10e4e6d9ed3d8450b", func := "chamberlain/chamberlainlaw12.SchemaAbove", spec := "schemaAbove", inPlace := ["internal/bytealg.IndexByteString", "internal/bytealg.IndexString"], unfollowed := true, recurses := true, named := ["internal/bytealg.MaxLen"], loops := true, apart := false, narrowed := true }
def SchemaAboveUptoSaid : Prop := schemaAboveUptoRow.holds Try.pinned (OpenSpec.upto schemaAboveSpec)

/-- 'chamberlainlaw12.SchemaGraphs', WHERE WHAT IT READS IS OF BULK AT MOST 1048576: true; the input reads as it did. -/
def schemaGraphsUptoRow : OpenClaim := { program := "ytijjbfdbhfjfmaa", sum := "045b231ef807e2fa36a41a33ae0355c6c0bb39f48c821fe10e4e6d9ed3d8450b", func := "chamberlain/chamberlainlaw12.SchemaGraphs", spec := "schemaGraphs", inPlace := ["internal/bytealg.IndexByteString", "internal/bytealg.IndexString"], unfollowed := true, recurses := true, named := ["internal/bytealg.MaxLen"], apart := false, narrowed := true }
def SchemaGraphsUptoSaid : Prop := schemaGraphsUptoRow.holds Try.pinned (OpenSpec.upto schemaGraphsSpec)

/-- 'chamberlainlaw12.SchemaAttrs', WHERE WHAT IT READS IS OF BULK AT MOST 1048576: true; the input reads as it did. -/
def schemaAttrsUptoRow : OpenClaim := { program := "ytijjbfdbhfjfmaa", sum := "045b231ef807e2fa36a41a33ae0355c6c0bb39f48c821fe10e4e6d9ed3d8450b", func := "chamberlain/chamberlainlaw12.SchemaAttrs", spec := "schemaAttrs", inPlace := ["internal/bytealg.IndexByteString", "internal/bytealg.IndexString"], unfollowed := true, recurses := true, named := ["internal/bytealg.MaxLen"], loops := true, apart := false, narrowed := true }
def SchemaAttrsUptoSaid : Prop := schemaAttrsUptoRow.holds Try.pinned (OpenSpec.upto schemaAttrsSpec)

end Rows
end Go.Proofs.Ytijjbfdbhfjfmaa
