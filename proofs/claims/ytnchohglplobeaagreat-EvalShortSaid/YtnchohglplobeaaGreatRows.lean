/-
  NARROWER THAN 'FOR EVERY INPUT', by the rows' own cells (each row's printed sentence says how): EvalTrees: loops · EvalTwo: loops · EvalScopes: loops · EvalShort: loops · EvalAttributes: loops.
  DERIVED. THE GIVEN ROWS OF THIS SEAT. 7 by the template 'for every input the law returns true; each argument reads behind the call as it read before'; 0 by the template 'total and deterministic' (their statements: YtnchohglplobeaaGreatTotals.lean).
  GIVEN WITH THE SEED: the statements are not yours to turn. If you find one false, say at which input.
  Laid BY PROGRAM, IN A SANDBOX (cutbox-rows.mjs): the forced cells as the released guide's own fill.sh prints them over the translation ef19f8d10122ce4d… (all of the seat's roots in one cut). By AI agents, Wed Nov 11 2026. No macro, syntax, notation, axiom, sorry.
-/
import Derived.Test.YtnchohglplobeaaGreatChecked
import GoSem.Claim
import GoSem.ClaimJoined
import GoSem.ClaimMapViews
import Derived.JoinedTies
import Derived.KernelRfl
namespace Go.Proofs.YtnchohglplobeaaGreat
/- THE CELL 'sum', in the pinned program and in every row, IS THE sha256 OF THE DUMP (.gsa) THAT YtnchohglplobeaaGreatProg.lean LOADS. Nothing in Lean hashes anything: it is a label: what it is worth is what the hold of that sum in a sandbox is worth. -/
noncomputable def Tryz.pinned : Pinned := { name := "ytnchohglplobeaagreat", sum := "ef19f8d10122ce4de9a811b77910df25411dc81a017224c73c318d86633e04a5", checked := Tryz.checked }
namespace Rows
def none {H : Type} : Left H := { results := [], args := [] }

/-- 'chamberlainlaw14.EvalTrees': WHATEVER THE INPUT: true; the input reads as it did. -/
def evalTreesSpec : ChangeSpec := { name := "evalTrees", fn := fun _ => fun
  | [d1, d2, d3] => { results := [.lit (.bool true)], args := [d1, d2, d3] }
  | _ => none }
def evalTreesRow : OpenClaim := { program := "ytnchohglplobeaagreat", sum := "ef19f8d10122ce4de9a811b77910df25411dc81a017224c73c318d86633e04a5", func := "chamberlain/chamberlainlaw14.EvalTrees", spec := "evalTrees", inPlace := ["internal/bytealg.abigen_runtime_cmpstring"], unfollowed := true, recurses := true, loops := true, plainKeys := false, apart := false }
def EvalTreesSaid : Prop := evalTreesRow.holds Tryz.pinned (OpenSpec.ofChange evalTreesSpec)

/-- ITS FALSE NEIGHBOUR: 'it returns false'. Refute it at one input. -/
def evalTreesWrong : ChangeSpec := { name := "evalTrees", fn := fun _ => fun
  | [d1, d2, d3] => { results := [.lit (.bool false)], args := [d1, d2, d3] }
  | _ => none }
def EvalTreesWrongFalsely : Prop := evalTreesRow.holds Tryz.pinned (OpenSpec.ofChange evalTreesWrong)

/-- 'chamberlainlaw14.EvalTwo': WHATEVER THE INPUT: true; the input reads as it did. -/
def evalTwoSpec : ChangeSpec := { name := "evalTwo", fn := fun _ => fun
  | [d1, d2, d3, d4] => { results := [.lit (.bool true)], args := [d1, d2, d3, d4] }
  | _ => none }
def evalTwoRow : OpenClaim := { program := "ytnchohglplobeaagreat", sum := "ef19f8d10122ce4de9a811b77910df25411dc81a017224c73c318d86633e04a5", func := "chamberlain/chamberlainlaw14.EvalTwo", spec := "evalTwo", inPlace := ["internal/bytealg.abigen_runtime_cmpstring"], unfollowed := true, recurses := true, loops := true, plainKeys := false, apart := false }
def EvalTwoSaid : Prop := evalTwoRow.holds Tryz.pinned (OpenSpec.ofChange evalTwoSpec)

/-- ITS FALSE NEIGHBOUR: 'it returns false'. Refute it at one input. -/
def evalTwoWrong : ChangeSpec := { name := "evalTwo", fn := fun _ => fun
  | [d1, d2, d3, d4] => { results := [.lit (.bool false)], args := [d1, d2, d3, d4] }
  | _ => none }
def EvalTwoWrongFalsely : Prop := evalTwoRow.holds Tryz.pinned (OpenSpec.ofChange evalTwoWrong)

/-- 'chamberlainlaw14.EvalScopes': WHATEVER THE INPUT: true; the input reads as it did. -/
def evalScopesSpec : ChangeSpec := { name := "evalScopes", fn := fun _ => fun
  | [d1, d2, d3] => { results := [.lit (.bool true)], args := [d1, d2, d3] }
  | _ => none }
def evalScopesRow : OpenClaim := { program := "ytnchohglplobeaagreat", sum := "ef19f8d10122ce4de9a811b77910df25411dc81a017224c73c318d86633e04a5", func := "chamberlain/chamberlainlaw14.EvalScopes", spec := "evalScopes", inPlace := ["internal/bytealg.abigen_runtime_cmpstring"], unfollowed := true, recurses := true, loops := true, plainKeys := false, apart := false }
def EvalScopesSaid : Prop := evalScopesRow.holds Tryz.pinned (OpenSpec.ofChange evalScopesSpec)

/-- ITS FALSE NEIGHBOUR: 'it returns false'. Refute it at one input. -/
def evalScopesWrong : ChangeSpec := { name := "evalScopes", fn := fun _ => fun
  | [d1, d2, d3] => { results := [.lit (.bool false)], args := [d1, d2, d3] }
  | _ => none }
def EvalScopesWrongFalsely : Prop := evalScopesRow.holds Tryz.pinned (OpenSpec.ofChange evalScopesWrong)

/-- 'chamberlainlaw14.EvalShort': WHATEVER THE INPUT: true; the input reads as it did. -/
def evalShortSpec : ChangeSpec := { name := "evalShort", fn := fun _ => fun
  | [d1, d2] => { results := [.lit (.bool true)], args := [d1, d2] }
  | _ => none }
def evalShortRow : OpenClaim := { program := "ytnchohglplobeaagreat", sum := "ef19f8d10122ce4de9a811b77910df25411dc81a017224c73c318d86633e04a5", func := "chamberlain/chamberlainlaw14.EvalShort", spec := "evalShort", inPlace := ["internal/bytealg.abigen_runtime_cmpstring"], unfollowed := true, recurses := true, loops := true, plainKeys := false, apart := false }
def EvalShortSaid : Prop := evalShortRow.holds Tryz.pinned (OpenSpec.ofChange evalShortSpec)

/-- ITS FALSE NEIGHBOUR: 'it returns false'. Refute it at one input. -/
def evalShortWrong : ChangeSpec := { name := "evalShort", fn := fun _ => fun
  | [d1, d2] => { results := [.lit (.bool false)], args := [d1, d2] }
  | _ => none }
def EvalShortWrongFalsely : Prop := evalShortRow.holds Tryz.pinned (OpenSpec.ofChange evalShortWrong)

/-- 'chamberlainlaw14.EvalNumbers': WHATEVER THE INPUT: true; the input reads as it did. -/
def evalNumbersSpec : ChangeSpec := { name := "evalNumbers", fn := fun _ => fun
  | [d1, d2, d3] => { results := [.lit (.bool true)], args := [d1, d2, d3] }
  | _ => none }
def evalNumbersRow : OpenClaim := { program := "ytnchohglplobeaagreat", sum := "ef19f8d10122ce4de9a811b77910df25411dc81a017224c73c318d86633e04a5", func := "chamberlain/chamberlainlaw14.EvalNumbers", spec := "evalNumbers", inPlace := ["internal/bytealg.abigen_runtime_cmpstring"], unfollowed := true, recurses := true, plainKeys := false, apart := false }
def EvalNumbersSaid : Prop := evalNumbersRow.holds Tryz.pinned (OpenSpec.ofChange evalNumbersSpec)

/-- ITS FALSE NEIGHBOUR: 'it returns false'. Refute it at one input. -/
def evalNumbersWrong : ChangeSpec := { name := "evalNumbers", fn := fun _ => fun
  | [d1, d2, d3] => { results := [.lit (.bool false)], args := [d1, d2, d3] }
  | _ => none }
def EvalNumbersWrongFalsely : Prop := evalNumbersRow.holds Tryz.pinned (OpenSpec.ofChange evalNumbersWrong)

/-- 'chamberlainlaw14.EvalSets': WHATEVER THE INPUT: true; the input reads as it did. -/
def evalSetsSpec : ChangeSpec := { name := "evalSets", fn := fun _ => fun
  | [d1, d2] => { results := [.lit (.bool true)], args := [d1, d2] }
  | _ => none }
def evalSetsRow : OpenClaim := { program := "ytnchohglplobeaagreat", sum := "ef19f8d10122ce4de9a811b77910df25411dc81a017224c73c318d86633e04a5", func := "chamberlain/chamberlainlaw14.EvalSets", spec := "evalSets", inPlace := ["internal/bytealg.abigen_runtime_cmpstring"], unfollowed := true, recurses := true, plainKeys := false, apart := false }
def EvalSetsSaid : Prop := evalSetsRow.holds Tryz.pinned (OpenSpec.ofChange evalSetsSpec)

/-- ITS FALSE NEIGHBOUR: 'it returns false'. Refute it at one input. -/
def evalSetsWrong : ChangeSpec := { name := "evalSets", fn := fun _ => fun
  | [d1, d2] => { results := [.lit (.bool false)], args := [d1, d2] }
  | _ => none }
def EvalSetsWrongFalsely : Prop := evalSetsRow.holds Tryz.pinned (OpenSpec.ofChange evalSetsWrong)

/-- 'chamberlainlaw14.EvalAttributes': WHATEVER THE INPUT: true; the input reads as it did. -/
def evalAttributesSpec : ChangeSpec := { name := "evalAttributes", fn := fun _ => fun
  | [d1, d2, d3, d4, d5] => { results := [.lit (.bool true)], args := [d1, d2, d3, d4, d5] }
  | _ => none }
def evalAttributesRow : OpenClaim := { program := "ytnchohglplobeaagreat", sum := "ef19f8d10122ce4de9a811b77910df25411dc81a017224c73c318d86633e04a5", func := "chamberlain/chamberlainlaw14.EvalAttributes", spec := "evalAttributes", inPlace := ["internal/bytealg.abigen_runtime_cmpstring"], unfollowed := true, recurses := true, loops := true, plainKeys := false, apart := false }
def EvalAttributesSaid : Prop := evalAttributesRow.holds Tryz.pinned (OpenSpec.ofChange evalAttributesSpec)

/-- ITS FALSE NEIGHBOUR: 'it returns false'. Refute it at one input. -/
def evalAttributesWrong : ChangeSpec := { name := "evalAttributes", fn := fun _ => fun
  | [d1, d2, d3, d4, d5] => { results := [.lit (.bool false)], args := [d1, d2, d3, d4, d5] }
  | _ => none }
def EvalAttributesWrongFalsely : Prop := evalAttributesRow.holds Tryz.pinned (OpenSpec.ofChange evalAttributesWrong)

/- THE SECOND FORM. 'bulk': how many values and letters a reading holds, each counted each time it is reached (what is shared counts as often as it is met; a slice's spare places count too). A statement '..UptoSaid' is the law's where the arguments, and the package variables that the reading takes, are together of bulk at most 1048576: NARROWER than '..Said'. Prove '..Said' where nothing that the law and all that it calls make is longer than what came in: it says more and counts as full. Else prove '..UptoSaid'. A law counts once. -/
mutual
def uptoBulk {H : Type} : DataW H → Nat
  | .lit (.string bytes) => bytes.length + 1
  | .lit _ => 1
  | .nil => 1
  | .ptr d => uptoBulk d + 1
  | .slice elems spare => uptoBulkAll elems + uptoBulkAll spare + 1
  | .agg parts => uptoBulkAll parts + 1
  | .iface _ d => uptoBulk d + 1
  | .map entries => uptoBulkEntries entries + 1
  | .held _ => 1
def uptoBulkAll {H : Type} : List (DataW H) → Nat
  | [] => 0
  | d :: r => uptoBulk d + uptoBulkAll r
def uptoBulkEntries {H : Type} : List (Lit × DataW H) → Nat
  | [] => 0
  | x :: r => uptoBulkEntry x + uptoBulkEntries r
def uptoBulkEntry {H : Type} : Lit × DataW H → Nat
  | (.string bytes, d) => bytes.length + uptoBulk d + 1
  | (_, d) => uptoBulk d + 1
 end
def uptoSmall : (H : Type) → List (DataW H) → Bool := fun _ ds => decide (uptoBulkAll ds ≤ 1048576)
def OpenSpec.upto (s : _root_.Go.ChangeSpec) : _root_.Go.OpenSpec := { _root_.Go.OpenSpec.ofChange s with cond := some uptoSmall }

/-- 'chamberlainlaw14.EvalTrees', WHERE WHAT IT READS IS OF BULK AT MOST 1048576: true; the input reads as it did. -/
def evalTreesUptoRow : OpenClaim := { program := "ytnchohglplobeaagreat", sum := "ef19f8d10122ce4de9a811b77910df25411dc81a017224c73c318d86633e04a5", func := "chamberlain/chamberlainlaw14.EvalTrees", spec := "evalTrees", inPlace := ["internal/bytealg.abigen_runtime_cmpstring"], unfollowed := true, recurses := true, loops := true, plainKeys := false, apart := false, narrowed := true }
def EvalTreesUptoSaid : Prop := evalTreesUptoRow.holds Tryz.pinned (OpenSpec.upto evalTreesSpec)

/-- 'chamberlainlaw14.EvalTwo', WHERE WHAT IT READS IS OF BULK AT MOST 1048576: true; the input reads as it did. -/
def evalTwoUptoRow : OpenClaim := { program := "ytnchohglplobeaagreat", sum := "ef19f8d10122ce4de9a811b77910df25411dc81a017224c73c318d86633e04a5", func := "chamberlain/chamberlainlaw14.EvalTwo", spec := "evalTwo", inPlace := ["internal/bytealg.abigen_runtime_cmpstring"], unfollowed := true, recurses := true, loops := true, plainKeys := false, apart := false, narrowed := true }
def EvalTwoUptoSaid : Prop := evalTwoUptoRow.holds Tryz.pinned (OpenSpec.upto evalTwoSpec)

/-- 'chamberlainlaw14.EvalScopes', WHERE WHAT IT READS IS OF BULK AT MOST 1048576: true; the input reads as it did. -/
def evalScopesUptoRow : OpenClaim := { program := "ytnchohglplobeaagreat", sum := "ef19f8d10122ce4de9a811b77910df25411dc81a017224c73c318d86633e04a5", func := "chamberlain/chamberlainlaw14.EvalScopes", spec := "evalScopes", inPlace := ["internal/bytealg.abigen_runtime_cmpstring"], unfollowed := true, recurses := true, loops := true, plainKeys := false, apart := false, narrowed := true }
def EvalScopesUptoSaid : Prop := evalScopesUptoRow.holds Tryz.pinned (OpenSpec.upto evalScopesSpec)

/-- 'chamberlainlaw14.EvalShort', WHERE WHAT IT READS IS OF BULK AT MOST 1048576: true; the input reads as it did. -/
def evalShortUptoRow : OpenClaim := { program := "ytnchohglplobeaagreat", sum := "ef19f8d10122ce4de9a811b77910df25411dc81a017224c73c318d86633e04a5", func := "chamberlain/chamberlainlaw14.EvalShort", spec := "evalShort", inPlace := ["internal/bytealg.abigen_runtime_cmpstring"], unfollowed := true, recurses := true, loops := true, plainKeys := false, apart := false, narrowed := true }
def EvalShortUptoSaid : Prop := evalShortUptoRow.holds Tryz.pinned (OpenSpec.upto evalShortSpec)

/-- 'chamberlainlaw14.EvalNumbers', WHERE WHAT IT READS IS OF BULK AT MOST 1048576: true; the input reads as it did. -/
def evalNumbersUptoRow : OpenClaim := { program := "ytnchohglplobeaagreat", sum := "ef19f8d10122ce4de9a811b77910df25411dc81a017224c73c318d86633e04a5", func := "chamberlain/chamberlainlaw14.EvalNumbers", spec := "evalNumbers", inPlace := ["internal/bytealg.abigen_runtime_cmpstring"], unfollowed := true, recurses := true, plainKeys := false, apart := false, narrowed := true }
def EvalNumbersUptoSaid : Prop := evalNumbersUptoRow.holds Tryz.pinned (OpenSpec.upto evalNumbersSpec)

/-- 'chamberlainlaw14.EvalSets', WHERE WHAT IT READS IS OF BULK AT MOST 1048576: true; the input reads as it did. -/
def evalSetsUptoRow : OpenClaim := { program := "ytnchohglplobeaagreat", sum := "ef19f8d10122ce4de9a811b77910df25411dc81a017224c73c318d86633e04a5", func := "chamberlain/chamberlainlaw14.EvalSets", spec := "evalSets", inPlace := ["internal/bytealg.abigen_runtime_cmpstring"], unfollowed := true, recurses := true, plainKeys := false, apart := false, narrowed := true }
def EvalSetsUptoSaid : Prop := evalSetsUptoRow.holds Tryz.pinned (OpenSpec.upto evalSetsSpec)

/-- 'chamberlainlaw14.EvalAttributes', WHERE WHAT IT READS IS OF BULK AT MOST 1048576: true; the input reads as it did. -/
def evalAttributesUptoRow : OpenClaim := { program := "ytnchohglplobeaagreat", sum := "ef19f8d10122ce4de9a811b77910df25411dc81a017224c73c318d86633e04a5", func := "chamberlain/chamberlainlaw14.EvalAttributes", spec := "evalAttributes", inPlace := ["internal/bytealg.abigen_runtime_cmpstring"], unfollowed := true, recurses := true, loops := true, plainKeys := false, apart := false, narrowed := true }
def EvalAttributesUptoSaid : Prop := evalAttributesUptoRow.holds Tryz.pinned (OpenSpec.upto evalAttributesSpec)

end Rows
end Go.Proofs.YtnchohglplobeaaGreat
