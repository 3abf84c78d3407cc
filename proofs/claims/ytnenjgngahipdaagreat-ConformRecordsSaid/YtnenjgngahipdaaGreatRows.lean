/-
  NARROWER THAN 'FOR EVERY INPUT', by the rows' own cells (each row's printed sentence says how): ConformValues: loops · ConformStores: loops · ConformRequests: loops.
  DERIVED. THE GIVEN ROWS OF THIS SEAT. 4 by the template 'for every input the law returns true; each argument reads behind the call as it read before'; 0 by the template 'total and deterministic' (their statements: YtnenjgngahipdaaGreatTotals.lean).
  GIVEN WITH THE SEED: the statements are not yours to turn. If you find one false, say at which input.
  Laid BY PROGRAM, IN A SANDBOX (cutbox-rows.mjs): the forced cells as the released guide's own fill.sh prints them over the translation 65492f86568731cc… (all of the seat's roots in one cut). By AI agents, Wed Nov 11 2026. No macro, syntax, notation, axiom, sorry.
-/
import Derived.Test.YtnenjgngahipdaaGreatChecked
import GoSem.Claim
import GoSem.ClaimJoined
import GoSem.ClaimMapViews
import Derived.JoinedTies
import Derived.KernelRfl
namespace Go.Proofs.YtnenjgngahipdaaGreat
/- THE CELL 'sum', in the pinned program and in every row, IS THE sha256 OF THE DUMP (.gsa) THAT YtnenjgngahipdaaGreatProg.lean LOADS. Nothing in Lean hashes anything: it is a label: what it is worth is what the hold of that sum in a sandbox is worth. -/
noncomputable def Tryz.pinned : Pinned := { name := "ytnenjgngahipdaagreat", sum := "65492f86568731cc247fc815651af77499818d9426109062b88f6a115c5e8dfa", checked := Tryz.checked }
namespace Rows
def none {H : Type} : Left H := { results := [], args := [] }

/-- 'chamberlainlaw13.ConformValues': WHATEVER THE INPUT: true; the input reads as it did. -/
def conformValuesSpec : ChangeSpec := { name := "conformValues", fn := fun _ => fun
  | [d1, d2, d3] => { results := [.lit (.bool true)], args := [d1, d2, d3] }
  | _ => none }
def conformValuesRow : OpenClaim := { program := "ytnenjgngahipdaagreat", sum := "65492f86568731cc247fc815651af77499818d9426109062b88f6a115c5e8dfa", func := "chamberlain/chamberlainlaw13.ConformValues", spec := "conformValues", inPlace := ["internal/bytealg.abigen_runtime_cmpstring"], unfollowed := true, recurses := true, loops := true, plainKeys := false, apart := false }
def ConformValuesSaid : Prop := conformValuesRow.holds Tryz.pinned (OpenSpec.ofChange conformValuesSpec)

/-- ITS FALSE NEIGHBOUR: 'it returns false'. Refute it at one input. -/
def conformValuesWrong : ChangeSpec := { name := "conformValues", fn := fun _ => fun
  | [d1, d2, d3] => { results := [.lit (.bool false)], args := [d1, d2, d3] }
  | _ => none }
def ConformValuesWrongFalsely : Prop := conformValuesRow.holds Tryz.pinned (OpenSpec.ofChange conformValuesWrong)

/-- 'chamberlainlaw13.ConformStores': WHATEVER THE INPUT: true; the input reads as it did. -/
def conformStoresSpec : ChangeSpec := { name := "conformStores", fn := fun _ => fun
  | [d1, d2] => { results := [.lit (.bool true)], args := [d1, d2] }
  | _ => none }
def conformStoresRow : OpenClaim := { program := "ytnenjgngahipdaagreat", sum := "65492f86568731cc247fc815651af77499818d9426109062b88f6a115c5e8dfa", func := "chamberlain/chamberlainlaw13.ConformStores", spec := "conformStores", inPlace := ["internal/bytealg.abigen_runtime_cmpstring"], unfollowed := true, recurses := true, loops := true, plainKeys := false, apart := false }
def ConformStoresSaid : Prop := conformStoresRow.holds Tryz.pinned (OpenSpec.ofChange conformStoresSpec)

/-- ITS FALSE NEIGHBOUR: 'it returns false'. Refute it at one input. -/
def conformStoresWrong : ChangeSpec := { name := "conformStores", fn := fun _ => fun
  | [d1, d2] => { results := [.lit (.bool false)], args := [d1, d2] }
  | _ => none }
def ConformStoresWrongFalsely : Prop := conformStoresRow.holds Tryz.pinned (OpenSpec.ofChange conformStoresWrong)

/-- 'chamberlainlaw13.ConformRequests': WHATEVER THE INPUT: true; the input reads as it did. -/
def conformRequestsSpec : ChangeSpec := { name := "conformRequests", fn := fun _ => fun
  | [d1, d2] => { results := [.lit (.bool true)], args := [d1, d2] }
  | _ => none }
def conformRequestsRow : OpenClaim := { program := "ytnenjgngahipdaagreat", sum := "65492f86568731cc247fc815651af77499818d9426109062b88f6a115c5e8dfa", func := "chamberlain/chamberlainlaw13.ConformRequests", spec := "conformRequests", inPlace := ["internal/bytealg.abigen_runtime_cmpstring"], unfollowed := true, recurses := true, loops := true, plainKeys := false, apart := false }
def ConformRequestsSaid : Prop := conformRequestsRow.holds Tryz.pinned (OpenSpec.ofChange conformRequestsSpec)

/-- ITS FALSE NEIGHBOUR: 'it returns false'. Refute it at one input. -/
def conformRequestsWrong : ChangeSpec := { name := "conformRequests", fn := fun _ => fun
  | [d1, d2] => { results := [.lit (.bool false)], args := [d1, d2] }
  | _ => none }
def ConformRequestsWrongFalsely : Prop := conformRequestsRow.holds Tryz.pinned (OpenSpec.ofChange conformRequestsWrong)

/-- 'chamberlainlaw13.ConformRecords': WHATEVER THE INPUT: true; the input reads as it did. -/
def conformRecordsSpec : ChangeSpec := { name := "conformRecords", fn := fun _ => fun
  | [d1, d2, d3, d4] => { results := [.lit (.bool true)], args := [d1, d2, d3, d4] }
  | _ => none }
def conformRecordsRow : OpenClaim := { program := "ytnenjgngahipdaagreat", sum := "65492f86568731cc247fc815651af77499818d9426109062b88f6a115c5e8dfa", func := "chamberlain/chamberlainlaw13.ConformRecords", spec := "conformRecords", inPlace := ["internal/bytealg.abigen_runtime_cmpstring"], unfollowed := true, recurses := true, plainKeys := false, apart := false }
def ConformRecordsSaid : Prop := conformRecordsRow.holds Tryz.pinned (OpenSpec.ofChange conformRecordsSpec)

/-- ITS FALSE NEIGHBOUR: 'it returns false'. Refute it at one input. -/
def conformRecordsWrong : ChangeSpec := { name := "conformRecords", fn := fun _ => fun
  | [d1, d2, d3, d4] => { results := [.lit (.bool false)], args := [d1, d2, d3, d4] }
  | _ => none }
def ConformRecordsWrongFalsely : Prop := conformRecordsRow.holds Tryz.pinned (OpenSpec.ofChange conformRecordsWrong)

/- THE SECOND FORM. 'bulk': how many values and letters a reading holds, each counted each time it is reached (what is shared counts as often as it is met; a slice's spare places count too). A statement '..UptoSaid' is the law's where the arguments, and the package variables that the reading takes, are together of bulk at most 1048576: NARROWER than '..Said'. Prove '..Said' where nothing that the law and all that it calls make is longer than what came in: it says more and counts as full. Else prove '..UptoSaid'. A law counts once. -/
mutual
def uptoBulk {H : Type} : DataW H → Nat
  | .lit (.string bytes) => bytes.length + 1
  | .lit _ => 1
  | .nil => 1
  | .ptr d => uptoBulk d + 1
  | .slice elems spare => uptoBulkAll elems + uptoBulkAll spare + 1
  | .agg parts => uptoBulkAll parts + 1
  | .iface _ d => uptoBulk d + 1
  | .map entries => uptoBulkEntries entries + 1
  | .held _ => 1
def uptoBulkAll {H : Type} : List (DataW H) → Nat
  | [] => 0
  | d :: r => uptoBulk d + uptoBulkAll r
def uptoBulkEntries {H : Type} : List (Lit × DataW H) → Nat
  | [] => 0
  | x :: r => uptoBulkEntry x + uptoBulkEntries r
def uptoBulkEntry {H : Type} : Lit × DataW H → Nat
  | (.string bytes, d) => bytes.length + uptoBulk d + 1
  | (_, d) => uptoBulk d + 1
 end
def uptoSmall : (H : Type) → List (DataW H) → Bool := fun _ ds => decide (uptoBulkAll ds ≤ 1048576)
def OpenSpec.upto (s : _root_.Go.ChangeSpec) : _root_.Go.OpenSpec := { _root_.Go.OpenSpec.ofChange s with cond := some uptoSmall }

/-- 'chamberlainlaw13.ConformValues', WHERE WHAT IT READS IS OF BULK AT MOST 1048576: true; the input reads as it did. -/
def conformValuesUptoRow : OpenClaim := { program := "ytnenjgngahipdaagreat", sum := "65492f86568731cc247fc815651af77499818d9426109062b88f6a115c5e8dfa", func := "chamberlain/chamberlainlaw13.ConformValues", spec := "conformValues", inPlace := ["internal/bytealg.abigen_runtime_cmpstring"], unfollowed := true, recurses := true, loops := true, plainKeys := false, apart := false, narrowed := true }
def ConformValuesUptoSaid : Prop := conformValuesUptoRow.holds Tryz.pinned (OpenSpec.upto conformValuesSpec)

/-- 'chamberlainlaw13.ConformStores', WHERE WHAT IT READS IS OF BULK AT MOST 1048576: true; the input reads as it did. -/
def conformStoresUptoRow : OpenClaim := { program := "ytnenjgngahipdaagreat", sum := "65492f86568731cc247fc815651af77499818d9426109062b88f6a115c5e8dfa", func := "chamberlain/chamberlainlaw13.ConformStores", spec := "conformStores", inPlace := ["internal/bytealg.abigen_runtime_cmpstring"], unfollowed := true, recurses := true, loops := true, plainKeys := false, apart := false, narrowed := true }
def ConformStoresUptoSaid : Prop := conformStoresUptoRow.holds Tryz.pinned (OpenSpec.upto conformStoresSpec)

/-- 'chamberlainlaw13.ConformRequests', WHERE WHAT IT READS IS OF BULK AT MOST 1048576: true; the input reads as it did. -/
def conformRequestsUptoRow : OpenClaim := { program := "ytnenjgngahipdaagreat", sum := "65492f86568731cc247fc815651af77499818d9426109062b88f6a115c5e8dfa", func := "chamberlain/chamberlainlaw13.ConformRequests", spec := "conformRequests", inPlace := ["internal/bytealg.abigen_runtime_cmpstring"], unfollowed := true, recurses := true, loops := true, plainKeys := false, apart := false, narrowed := true }
def ConformRequestsUptoSaid : Prop := conformRequestsUptoRow.holds Tryz.pinned (OpenSpec.upto conformRequestsSpec)

/-- 'chamberlainlaw13.ConformRecords', WHERE WHAT IT READS IS OF BULK AT MOST 1048576: true; the input reads as it did. -/
def conformRecordsUptoRow : OpenClaim := { program := "ytnenjgngahipdaagreat", sum := "65492f86568731cc247fc815651af77499818d9426109062b88f6a115c5e8dfa", func := "chamberlain/chamberlainlaw13.ConformRecords", spec := "conformRecords", inPlace := ["internal/bytealg.abigen_runtime_cmpstring"], unfollowed := true, recurses := true, plainKeys := false, apart := false, narrowed := true }
def ConformRecordsUptoSaid : Prop := conformRecordsUptoRow.holds Tryz.pinned (OpenSpec.upto conformRecordsSpec)

end Rows
end Go.Proofs.YtnenjgngahipdaaGreat
