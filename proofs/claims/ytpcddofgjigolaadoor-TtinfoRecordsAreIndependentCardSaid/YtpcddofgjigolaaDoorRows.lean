/-
  NARROWER THAN 'FOR EVERY INPUT', by the rows' own cells (each row's printed sentence says how): TtinfoMatchesReference: laid · TtinfoRoundTrip: laid · TtinfoCheck: laid · TtinfoRecordsAreIndependent: laid.
  DERIVED. THE GIVEN ROWS OF THIS SEAT. 4 by the template 'for every input the law returns true; each argument reads behind the call as it read before'; 0 by the template 'total and deterministic' (their statements: YtpcddofgjigolaaDoorTotals.lean).
  GIVEN WITH THE SEED: the statements are not yours to turn. If you find one false, say at which input.
  Laid BY PROGRAM, IN A SANDBOX (cutbox-rows.mjs): the forced cells as the released guide's own fill.sh prints them over the translation bd6475399b71b56d… (all of the seat's roots in one cut). By AI agents, Wed Nov 11 2026. No macro, syntax, notation, axiom, sorry.
-/
import Derived.Test.YtpcddofgjigolaaDoorChecked
import GoSem.Claim
import GoSem.ClaimJoined
import GoSem.ClaimMapViews
import Derived.JoinedTies
import Derived.KernelRfl
namespace Go.Proofs.YtpcddofgjigolaaDoor
/- THE CELL 'sum', in the pinned program and in every row, IS THE sha256 OF THE DUMP (.gsa) THAT YtpcddofgjigolaaDoorProg.lean LOADS. Nothing in Lean hashes anything: it is a label: what it is worth is what the hold of that sum in a sandbox is worth. -/
noncomputable def Tryd.pinned : Pinned := { name := "ytpcddofgjigolaadoor", sum := "bd6475399b71b56dc1a9913c52e9d1c0d4b0312b54c132cdf135bbf60c7f475f", checked := Tryd.checked }
namespace Rows
def none {H : Type} : Left H := { results := [], args := [] }

/- WHAT THE LISTED PACKAGE-LEVEL VARIABLES READ AS WHEN THE CALL BEGINS. Each datum BY PROGRAM (the guide's laid-datum.mjs) off the statement by which the dump's own 'gosem.cut.vars' lays the variable. In a bare row this is a premise. The card (YtpcddofgjigolaaDoorCards.lean) ties it to the program's text. -/
def laid_errors_errorType {H : Type} : DataW H := .iface "internal/reflectlite.rtype" (.agg [.ptr (.lit (.string [101, 114, 114, 111, 114]))])

/-- 'zoneinfolaw16.TtinfoMatchesReference': WHATEVER THE INPUT: true; the input reads as it did. -/
def ttinfoMatchesReferenceSpec : ChangeSpec := { name := "ttinfoMatchesReference", fn := fun _ => fun
  | [d1, d2, d3, d4] => { results := [.lit (.bool true)], args := [d1, d2, d3, d4] }
  | _ => none }
def ttinfoMatchesReferenceRow : OpenClaim := { program := "ytpcddofgjigolaadoor", sum := "bd6475399b71b56dc1a9913c52e9d1c0d4b0312b54c132cdf135bbf60c7f475f", func := "zoneinfo/zoneinfolaw16.TtinfoMatchesReference", spec := "ttinfoMatchesReference", inPlace := ["internal/reflectlite.ValueOf", "(internal/reflectlite.Value).Type", "(internal/reflectlite.Value).IsNil", "internal/reflectlite.TypeOf", "(internal/reflectlite.Value).Elem", "(internal/reflectlite.Value).Set"], unfollowed := true, recurses := true, named := ["errors.errorType"], apart := false, laid := [("errors.errorType", laid_errors_errorType)] }
def TtinfoMatchesReferenceSaid : Prop := ttinfoMatchesReferenceRow.holds Tryd.pinned (OpenSpec.ofChange ttinfoMatchesReferenceSpec)

/-- ITS FALSE NEIGHBOUR: 'it returns false'. Refute it at one input. -/
def ttinfoMatchesReferenceWrong : ChangeSpec := { name := "ttinfoMatchesReference", fn := fun _ => fun
  | [d1, d2, d3, d4] => { results := [.lit (.bool false)], args := [d1, d2, d3, d4] }
  | _ => none }
def TtinfoMatchesReferenceWrongFalsely : Prop := ttinfoMatchesReferenceRow.holds Tryd.pinned (OpenSpec.ofChange ttinfoMatchesReferenceWrong)

/-- 'zoneinfolaw16.TtinfoRoundTrip': WHATEVER THE INPUT: true; the input reads as it did. -/
def ttinfoRoundTripSpec : ChangeSpec := { name := "ttinfoRoundTrip", fn := fun _ => fun
  | [d1, d2] => { results := [.lit (.bool true)], args := [d1, d2] }
  | _ => none }
def ttinfoRoundTripRow : OpenClaim := { program := "ytpcddofgjigolaadoor", sum := "bd6475399b71b56dc1a9913c52e9d1c0d4b0312b54c132cdf135bbf60c7f475f", func := "zoneinfo/zoneinfolaw16.TtinfoRoundTrip", spec := "ttinfoRoundTrip", inPlace := ["internal/reflectlite.ValueOf", "(internal/reflectlite.Value).Type", "(internal/reflectlite.Value).IsNil", "internal/reflectlite.TypeOf", "(internal/reflectlite.Value).Elem", "(internal/reflectlite.Value).Set"], unfollowed := true, recurses := true, named := ["errors.errorType"], apart := false, laid := [("errors.errorType", laid_errors_errorType)] }
def TtinfoRoundTripSaid : Prop := ttinfoRoundTripRow.holds Tryd.pinned (OpenSpec.ofChange ttinfoRoundTripSpec)

/-- ITS FALSE NEIGHBOUR: 'it returns false'. Refute it at one input. -/
def ttinfoRoundTripWrong : ChangeSpec := { name := "ttinfoRoundTrip", fn := fun _ => fun
  | [d1, d2] => { results := [.lit (.bool false)], args := [d1, d2] }
  | _ => none }
def TtinfoRoundTripWrongFalsely : Prop := ttinfoRoundTripRow.holds Tryd.pinned (OpenSpec.ofChange ttinfoRoundTripWrong)

/-- 'zoneinfolaw16.TtinfoCheck': WHATEVER THE INPUT: true; the input reads as it did. -/
def ttinfoCheckSpec : ChangeSpec := { name := "ttinfoCheck", fn := fun _ => fun
  | [d1, d2, d3] => { results := [.lit (.bool true)], args := [d1, d2, d3] }
  | _ => none }
def ttinfoCheckRow : OpenClaim := { program := "ytpcddofgjigolaadoor", sum := "bd6475399b71b56dc1a9913c52e9d1c0d4b0312b54c132cdf135bbf60c7f475f", func := "zoneinfo/zoneinfolaw16.TtinfoCheck", spec := "ttinfoCheck", inPlace := ["internal/reflectlite.ValueOf", "(internal/reflectlite.Value).Type", "(internal/reflectlite.Value).IsNil", "internal/reflectlite.TypeOf", "(internal/reflectlite.Value).Elem", "(internal/reflectlite.Value).Set"], unfollowed := true, recurses := true, named := ["errors.errorType"], apart := false, laid := [("errors.errorType", laid_errors_errorType)] }
def TtinfoCheckSaid : Prop := ttinfoCheckRow.holds Tryd.pinned (OpenSpec.ofChange ttinfoCheckSpec)

/-- ITS FALSE NEIGHBOUR: 'it returns false'. Refute it at one input. -/
def ttinfoCheckWrong : ChangeSpec := { name := "ttinfoCheck", fn := fun _ => fun
  | [d1, d2, d3] => { results := [.lit (.bool false)], args := [d1, d2, d3] }
  | _ => none }
def TtinfoCheckWrongFalsely : Prop := ttinfoCheckRow.holds Tryd.pinned (OpenSpec.ofChange ttinfoCheckWrong)

/-- 'zoneinfolaw16.TtinfoRecordsAreIndependent': WHATEVER THE INPUT: true; the input reads as it did. -/
def ttinfoRecordsAreIndependentSpec : ChangeSpec := { name := "ttinfoRecordsAreIndependent", fn := fun _ => fun
  | [d1, d2, d3, d4] => { results := [.lit (.bool true)], args := [d1, d2, d3, d4] }
  | _ => none }
def ttinfoRecordsAreIndependentRow : OpenClaim := { program := "ytpcddofgjigolaadoor", sum := "bd6475399b71b56dc1a9913c52e9d1c0d4b0312b54c132cdf135bbf60c7f475f", func := "zoneinfo/zoneinfolaw16.TtinfoRecordsAreIndependent", spec := "ttinfoRecordsAreIndependent", inPlace := ["internal/reflectlite.ValueOf", "(internal/reflectlite.Value).Type", "(internal/reflectlite.Value).IsNil", "internal/reflectlite.TypeOf", "(internal/reflectlite.Value).Elem", "(internal/reflectlite.Value).Set"], unfollowed := true, recurses := true, named := ["errors.errorType"], apart := false, laid := [("errors.errorType", laid_errors_errorType)] }
def TtinfoRecordsAreIndependentSaid : Prop := ttinfoRecordsAreIndependentRow.holds Tryd.pinned (OpenSpec.ofChange ttinfoRecordsAreIndependentSpec)

/-- ITS FALSE NEIGHBOUR: 'it returns false'. Refute it at one input. -/
def ttinfoRecordsAreIndependentWrong : ChangeSpec := { name := "ttinfoRecordsAreIndependent", fn := fun _ => fun
  | [d1, d2, d3, d4] => { results := [.lit (.bool false)], args := [d1, d2, d3, d4] }
  | _ => none }
def TtinfoRecordsAreIndependentWrongFalsely : Prop := ttinfoRecordsAreIndependentRow.holds Tryd.pinned (OpenSpec.ofChange ttinfoRecordsAreIndependentWrong)

/- THE SECOND FORM. 'bulk': how many values and letters a reading holds, each counted each time it is reached (what is shared counts as often as it is met; a slice's spare places count too). A statement '..UptoSaid' is the law's where the arguments, and the package variables that the reading takes, are together of bulk at most 1048576: NARROWER than '..Said'. Prove '..Said' where nothing that the law and all that it calls make is longer than what came in: it says more and counts as full. Else prove '..UptoSaid'. A law counts once. -/
mutual
def uptoBulk {H : Type} : DataW H → Nat
  | .lit (.string bytes) => bytes.length + 1
  | .lit _ => 1
  | .nil => 1
  | .ptr d => uptoBulk d + 1
  | .slice elems spare => uptoBulkAll elems + uptoBulkAll spare + 1
  | .agg parts => uptoBulkAll parts + 1
  | .iface _ d => uptoBulk d + 1
  | .map entries => uptoBulkEntries entries + 1
  | .held _ => 1
def uptoBulkAll {H : Type} : List (DataW H) → Nat
  | [] => 0
  | d :: r => uptoBulk d + uptoBulkAll r
def uptoBulkEntries {H : Type} : List (Lit × DataW H) → Nat
  | [] => 0
  | x :: r => uptoBulkEntry x + uptoBulkEntries r
def uptoBulkEntry {H : Type} : Lit × DataW H → Nat
  | (.string bytes, d) => bytes.length + uptoBulk d + 1
  | (_, d) => uptoBulk d + 1
 end
def uptoSmall : (H : Type) → List (DataW H) → Bool := fun _ ds => decide (uptoBulkAll ds ≤ 1048576)
def OpenSpec.upto (s : _root_.Go.ChangeSpec) : _root_.Go.OpenSpec := { _root_.Go.OpenSpec.ofChange s with cond := some uptoSmall }

/-- 'zoneinfolaw16.TtinfoMatchesReference', WHERE WHAT IT READS IS OF BULK AT MOST 1048576: true; the input reads as it did. -/
def ttinfoMatchesReferenceUptoRow : OpenClaim := { program := "ytpcddofgjigolaadoor", sum := "bd6475399b71b56dc1a9913c52e9d1c0d4b0312b54c132cdf135bbf60c7f475f", func := "zoneinfo/zoneinfolaw16.TtinfoMatchesReference", spec := "ttinfoMatchesReference", inPlace := ["internal/reflectlite.ValueOf", "(internal/reflectlite.Value).Type", "(internal/reflectlite.Value).IsNil", "internal/reflectlite.TypeOf", "(internal/reflectlite.Value).Elem", "(internal/reflectlite.Value).Set"], unfollowed := true, recurses := true, named := ["errors.errorType"], apart := false, laid := [("errors.errorType", laid_errors_errorType)], narrowed := true }
def TtinfoMatchesReferenceUptoSaid : Prop := ttinfoMatchesReferenceUptoRow.holds Tryd.pinned (OpenSpec.upto ttinfoMatchesReferenceSpec)

/-- 'zoneinfolaw16.TtinfoRoundTrip', WHERE WHAT IT READS IS OF BULK AT MOST 1048576: true; the input reads as it did. -/
def ttinfoRoundTripUptoRow : OpenClaim := { program := "ytpcddofgjigolaadoor", sum := "bd6475399b71b56dc1a9913c52e9d1c0d4b0312b54c132cdf135bbf60c7f475f", func := "zoneinfo/zoneinfolaw16.TtinfoRoundTrip", spec := "ttinfoRoundTrip", inPlace := ["internal/reflectlite.ValueOf", "(internal/reflectlite.Value).Type", "(internal/reflectlite.Value).IsNil", "internal/reflectlite.TypeOf", "(internal/reflectlite.Value).Elem", "(internal/reflectlite.Value).Set"], unfollowed := true, recurses := true, named := ["errors.errorType"], apart := false, laid := [("errors.errorType", laid_errors_errorType)], narrowed := true }
def TtinfoRoundTripUptoSaid : Prop := ttinfoRoundTripUptoRow.holds Tryd.pinned (OpenSpec.upto ttinfoRoundTripSpec)

/-- 'zoneinfolaw16.TtinfoCheck', WHERE WHAT IT READS IS OF BULK AT MOST 1048576: true; the input reads as it did. -/
def ttinfoCheckUptoRow : OpenClaim := { program := "ytpcddofgjigolaadoor", sum := "bd6475399b71b56dc1a9913c52e9d1c0d4b0312b54c132cdf135bbf60c7f475f", func := "zoneinfo/zoneinfolaw16.TtinfoCheck", spec := "ttinfoCheck", inPlace := ["internal/reflectlite.ValueOf", "(internal/reflectlite.Value).Type", "(internal/reflectlite.Value).IsNil", "internal/reflectlite.TypeOf", "(internal/reflectlite.Value).Elem", "(internal/reflectlite.Value).Set"], unfollowed := true, recurses := true, named := ["errors.errorType"], apart := false, laid := [("errors.errorType", laid_errors_errorType)], narrowed := true }
def TtinfoCheckUptoSaid : Prop := ttinfoCheckUptoRow.holds Tryd.pinned (OpenSpec.upto ttinfoCheckSpec)

/-- 'zoneinfolaw16.TtinfoRecordsAreIndependent', WHERE WHAT IT READS IS OF BULK AT MOST 1048576: true; the input reads as it did. -/
def ttinfoRecordsAreIndependentUptoRow : OpenClaim := { program := "ytpcddofgjigolaadoor", sum := "bd6475399b71b56dc1a9913c52e9d1c0d4b0312b54c132cdf135bbf60c7f475f", func := "zoneinfo/zoneinfolaw16.TtinfoRecordsAreIndependent", spec := "ttinfoRecordsAreIndependent", inPlace := ["internal/reflectlite.ValueOf", "(internal/reflectlite.Value).Type", "(internal/reflectlite.Value).IsNil", "internal/reflectlite.TypeOf", "(internal/reflectlite.Value).Elem", "(internal/reflectlite.Value).Set"], unfollowed := true, recurses := true, named := ["errors.errorType"], apart := false, laid := [("errors.errorType", laid_errors_errorType)], narrowed := true }
def TtinfoRecordsAreIndependentUptoSaid : Prop := ttinfoRecordsAreIndependentUptoRow.holds Tryd.pinned (OpenSpec.upto ttinfoRecordsAreIndependentSpec)

end Rows
end Go.Proofs.YtpcddofgjigolaaDoor
