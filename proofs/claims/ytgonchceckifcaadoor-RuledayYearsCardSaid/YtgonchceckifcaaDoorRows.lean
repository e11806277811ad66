/-
  NARROWER THAN 'FOR EVERY INPUT', by the rows' own cells (each row's printed sentence says how): RuledayMatchesReference: laid · RuledayMatchesCalendar: laid · RuledayYears: laid · RuledayWeeks: laid · RuledayLeapYears: laid.
  DERIVED. THE GIVEN ROWS OF THIS SEAT. 5 by the template 'for every input the law returns true; each argument reads behind the call as it read before'; 0 by the template 'total and deterministic' (their statements: YtgonchceckifcaaDoorTotals.lean).
  GIVEN WITH THE SEED: the statements are not yours to turn. If you find one false, say at which input.
  Laid BY PROGRAM, IN A SANDBOX (cutbox-rows.mjs): the forced cells as the released guide's own fill.sh prints them over the translation 8d4b3c9881b2d10b… (all of the seat's roots in one cut). By AI agents, Wed Nov 11 2026. No macro, syntax, notation, axiom, sorry.
-/
import Derived.Test.YtgonchceckifcaaDoorChecked
import GoSem.Claim
import GoSem.ClaimJoined
import GoSem.ClaimMapViews
import Derived.JoinedTies
import Derived.KernelRfl
namespace Go.Proofs.YtgonchceckifcaaDoor
/- THE CELL 'sum', in the pinned program and in every row, IS THE sha256 OF THE DUMP (.gsa) THAT YtgonchceckifcaaDoorProg.lean LOADS. Nothing in Lean hashes anything: it is a label: what it is worth is what the hold of that sum in a sandbox is worth. -/
noncomputable def Tryd.pinned : Pinned := { name := "ytgonchceckifcaadoor", sum := "8d4b3c9881b2d10bbf640c2a1cd512f639fe805edc405ded21b4af174a6121df", checked := Tryd.checked }
namespace Rows
def none {H : Type} : Left H := { results := [], args := [] }

/- WHAT THE LISTED PACKAGE-LEVEL VARIABLES READ AS WHEN THE CALL BEGINS. Each datum BY PROGRAM (the guide's laid-datum.mjs) off the statement by which the dump's own 'gosem.cut.vars' lays the variable. In a bare row this is a premise. The card (YtgonchceckifcaaDoorCards.lean) ties it to the program's text. -/
def laid_zoneinfo_civil_monthLengths {H : Type} : DataW H := .agg [.lit (.int .i64 31), .lit (.int .i64 28), .lit (.int .i64 31), .lit (.int .i64 30), .lit (.int .i64 31), .lit (.int .i64 30), .lit (.int .i64 31), .lit (.int .i64 31), .lit (.int .i64 30), .lit (.int .i64 31), .lit (.int .i64 30), .lit (.int .i64 31)]

/-- 'zoneinfolaw06.RuledayMatchesReference': WHATEVER THE INPUT: true; the input reads as it did. -/
def ruledayMatchesReferenceSpec : ChangeSpec := { name := "ruledayMatchesReference", fn := fun _ => fun
  | [d1, d2] => { results := [.lit (.bool true)], args := [d1, d2] }
  | _ => none }
def ruledayMatchesReferenceRow : OpenClaim := { program := "ytgonchceckifcaadoor", sum := "8d4b3c9881b2d10bbf640c2a1cd512f639fe805edc405ded21b4af174a6121df", func := "zoneinfo/zoneinfolaw06.RuledayMatchesReference", spec := "ruledayMatchesReference", unfollowed := true, recurses := true, named := ["zoneinfo/civil.monthLengths"], apart := false, laid := [("zoneinfo/civil.monthLengths", laid_zoneinfo_civil_monthLengths)] }
def RuledayMatchesReferenceSaid : Prop := ruledayMatchesReferenceRow.holds Tryd.pinned (OpenSpec.ofChange ruledayMatchesReferenceSpec)

/-- ITS FALSE NEIGHBOUR: 'it returns false'. Refute it at one input. -/
def ruledayMatchesReferenceWrong : ChangeSpec := { name := "ruledayMatchesReference", fn := fun _ => fun
  | [d1, d2] => { results := [.lit (.bool false)], args := [d1, d2] }
  | _ => none }
def RuledayMatchesReferenceWrongFalsely : Prop := ruledayMatchesReferenceRow.holds Tryd.pinned (OpenSpec.ofChange ruledayMatchesReferenceWrong)

/-- 'zoneinfolaw06.RuledayMatchesCalendar': WHATEVER THE INPUT: true; the input reads as it did. -/
def ruledayMatchesCalendarSpec : ChangeSpec := { name := "ruledayMatchesCalendar", fn := fun _ => fun
  | [d1, d2, d3] => { results := [.lit (.bool true)], args := [d1, d2, d3] }
  | _ => none }
def ruledayMatchesCalendarRow : OpenClaim := { program := "ytgonchceckifcaadoor", sum := "8d4b3c9881b2d10bbf640c2a1cd512f639fe805edc405ded21b4af174a6121df", func := "zoneinfo/zoneinfolaw06.RuledayMatchesCalendar", spec := "ruledayMatchesCalendar", unfollowed := true, recurses := true, named := ["zoneinfo/civil.monthLengths"], apart := false, laid := [("zoneinfo/civil.monthLengths", laid_zoneinfo_civil_monthLengths)] }
def RuledayMatchesCalendarSaid : Prop := ruledayMatchesCalendarRow.holds Tryd.pinned (OpenSpec.ofChange ruledayMatchesCalendarSpec)

/-- ITS FALSE NEIGHBOUR: 'it returns false'. Refute it at one input. -/
def ruledayMatchesCalendarWrong : ChangeSpec := { name := "ruledayMatchesCalendar", fn := fun _ => fun
  | [d1, d2, d3] => { results := [.lit (.bool false)], args := [d1, d2, d3] }
  | _ => none }
def RuledayMatchesCalendarWrongFalsely : Prop := ruledayMatchesCalendarRow.holds Tryd.pinned (OpenSpec.ofChange ruledayMatchesCalendarWrong)

/-- 'zoneinfolaw06.RuledayYears': WHATEVER THE INPUT: true; the input reads as it did. -/
def ruledayYearsSpec : ChangeSpec := { name := "ruledayYears", fn := fun _ => fun
  | [d1, d2] => { results := [.lit (.bool true)], args := [d1, d2] }
  | _ => none }
def ruledayYearsRow : OpenClaim := { program := "ytgonchceckifcaadoor", sum := "8d4b3c9881b2d10bbf640c2a1cd512f639fe805edc405ded21b4af174a6121df", func := "zoneinfo/zoneinfolaw06.RuledayYears", spec := "ruledayYears", unfollowed := true, recurses := true, named := ["zoneinfo/civil.monthLengths"], apart := false, laid := [("zoneinfo/civil.monthLengths", laid_zoneinfo_civil_monthLengths)] }
def RuledayYearsSaid : Prop := ruledayYearsRow.holds Tryd.pinned (OpenSpec.ofChange ruledayYearsSpec)

/-- ITS FALSE NEIGHBOUR: 'it returns false'. Refute it at one input. -/
def ruledayYearsWrong : ChangeSpec := { name := "ruledayYears", fn := fun _ => fun
  | [d1, d2] => { results := [.lit (.bool false)], args := [d1, d2] }
  | _ => none }
def RuledayYearsWrongFalsely : Prop := ruledayYearsRow.holds Tryd.pinned (OpenSpec.ofChange ruledayYearsWrong)

/-- 'zoneinfolaw06.RuledayWeeks': WHATEVER THE INPUT: true; the input reads as it did. -/
def ruledayWeeksSpec : ChangeSpec := { name := "ruledayWeeks", fn := fun _ => fun
  | [d1, d2, d3, d4] => { results := [.lit (.bool true)], args := [d1, d2, d3, d4] }
  | _ => none }
def ruledayWeeksRow : OpenClaim := { program := "ytgonchceckifcaadoor", sum := "8d4b3c9881b2d10bbf640c2a1cd512f639fe805edc405ded21b4af174a6121df", func := "zoneinfo/zoneinfolaw06.RuledayWeeks", spec := "ruledayWeeks", unfollowed := true, recurses := true, named := ["zoneinfo/civil.monthLengths"], apart := false, laid := [("zoneinfo/civil.monthLengths", laid_zoneinfo_civil_monthLengths)] }
def RuledayWeeksSaid : Prop := ruledayWeeksRow.holds Tryd.pinned (OpenSpec.ofChange ruledayWeeksSpec)

/-- ITS FALSE NEIGHBOUR: 'it returns false'. Refute it at one input. -/
def ruledayWeeksWrong : ChangeSpec := { name := "ruledayWeeks", fn := fun _ => fun
  | [d1, d2, d3, d4] => { results := [.lit (.bool false)], args := [d1, d2, d3, d4] }
  | _ => none }
def RuledayWeeksWrongFalsely : Prop := ruledayWeeksRow.holds Tryd.pinned (OpenSpec.ofChange ruledayWeeksWrong)

/-- 'zoneinfolaw06.RuledayLeapYears': WHATEVER THE INPUT: true; the input reads as it did. -/
def ruledayLeapYearsSpec : ChangeSpec := { name := "ruledayLeapYears", fn := fun _ => fun
  | [d1, d2] => { results := [.lit (.bool true)], args := [d1, d2] }
  | _ => none }
def ruledayLeapYearsRow : OpenClaim := { program := "ytgonchceckifcaadoor", sum := "8d4b3c9881b2d10bbf640c2a1cd512f639fe805edc405ded21b4af174a6121df", func := "zoneinfo/zoneinfolaw06.RuledayLeapYears", spec := "ruledayLeapYears", unfollowed := true, recurses := true, named := ["zoneinfo/civil.monthLengths"], apart := false, laid := [("zoneinfo/civil.monthLengths", laid_zoneinfo_civil_monthLengths)] }
def RuledayLeapYearsSaid : Prop := ruledayLeapYearsRow.holds Tryd.pinned (OpenSpec.ofChange ruledayLeapYearsSpec)

/-- ITS FALSE NEIGHBOUR: 'it returns false'. Refute it at one input. -/
def ruledayLeapYearsWrong : ChangeSpec := { name := "ruledayLeapYears", fn := fun _ => fun
  | [d1, d2] => { results := [.lit (.bool false)], args := [d1, d2] }
  | _ => none }
def RuledayLeapYearsWrongFalsely : Prop := ruledayLeapYearsRow.holds Tryd.pinned (OpenSpec.ofChange ruledayLeapYearsWrong)

/- THE SECOND FORM. 'bulk': how many values and letters a reading holds, each counted each time it is reached (what is shared counts as often as it is met; a slice's spare places count too). A statement '..UptoSaid' is the law's where the arguments, and the package variables that the reading takes, are together of bulk at most 1048576: NARROWER than '..Said'. Prove '..Said' where nothing that the law and all that it calls make is longer than what came in: it says more and counts as full. Else prove '..UptoSaid'. A law counts once. -/
mutual
def uptoBulk {H : Type} : DataW H → Nat
  | .lit (.string bytes) => bytes.length + 1
  | .lit _ => 1
  | .nil => 1
  | .ptr d => uptoBulk d + 1
  | .slice elems spare => uptoBulkAll elems + uptoBulkAll spare + 1
  | .agg parts => uptoBulkAll parts + 1
  | .iface _ d => uptoBulk d + 1
  | .map entries => uptoBulkEntries entries + 1
  | .held _ => 1
def uptoBulkAll {H : Type} : List (DataW H) → Nat
  | [] => 0
  | d :: r => uptoBulk d + uptoBulkAll r
def uptoBulkEntries {H : Type} : List (Lit × DataW H) → Nat
  | [] => 0
  | x :: r => uptoBulkEntry x + uptoBulkEntries r
def uptoBulkEntry {H : Type} : Lit × DataW H → Nat
  | (.string bytes, d) => bytes.length + uptoBulk d + 1
  | (_, d) => uptoBulk d + 1
 end
def uptoSmall : (H : Type) → List (DataW H) → Bool := fun _ ds => decide (uptoBulkAll ds ≤ 1048576)
def OpenSpec.upto (s : _root_.Go.ChangeSpec) : _root_.Go.OpenSpec := { _root_.Go.OpenSpec.ofChange s with cond := some uptoSmall }

/-- 'zoneinfolaw06.RuledayMatchesReference', WHERE WHAT IT READS IS OF BULK AT MOST 1048576: true; the input reads as it did. -/
def ruledayMatchesReferenceUptoRow : OpenClaim := { program := "ytgonchceckifcaadoor", sum := "8d4b3c9881b2d10bbf640c2a1cd512f639fe805edc405ded21b4af174a6121df", func := "zoneinfo/zoneinfolaw06.RuledayMatchesReference", spec := "ruledayMatchesReference", unfollowed := true, recurses := true, named := ["zoneinfo/civil.monthLengths"], apart := false, laid := [("zoneinfo/civil.monthLengths", laid_zoneinfo_civil_monthLengths)], narrowed := true }
def RuledayMatchesReferenceUptoSaid : Prop := ruledayMatchesReferenceUptoRow.holds Tryd.pinned (OpenSpec.upto ruledayMatchesReferenceSpec)

/-- 'zoneinfolaw06.RuledayMatchesCalendar', WHERE WHAT IT READS IS OF BULK AT MOST 1048576: true; the input reads as it did. -/
def ruledayMatchesCalendarUptoRow : OpenClaim := { program := "ytgonchceckifcaadoor", sum := "8d4b3c9881b2d10bbf640c2a1cd512f639fe805edc405ded21b4af174a6121df", func := "zoneinfo/zoneinfolaw06.RuledayMatchesCalendar", spec := "ruledayMatchesCalendar", unfollowed := true, recurses := true, named := ["zoneinfo/civil.monthLengths"], apart := false, laid := [("zoneinfo/civil.monthLengths", laid_zoneinfo_civil_monthLengths)], narrowed := true }
def RuledayMatchesCalendarUptoSaid : Prop := ruledayMatchesCalendarUptoRow.holds Tryd.pinned (OpenSpec.upto ruledayMatchesCalendarSpec)

/-- 'zoneinfolaw06.RuledayYears', WHERE WHAT IT READS IS OF BULK AT MOST 1048576: true; the input reads as it did. -/
def ruledayYearsUptoRow : OpenClaim := { program := "ytgonchceckifcaadoor", sum := "8d4b3c9881b2d10bbf640c2a1cd512f639fe805edc405ded21b4af174a6121df", func := "zoneinfo/zoneinfolaw06.RuledayYears", spec := "ruledayYears", unfollowed := true, recurses := true, named := ["zoneinfo/civil.monthLengths"], apart := false, laid := [("zoneinfo/civil.monthLengths", laid_zoneinfo_civil_monthLengths)], narrowed := true }
def RuledayYearsUptoSaid : Prop := ruledayYearsUptoRow.holds Tryd.pinned (OpenSpec.upto ruledayYearsSpec)

/-- 'zoneinfolaw06.RuledayWeeks', WHERE WHAT IT READS IS OF BULK AT MOST 1048576: true; the input reads as it did. -/
def ruledayWeeksUptoRow : OpenClaim := { program := "ytgonchceckifcaadoor", sum := "8d4b3c9881b2d10bbf640c2a1cd512f639fe805edc405ded21b4af174a6121df", func := "zoneinfo/zoneinfolaw06.RuledayWeeks", spec := "ruledayWeeks", unfollowed := true, recurses := true, named := ["zoneinfo/civil.monthLengths"], apart := false, laid := [("zoneinfo/civil.monthLengths", laid_zoneinfo_civil_monthLengths)], narrowed := true }
def RuledayWeeksUptoSaid : Prop := ruledayWeeksUptoRow.holds Tryd.pinned (OpenSpec.upto ruledayWeeksSpec)

/-- 'zoneinfolaw06.RuledayLeapYears', WHERE WHAT IT READS IS OF BULK AT MOST 1048576: true; the input reads as it did. -/
def ruledayLeapYearsUptoRow : OpenClaim := { program := "ytgonchceckifcaadoor", sum := "8d4b3c9881b2d10bbf640c2a1cd512f639fe805edc405ded21b4af174a6121df", func := "zoneinfo/zoneinfolaw06.RuledayLeapYears", spec := "ruledayLeapYears", unfollowed := true, recurses := true, named := ["zoneinfo/civil.monthLengths"], apart := false, laid := [("zoneinfo/civil.monthLengths", laid_zoneinfo_civil_monthLengths)], narrowed := true }
def RuledayLeapYearsUptoSaid : Prop := ruledayLeapYearsUptoRow.holds Tryd.pinned (OpenSpec.upto ruledayLeapYearsSpec)

end Rows
end Go.Proofs.YtgonchceckifcaaDoor
