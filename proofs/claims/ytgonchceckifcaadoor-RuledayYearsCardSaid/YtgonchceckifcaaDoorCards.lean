/-
  DERIVED. GIVEN WITH THE SEED: THE CARDS: each row of YtgonchceckifcaaDoorRows.lean that lists a variable, with what it lists TIED to the program's text (the seventh form; the later family's looks); each row that meets fmt, with fmt's text TOLD by the authors' own Lean function (tested against real Go, not proved from fmt's source: count such statements apart). THE CARD IS WHAT COUNTS. Prove the row's statement (the work); the ties are given (YtgonchceckifcaaDoorTie.lean); close each card by the builder's one call (the guide's Derived/Test/ToyasCard.lean, 'card_holds'). Laid BY PROGRAM, IN A SANDBOX (cutbox-door.mjs). By AI agents, Wed Nov 11 2026. No macro, syntax, notation, axiom, sorry.
-/
import Derived.Test.YtgonchceckifcaaDoorRows
import GoSem.ClaimSeven
namespace Go.Proofs.YtgonchceckifcaaDoor
namespace Rows

/-- THE TIED CARD OF 'zoneinfolaw06.RuledayMatchesReference'. -/
def ruledayMatchesReferenceCard : Claim7 := { stood := { row := ruledayMatchesReferenceRow, standIns := [], harness := (true, "b4e4feac66798b9fd4dd9d7bacd4c72b3ea57c4615b73ac3bf5bcce085c175bb"), looks := false }, kinds := [], alts := [], laidByText := true, laidKinds := [.data], laidTests := true, laidLooks := .later }
def RuledayMatchesReferenceCardSaid : Prop := Claim7.holds Tryd.pinned (.plain (OpenSpec.ofChange ruledayMatchesReferenceSpec)) ruledayMatchesReferenceCard

/-- THE TIED CARD OF 'zoneinfolaw06.RuledayMatchesCalendar'. -/
def ruledayMatchesCalendarCard : Claim7 := { stood := { row := ruledayMatchesCalendarRow, standIns := [], harness := (true, "b4e4feac66798b9fd4dd9d7bacd4c72b3ea57c4615b73ac3bf5bcce085c175bb"), looks := false }, kinds := [], alts := [], laidByText := true, laidKinds := [.data], laidTests := true, laidLooks := .later }
def RuledayMatchesCalendarCardSaid : Prop := Claim7.holds Tryd.pinned (.plain (OpenSpec.ofChange ruledayMatchesCalendarSpec)) ruledayMatchesCalendarCard

/-- THE TIED CARD OF 'zoneinfolaw06.RuledayYears'. -/
def ruledayYearsCard : Claim7 := { stood := { row := ruledayYearsRow, standIns := [], harness := (true, "b4e4feac66798b9fd4dd9d7bacd4c72b3ea57c4615b73ac3bf5bcce085c175bb"), looks := false }, kinds := [], alts := [], laidByText := true, laidKinds := [.data], laidTests := true, laidLooks := .later }
def RuledayYearsCardSaid : Prop := Claim7.holds Tryd.pinned (.plain (OpenSpec.ofChange ruledayYearsSpec)) ruledayYearsCard

/-- THE TIED CARD OF 'zoneinfolaw06.RuledayWeeks'. -/
def ruledayWeeksCard : Claim7 := { stood := { row := ruledayWeeksRow, standIns := [], harness := (true, "b4e4feac66798b9fd4dd9d7bacd4c72b3ea57c4615b73ac3bf5bcce085c175bb"), looks := false }, kinds := [], alts := [], laidByText := true, laidKinds := [.data], laidTests := true, laidLooks := .later }
def RuledayWeeksCardSaid : Prop := Claim7.holds Tryd.pinned (.plain (OpenSpec.ofChange ruledayWeeksSpec)) ruledayWeeksCard

/-- THE TIED CARD OF 'zoneinfolaw06.RuledayLeapYears'. -/
def ruledayLeapYearsCard : Claim7 := { stood := { row := ruledayLeapYearsRow, standIns := [], harness := (true, "b4e4feac66798b9fd4dd9d7bacd4c72b3ea57c4615b73ac3bf5bcce085c175bb"), looks := false }, kinds := [], alts := [], laidByText := true, laidKinds := [.data], laidTests := true, laidLooks := .later }
def RuledayLeapYearsCardSaid : Prop := Claim7.holds Tryd.pinned (.plain (OpenSpec.ofChange ruledayLeapYearsSpec)) ruledayLeapYearsCard

/-- THE SECOND FORM's CARD OF 'zoneinfolaw06.RuledayMatchesReference'. -/
def ruledayMatchesReferenceUptoCard : Claim7 := { stood := { row := ruledayMatchesReferenceUptoRow, standIns := [], harness := (true, "b4e4feac66798b9fd4dd9d7bacd4c72b3ea57c4615b73ac3bf5bcce085c175bb"), looks := false }, kinds := [], alts := [], laidByText := true, laidKinds := [.data], laidTests := true, laidLooks := .later }
def RuledayMatchesReferenceUptoCardSaid : Prop := Claim7.holds Tryd.pinned (.plain (OpenSpec.upto ruledayMatchesReferenceSpec)) ruledayMatchesReferenceUptoCard

/-- THE SECOND FORM's CARD OF 'zoneinfolaw06.RuledayMatchesCalendar'. -/
def ruledayMatchesCalendarUptoCard : Claim7 := { stood := { row := ruledayMatchesCalendarUptoRow, standIns := [], harness := (true, "b4e4feac66798b9fd4dd9d7bacd4c72b3ea57c4615b73ac3bf5bcce085c175bb"), looks := false }, kinds := [], alts := [], laidByText := true, laidKinds := [.data], laidTests := true, laidLooks := .later }
def RuledayMatchesCalendarUptoCardSaid : Prop := Claim7.holds Tryd.pinned (.plain (OpenSpec.upto ruledayMatchesCalendarSpec)) ruledayMatchesCalendarUptoCard

/-- THE SECOND FORM's CARD OF 'zoneinfolaw06.RuledayYears'. -/
def ruledayYearsUptoCard : Claim7 := { stood := { row := ruledayYearsUptoRow, standIns := [], harness := (true, "b4e4feac66798b9fd4dd9d7bacd4c72b3ea57c4615b73ac3bf5bcce085c175bb"), looks := false }, kinds := [], alts := [], laidByText := true, laidKinds := [.data], laidTests := true, laidLooks := .later }
def RuledayYearsUptoCardSaid : Prop := Claim7.holds Tryd.pinned (.plain (OpenSpec.upto ruledayYearsSpec)) ruledayYearsUptoCard

/-- THE SECOND FORM's CARD OF 'zoneinfolaw06.RuledayWeeks'. -/
def ruledayWeeksUptoCard : Claim7 := { stood := { row := ruledayWeeksUptoRow, standIns := [], harness := (true, "b4e4feac66798b9fd4dd9d7bacd4c72b3ea57c4615b73ac3bf5bcce085c175bb"), looks := false }, kinds := [], alts := [], laidByText := true, laidKinds := [.data], laidTests := true, laidLooks := .later }
def RuledayWeeksUptoCardSaid : Prop := Claim7.holds Tryd.pinned (.plain (OpenSpec.upto ruledayWeeksSpec)) ruledayWeeksUptoCard

/-- THE SECOND FORM's CARD OF 'zoneinfolaw06.RuledayLeapYears'. -/
def ruledayLeapYearsUptoCard : Claim7 := { stood := { row := ruledayLeapYearsUptoRow, standIns := [], harness := (true, "b4e4feac66798b9fd4dd9d7bacd4c72b3ea57c4615b73ac3bf5bcce085c175bb"), looks := false }, kinds := [], alts := [], laidByText := true, laidKinds := [.data], laidTests := true, laidLooks := .later }
def RuledayLeapYearsUptoCardSaid : Prop := Claim7.holds Tryd.pinned (.plain (OpenSpec.upto ruledayLeapYearsSpec)) ruledayLeapYearsUptoCard
end Rows
end Go.Proofs.YtgonchceckifcaaDoor
