/-
  DERIVED. GIVEN WITH THE SEED: THE CARDS: each row of YtbehflfpdkedgaaGreatDoorRows.lean that lists a variable, with what it lists TIED to the program's text (the seventh form; the later family's looks); each row that meets fmt, with fmt's text TOLD by the authors' own Lean function (tested against real Go, not proved from fmt's source: count such statements apart). THE CARD IS WHAT COUNTS. Prove the row's statement (the work); the ties are given (YtbehflfpdkedgaaGreatDoorTie.lean); close each card by the builder's one call (the guide's Derived/Test/ToyasCard.lean, 'card_holds'). Laid BY PROGRAM, IN A SANDBOX (cutbox-door.mjs). By AI agents, Wed Nov 11 2026. No macro, syntax, notation, axiom, sorry.
-/
import Derived.Test.YtbehflfpdkedgaaGreatDoorRows
import GoSem.ClaimSeven
namespace Go.Proofs.YtbehflfpdkedgaaGreatDoor
namespace Rows

/-- THE TIED CARD OF 'zoneinfolaw20.ValidateMatchesReference'. -/
def validateMatchesReferenceCard : Claim7 := { stood := { row := validateMatchesReferenceRow, standIns := [], harness := (true, "ad0671a349c8b92627292abadcc4904b96ebd7d67d9aa131589319f43f609fa8"), looks := true }, kinds := [], alts := [], laidByText := true, laidKinds := [.data, .data, .data, .data, .data, .sentinel, .sentinel, .pinned], laidTests := true, laidLooks := .later }
def ValidateMatchesReferenceCardSaid : Prop := Claim7.holds Tryz.pinned (.plain (OpenSpec.ofChange validateMatchesReferenceSpec)) validateMatchesReferenceCard

/-- THE TIED CARD OF 'zoneinfolaw20.ValidateAcceptsExactly'. -/
def validateAcceptsExactlyCard : Claim7 := { stood := { row := validateAcceptsExactlyRow, standIns := [], harness := (true, "ad0671a349c8b92627292abadcc4904b96ebd7d67d9aa131589319f43f609fa8"), looks := true }, kinds := [], alts := [], laidByText := true, laidKinds := [.data, .data, .data, .data, .data, .sentinel, .sentinel, .pinned], laidTests := true, laidLooks := .later }
def ValidateAcceptsExactlyCardSaid : Prop := Claim7.holds Tryz.pinned (.plain (OpenSpec.ofChange validateAcceptsExactlySpec)) validateAcceptsExactlyCard

/-- THE TIED CARD OF 'zoneinfolaw20.ValidateVersions'. -/
def validateVersionsCard : Claim7 := { stood := { row := validateVersionsRow, standIns := [], harness := (true, "ad0671a349c8b92627292abadcc4904b96ebd7d67d9aa131589319f43f609fa8"), looks := true }, kinds := [], alts := [], laidByText := true, laidKinds := [.data, .data, .data, .data, .data, .sentinel, .sentinel, .pinned], laidTests := true, laidLooks := .later }
def ValidateVersionsCardSaid : Prop := Claim7.holds Tryz.pinned (.plain (OpenSpec.ofChange validateVersionsSpec)) validateVersionsCard

/-- THE TIED CARD OF 'zoneinfolaw20.ValidateSubsets'. -/
def validateSubsetsCard : Claim7 := { stood := { row := validateSubsetsRow, standIns := [], harness := (true, "ad0671a349c8b92627292abadcc4904b96ebd7d67d9aa131589319f43f609fa8"), looks := true }, kinds := [], alts := [], laidByText := true, laidKinds := [.data, .data, .data, .data, .data, .sentinel, .sentinel, .pinned], laidTests := true, laidLooks := .later }
def ValidateSubsetsCardSaid : Prop := Claim7.holds Tryz.pinned (.plain (OpenSpec.ofChange validateSubsetsSpec)) validateSubsetsCard

/-- THE TIED CARD OF 'zoneinfolaw20.ValidateFooter'. -/
def validateFooterCard : Claim7 := { stood := { row := validateFooterRow, standIns := [], harness := (true, "ad0671a349c8b92627292abadcc4904b96ebd7d67d9aa131589319f43f609fa8"), looks := true }, kinds := [], alts := [], laidByText := true, laidKinds := [.data, .data, .data, .data, .data, .sentinel, .sentinel, .pinned], laidTests := true, laidLooks := .later }
def ValidateFooterCardSaid : Prop := Claim7.holds Tryz.pinned (.plain (OpenSpec.ofChange validateFooterSpec)) validateFooterCard

/-- THE SECOND FORM's CARD OF 'zoneinfolaw20.ValidateMatchesReference'. -/
def validateMatchesReferenceUptoCard : Claim7 := { stood := { row := validateMatchesReferenceUptoRow, standIns := [], harness := (true, "ad0671a349c8b92627292abadcc4904b96ebd7d67d9aa131589319f43f609fa8"), looks := true }, kinds := [], alts := [], laidByText := true, laidKinds := [.data, .data, .data, .data, .data, .sentinel, .sentinel, .pinned], laidTests := true, laidLooks := .later }
def ValidateMatchesReferenceUptoCardSaid : Prop := Claim7.holds Tryz.pinned (.plain (OpenSpec.upto validateMatchesReferenceSpec)) validateMatchesReferenceUptoCard

/-- THE SECOND FORM's CARD OF 'zoneinfolaw20.ValidateAcceptsExactly'. -/
def validateAcceptsExactlyUptoCard : Claim7 := { stood := { row := validateAcceptsExactlyUptoRow, standIns := [], harness := (true, "ad0671a349c8b92627292abadcc4904b96ebd7d67d9aa131589319f43f609fa8"), looks := true }, kinds := [], alts := [], laidByText := true, laidKinds := [.data, .data, .data, .data, .data, .sentinel, .sentinel, .pinned], laidTests := true, laidLooks := .later }
def ValidateAcceptsExactlyUptoCardSaid : Prop := Claim7.holds Tryz.pinned (.plain (OpenSpec.upto validateAcceptsExactlySpec)) validateAcceptsExactlyUptoCard

/-- THE SECOND FORM's CARD OF 'zoneinfolaw20.ValidateVersions'. -/
def validateVersionsUptoCard : Claim7 := { stood := { row := validateVersionsUptoRow, standIns := [], harness := (true, "ad0671a349c8b92627292abadcc4904b96ebd7d67d9aa131589319f43f609fa8"), looks := true }, kinds := [], alts := [], laidByText := true, laidKinds := [.data, .data, .data, .data, .data, .sentinel, .sentinel, .pinned], laidTests := true, laidLooks := .later }
def ValidateVersionsUptoCardSaid : Prop := Claim7.holds Tryz.pinned (.plain (OpenSpec.upto validateVersionsSpec)) validateVersionsUptoCard

/-- THE SECOND FORM's CARD OF 'zoneinfolaw20.ValidateSubsets'. -/
def validateSubsetsUptoCard : Claim7 := { stood := { row := validateSubsetsUptoRow, standIns := [], harness := (true, "ad0671a349c8b92627292abadcc4904b96ebd7d67d9aa131589319f43f609fa8"), looks := true }, kinds := [], alts := [], laidByText := true, laidKinds := [.data, .data, .data, .data, .data, .sentinel, .sentinel, .pinned], laidTests := true, laidLooks := .later }
def ValidateSubsetsUptoCardSaid : Prop := Claim7.holds Tryz.pinned (.plain (OpenSpec.upto validateSubsetsSpec)) validateSubsetsUptoCard

/-- THE SECOND FORM's CARD OF 'zoneinfolaw20.ValidateFooter'. -/
def validateFooterUptoCard : Claim7 := { stood := { row := validateFooterUptoRow, standIns := [], harness := (true, "ad0671a349c8b92627292abadcc4904b96ebd7d67d9aa131589319f43f609fa8"), looks := true }, kinds := [], alts := [], laidByText := true, laidKinds := [.data, .data, .data, .data, .data, .sentinel, .sentinel, .pinned], laidTests := true, laidLooks := .later }
def ValidateFooterUptoCardSaid : Prop := Claim7.holds Tryz.pinned (.plain (OpenSpec.upto validateFooterSpec)) validateFooterUptoCard
end Rows
end Go.Proofs.YtbehflfpdkedgaaGreatDoor
