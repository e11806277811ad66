/-
  DERIVED. GIVEN WITH THE SEED: THE CARDS: each row of YtpapfpcehlhgeaaGreatDoorRows.lean that lists a variable, with what it lists TIED to the program's text (the seventh form; the later family's looks); each row that meets fmt, with fmt's text TOLD by the authors' own Lean function (tested against real Go, not proved from fmt's source: count such statements apart). THE CARD IS WHAT COUNTS. Prove the row's statement (the work); the ties are given (YtpapfpcehlhgeaaGreatDoorTie.lean); close each card by the builder's one call (the guide's Derived/Test/ToyasCard.lean, 'card_holds'). Laid BY PROGRAM, IN A SANDBOX (cutbox-door.mjs). By AI agents, Wed Nov 11 2026. No macro, syntax, notation, axiom, sorry.
-/
import Derived.Test.YtpapfpcehlhgeaaGreatDoorRows
import GoSem.ClaimSeven
namespace Go.Proofs.YtpapfpcehlhgeaaGreatDoor
namespace Rows

/-- THE TIED CARD OF 'zoneinfolaw21.TzfileMatchesReference'. -/
def tzfileMatchesReferenceCard : Claim7 := { stood := { row := tzfileMatchesReferenceRow, standIns := [], harness := (true, "d320e4b44e5ffedb8f38deb75da267a7b590fe61dddab0122bc5a71a48fd4e86"), looks := true }, kinds := [], alts := [], laidByText := true, laidKinds := [.data, .data, .data, .data, .data, .data, .handle, .sentinel, .sentinel, .data, .pinned], laidTests := true, laidLooks := .later }
def TzfileMatchesReferenceCardSaid : Prop := Claim7.holds Tryz.pinned (.plain (OpenSpec.ofChange tzfileMatchesReferenceSpec)) tzfileMatchesReferenceCard

/-- THE TIED CARD OF 'zoneinfolaw21.TzfileBijection'. -/
def tzfileBijectionCard : Claim7 := { stood := { row := tzfileBijectionRow, standIns := [], harness := (true, "d320e4b44e5ffedb8f38deb75da267a7b590fe61dddab0122bc5a71a48fd4e86"), looks := true }, kinds := [], alts := [], laidByText := true, laidKinds := [.data, .data, .data, .data, .data, .data, .handle, .sentinel, .sentinel, .data, .pinned], laidTests := true, laidLooks := .later }
def TzfileBijectionCardSaid : Prop := Claim7.holds Tryz.pinned (.plain (OpenSpec.ofChange tzfileBijectionSpec)) tzfileBijectionCard

/-- THE TIED CARD OF 'zoneinfolaw21.TzfileNoSlack'. -/
def tzfileNoSlackCard : Claim7 := { stood := { row := tzfileNoSlackRow, standIns := [], harness := (true, "d320e4b44e5ffedb8f38deb75da267a7b590fe61dddab0122bc5a71a48fd4e86"), looks := true }, kinds := [], alts := [], laidByText := true, laidKinds := [.data, .data, .data, .data, .data, .data, .handle, .sentinel, .sentinel, .data, .pinned], laidTests := true, laidLooks := .later }
def TzfileNoSlackCardSaid : Prop := Claim7.holds Tryz.pinned (.plain (OpenSpec.ofChange tzfileNoSlackSpec)) tzfileNoSlackCard

/-- THE TIED CARD OF 'zoneinfolaw21.TzfileHeaderErrors'. -/
def tzfileHeaderErrorsCard : Claim7 := { stood := { row := tzfileHeaderErrorsRow, standIns := [], harness := (true, "d320e4b44e5ffedb8f38deb75da267a7b590fe61dddab0122bc5a71a48fd4e86"), looks := true }, kinds := [], alts := [], laidByText := true, laidKinds := [.data, .data, .data, .data, .data, .data, .handle, .sentinel, .sentinel, .data, .pinned], laidTests := true, laidLooks := .later }
def TzfileHeaderErrorsCardSaid : Prop := Claim7.holds Tryz.pinned (.plain (OpenSpec.ofChange tzfileHeaderErrorsSpec)) tzfileHeaderErrorsCard

/-- THE TIED CARD OF 'zoneinfolaw21.TzfileDoesNotAlias'. -/
def tzfileDoesNotAliasCard : Claim7 := { stood := { row := tzfileDoesNotAliasRow, standIns := [], harness := (true, "d320e4b44e5ffedb8f38deb75da267a7b590fe61dddab0122bc5a71a48fd4e86"), looks := true }, kinds := [], alts := [], laidByText := true, laidKinds := [.data, .data, .data, .data, .data, .data, .handle, .sentinel, .sentinel, .data, .pinned], laidTests := true, laidLooks := .later }
def TzfileDoesNotAliasCardSaid : Prop := Claim7.holds Tryz.pinned (.plain (OpenSpec.ofChange tzfileDoesNotAliasSpec)) tzfileDoesNotAliasCard

/-- THE SECOND FORM's CARD OF 'zoneinfolaw21.TzfileMatchesReference'. -/
def tzfileMatchesReferenceUptoCard : Claim7 := { stood := { row := tzfileMatchesReferenceUptoRow, standIns := [], harness := (true, "d320e4b44e5ffedb8f38deb75da267a7b590fe61dddab0122bc5a71a48fd4e86"), looks := true }, kinds := [], alts := [], laidByText := true, laidKinds := [.data, .data, .data, .data, .data, .data, .handle, .sentinel, .sentinel, .data, .pinned], laidTests := true, laidLooks := .later }
def TzfileMatchesReferenceUptoCardSaid : Prop := Claim7.holds Tryz.pinned (.plain (OpenSpec.upto tzfileMatchesReferenceSpec)) tzfileMatchesReferenceUptoCard

/-- THE SECOND FORM's CARD OF 'zoneinfolaw21.TzfileBijection'. -/
def tzfileBijectionUptoCard : Claim7 := { stood := { row := tzfileBijectionUptoRow, standIns := [], harness := (true, "d320e4b44e5ffedb8f38deb75da267a7b590fe61dddab0122bc5a71a48fd4e86"), looks := true }, kinds := [], alts := [], laidByText := true, laidKinds := [.data, .data, .data, .data, .data, .data, .handle, .sentinel, .sentinel, .data, .pinned], laidTests := true, laidLooks := .later }
def TzfileBijectionUptoCardSaid : Prop := Claim7.holds Tryz.pinned (.plain (OpenSpec.upto tzfileBijectionSpec)) tzfileBijectionUptoCard

/-- THE SECOND FORM's CARD OF 'zoneinfolaw21.TzfileNoSlack'. -/
def tzfileNoSlackUptoCard : Claim7 := { stood := { row := tzfileNoSlackUptoRow, standIns := [], harness := (true, "d320e4b44e5ffedb8f38deb75da267a7b590fe61dddab0122bc5a71a48fd4e86"), looks := true }, kinds := [], alts := [], laidByText := true, laidKinds := [.data, .data, .data, .data, .data, .data, .handle, .sentinel, .sentinel, .data, .pinned], laidTests := true, laidLooks := .later }
def TzfileNoSlackUptoCardSaid : Prop := Claim7.holds Tryz.pinned (.plain (OpenSpec.upto tzfileNoSlackSpec)) tzfileNoSlackUptoCard

/-- THE SECOND FORM's CARD OF 'zoneinfolaw21.TzfileHeaderErrors'. -/
def tzfileHeaderErrorsUptoCard : Claim7 := { stood := { row := tzfileHeaderErrorsUptoRow, standIns := [], harness := (true, "d320e4b44e5ffedb8f38deb75da267a7b590fe61dddab0122bc5a71a48fd4e86"), looks := true }, kinds := [], alts := [], laidByText := true, laidKinds := [.data, .data, .data, .data, .data, .data, .handle, .sentinel, .sentinel, .data, .pinned], laidTests := true, laidLooks := .later }
def TzfileHeaderErrorsUptoCardSaid : Prop := Claim7.holds Tryz.pinned (.plain (OpenSpec.upto tzfileHeaderErrorsSpec)) tzfileHeaderErrorsUptoCard

/-- THE SECOND FORM's CARD OF 'zoneinfolaw21.TzfileDoesNotAlias'. -/
def tzfileDoesNotAliasUptoCard : Claim7 := { stood := { row := tzfileDoesNotAliasUptoRow, standIns := [], harness := (true, "d320e4b44e5ffedb8f38deb75da267a7b590fe61dddab0122bc5a71a48fd4e86"), looks := true }, kinds := [], alts := [], laidByText := true, laidKinds := [.data, .data, .data, .data, .data, .data, .handle, .sentinel, .sentinel, .data, .pinned], laidTests := true, laidLooks := .later }
def TzfileDoesNotAliasUptoCardSaid : Prop := Claim7.holds Tryz.pinned (.plain (OpenSpec.upto tzfileDoesNotAliasSpec)) tzfileDoesNotAliasUptoCard
end Rows
end Go.Proofs.YtpapfpcehlhgeaaGreatDoor
