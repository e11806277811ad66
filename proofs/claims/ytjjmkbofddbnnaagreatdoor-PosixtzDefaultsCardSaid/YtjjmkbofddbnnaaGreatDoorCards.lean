/-
  DERIVED. GIVEN WITH THE SEED: THE CARDS: each row of YtjjmkbofddbnnaaGreatDoorRows.lean that lists a variable, with what it lists TIED to the program's text (the seventh form; the later family's looks); each row that meets fmt, with fmt's text TOLD by the authors' own Lean function (tested against real Go, not proved from fmt's source: count such statements apart). THE CARD IS WHAT COUNTS. Prove the row's statement (the work); the ties are given (YtjjmkbofddbnnaaGreatDoorTie.lean); close each card by the builder's one call (the guide's Derived/Test/ToyasCard.lean, 'card_holds'). Laid BY PROGRAM, IN A SANDBOX (cutbox-door.mjs). By AI agents, Wed Nov 11 2026. No macro, syntax, notation, axiom, sorry.
-/
import Derived.Test.YtjjmkbofddbnnaaGreatDoorRows
import GoSem.ClaimSeven
namespace Go.Proofs.YtjjmkbofddbnnaaGreatDoor
namespace Rows

/-- THE TIED CARD OF 'zoneinfolaw09.PosixtzParts'. -/
def posixtzPartsCard : Claim7 := { stood := { row := posixtzPartsRow, standIns := [], harness := (true, "d26b05d1273d133620931d1bc1aeb35ac24517c8fcd7e3a5089e046e4bae419d"), looks := true }, kinds := [], alts := [], laidByText := true, laidKinds := [.data, .data, .data, .data, .sentinel, .sentinel, .pinned], laidTests := true, laidLooks := .later }
def PosixtzPartsCardSaid : Prop := Claim7.holds Tryz.pinned (.plain (OpenSpec.ofChange posixtzPartsSpec)) posixtzPartsCard

/-- THE TIED CARD OF 'zoneinfolaw09.PosixtzDefaults'. -/
def posixtzDefaultsCard : Claim7 := { stood := { row := posixtzDefaultsRow, standIns := [], harness := (true, "d26b05d1273d133620931d1bc1aeb35ac24517c8fcd7e3a5089e046e4bae419d"), looks := true }, kinds := [], alts := [], laidByText := true, laidKinds := [.data, .data, .data, .data, .sentinel, .sentinel, .pinned], laidTests := true, laidLooks := .later }
def PosixtzDefaultsCardSaid : Prop := Claim7.holds Tryz.pinned (.plain (OpenSpec.ofChange posixtzDefaultsSpec)) posixtzDefaultsCard

/-- THE TIED CARD OF 'zoneinfolaw09.PosixtzDayForms'. -/
def posixtzDayFormsCard : Claim7 := { stood := { row := posixtzDayFormsRow, standIns := [], harness := (true, "d26b05d1273d133620931d1bc1aeb35ac24517c8fcd7e3a5089e046e4bae419d"), looks := true }, kinds := [], alts := [], laidByText := true, laidKinds := [.data, .data, .data, .data, .sentinel, .sentinel, .pinned], laidTests := true, laidLooks := .later }
def PosixtzDayFormsCardSaid : Prop := Claim7.holds Tryz.pinned (.plain (OpenSpec.ofChange posixtzDayFormsSpec)) posixtzDayFormsCard

/-- THE SECOND FORM's CARD OF 'zoneinfolaw09.PosixtzParts'. -/
def posixtzPartsUptoCard : Claim7 := { stood := { row := posixtzPartsUptoRow, standIns := [], harness := (true, "d26b05d1273d133620931d1bc1aeb35ac24517c8fcd7e3a5089e046e4bae419d"), looks := true }, kinds := [], alts := [], laidByText := true, laidKinds := [.data, .data, .data, .data, .sentinel, .sentinel, .pinned], laidTests := true, laidLooks := .later }
def PosixtzPartsUptoCardSaid : Prop := Claim7.holds Tryz.pinned (.plain (OpenSpec.upto posixtzPartsSpec)) posixtzPartsUptoCard

/-- THE SECOND FORM's CARD OF 'zoneinfolaw09.PosixtzDefaults'. -/
def posixtzDefaultsUptoCard : Claim7 := { stood := { row := posixtzDefaultsUptoRow, standIns := [], harness := (true, "d26b05d1273d133620931d1bc1aeb35ac24517c8fcd7e3a5089e046e4bae419d"), looks := true }, kinds := [], alts := [], laidByText := true, laidKinds := [.data, .data, .data, .data, .sentinel, .sentinel, .pinned], laidTests := true, laidLooks := .later }
def PosixtzDefaultsUptoCardSaid : Prop := Claim7.holds Tryz.pinned (.plain (OpenSpec.upto posixtzDefaultsSpec)) posixtzDefaultsUptoCard

/-- THE SECOND FORM's CARD OF 'zoneinfolaw09.PosixtzDayForms'. -/
def posixtzDayFormsUptoCard : Claim7 := { stood := { row := posixtzDayFormsUptoRow, standIns := [], harness := (true, "d26b05d1273d133620931d1bc1aeb35ac24517c8fcd7e3a5089e046e4bae419d"), looks := true }, kinds := [], alts := [], laidByText := true, laidKinds := [.data, .data, .data, .data, .sentinel, .sentinel, .pinned], laidTests := true, laidLooks := .later }
def PosixtzDayFormsUptoCardSaid : Prop := Claim7.holds Tryz.pinned (.plain (OpenSpec.upto posixtzDayFormsSpec)) posixtzDayFormsUptoCard
end Rows
end Go.Proofs.YtjjmkbofddbnnaaGreatDoor
