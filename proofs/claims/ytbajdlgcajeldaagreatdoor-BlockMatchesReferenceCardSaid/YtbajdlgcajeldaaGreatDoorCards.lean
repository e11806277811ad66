/-
  DERIVED. GIVEN WITH THE SEED: THE CARDS: each row of YtbajdlgcajeldaaGreatDoorRows.lean that lists a variable, with what it lists TIED to the program's text (the seventh form; the later family's looks); each row that meets fmt, with fmt's text TOLD by the authors' own Lean function (tested against real Go, not proved from fmt's source: count such statements apart). THE CARD IS WHAT COUNTS. Prove the row's statement (the work); the ties are given (YtbajdlgcajeldaaGreatDoorTie.lean); close each card by the builder's one call (the guide's Derived/Test/ToyasCard.lean, 'card_holds'). Laid BY PROGRAM, IN A SANDBOX (cutbox-door.mjs). By AI agents, Wed Nov 11 2026. No macro, syntax, notation, axiom, sorry.
-/
import Derived.Test.YtbajdlgcajeldaaGreatDoorRows
import GoSem.ClaimSeven
namespace Go.Proofs.YtbajdlgcajeldaaGreatDoor
namespace Rows

/-- THE TIED CARD OF 'zoneinfolaw19.BlockMatchesReference'. -/
def blockMatchesReferenceCard : Claim7 := { stood := { row := blockMatchesReferenceRow, standIns := [], harness := (true, "5ee21e3dca32e144ac31749f3db6adfd3bde3e72f7344f0ec818f6a38cad4e67"), looks := true }, kinds := [], alts := [], laidByText := true, laidKinds := [.data, .handle], laidTests := true, laidLooks := .later }
def BlockMatchesReferenceCardSaid : Prop := Claim7.holds Tryz.pinned (.plain (OpenSpec.ofChange blockMatchesReferenceSpec)) blockMatchesReferenceCard

/-- THE SECOND FORM's CARD OF 'zoneinfolaw19.BlockMatchesReference'. -/
def blockMatchesReferenceUptoCard : Claim7 := { stood := { row := blockMatchesReferenceUptoRow, standIns := [], harness := (true, "5ee21e3dca32e144ac31749f3db6adfd3bde3e72f7344f0ec818f6a38cad4e67"), looks := true }, kinds := [], alts := [], laidByText := true, laidKinds := [.data, .handle], laidTests := true, laidLooks := .later }
def BlockMatchesReferenceUptoCardSaid : Prop := Claim7.holds Tryz.pinned (.plain (OpenSpec.upto blockMatchesReferenceSpec)) blockMatchesReferenceUptoCard
end Rows
end Go.Proofs.YtbajdlgcajeldaaGreatDoor
