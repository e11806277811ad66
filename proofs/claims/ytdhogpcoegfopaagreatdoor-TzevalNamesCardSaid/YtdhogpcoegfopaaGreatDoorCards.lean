/-
  DERIVED. GIVEN WITH THE SEED: THE CARDS: each row of YtdhogpcoegfopaaGreatDoorRows.lean that lists a variable, with what it lists TIED to the program's text (the seventh form; the later family's looks); each row that meets fmt, with fmt's text TOLD by the authors' own Lean function (tested against real Go, not proved from fmt's source: count such statements apart). THE CARD IS WHAT COUNTS. Prove the row's statement (the work); the ties are given (YtdhogpcoegfopaaGreatDoorTie.lean); close each card by the builder's one call (the guide's Derived/Test/ToyasCard.lean, 'card_holds'). Laid BY PROGRAM, IN A SANDBOX (cutbox-door.mjs). By AI agents, Wed Nov 11 2026. No macro, syntax, notation, axiom, sorry.
-/
import Derived.Test.YtdhogpcoegfopaaGreatDoorRows
import GoSem.ClaimSeven
namespace Go.Proofs.YtdhogpcoegfopaaGreatDoor
namespace Rows

/-- THE TIED CARD OF 'zoneinfolaw11.TzevalMatchesChanges'. -/
def tzevalMatchesChangesCard : Claim7 := { stood := { row := tzevalMatchesChangesRow, standIns := [], harness := (true, "ec24d2e069fd1dbcd94f01cf5985652d3e28b84669051ee262ffd700599f8123"), looks := true }, kinds := [], alts := [], laidByText := true, laidKinds := [.data, .data, .data, .data, .data, .sentinel, .sentinel, .pinned], laidTests := true, laidLooks := .later }
def TzevalMatchesChangesCardSaid : Prop := Claim7.holds Tryz.pinned (.plain (OpenSpec.ofChange tzevalMatchesChangesSpec)) tzevalMatchesChangesCard

/-- THE TIED CARD OF 'zoneinfolaw11.TzevalNextIsFirstChange'. -/
def tzevalNextIsFirstChangeCard : Claim7 := { stood := { row := tzevalNextIsFirstChangeRow, standIns := [], harness := (true, "ec24d2e069fd1dbcd94f01cf5985652d3e28b84669051ee262ffd700599f8123"), looks := true }, kinds := [], alts := [], laidByText := true, laidKinds := [.data, .data, .data, .data, .data, .sentinel, .sentinel, .pinned], laidTests := true, laidLooks := .later }
def TzevalNextIsFirstChangeCardSaid : Prop := Claim7.holds Tryz.pinned (.plain (OpenSpec.ofChange tzevalNextIsFirstChangeSpec)) tzevalNextIsFirstChangeCard

/-- THE TIED CARD OF 'zoneinfolaw11.TzevalCycle'. -/
def tzevalCycleCard : Claim7 := { stood := { row := tzevalCycleRow, standIns := [], harness := (true, "ec24d2e069fd1dbcd94f01cf5985652d3e28b84669051ee262ffd700599f8123"), looks := true }, kinds := [], alts := [], laidByText := true, laidKinds := [.data, .data, .data, .data, .data, .sentinel, .sentinel, .pinned], laidTests := true, laidLooks := .later }
def TzevalCycleCardSaid : Prop := Claim7.holds Tryz.pinned (.plain (OpenSpec.ofChange tzevalCycleSpec)) tzevalCycleCard

/-- THE TIED CARD OF 'zoneinfolaw11.TzevalWithoutDst'. -/
def tzevalWithoutDstCard : Claim7 := { stood := { row := tzevalWithoutDstRow, standIns := [], harness := (true, "ec24d2e069fd1dbcd94f01cf5985652d3e28b84669051ee262ffd700599f8123"), looks := true }, kinds := [], alts := [], laidByText := true, laidKinds := [.data, .data, .data, .data, .data, .sentinel, .sentinel, .pinned], laidTests := true, laidLooks := .later }
def TzevalWithoutDstCardSaid : Prop := Claim7.holds Tryz.pinned (.plain (OpenSpec.ofChange tzevalWithoutDstSpec)) tzevalWithoutDstCard

/-- THE TIED CARD OF 'zoneinfolaw11.TzevalNames'. -/
def tzevalNamesCard : Claim7 := { stood := { row := tzevalNamesRow, standIns := [], harness := (true, "ec24d2e069fd1dbcd94f01cf5985652d3e28b84669051ee262ffd700599f8123"), looks := true }, kinds := [], alts := [], laidByText := true, laidKinds := [.data, .data, .data, .data, .data, .sentinel, .sentinel, .pinned], laidTests := true, laidLooks := .later }
def TzevalNamesCardSaid : Prop := Claim7.holds Tryz.pinned (.plain (OpenSpec.ofChange tzevalNamesSpec)) tzevalNamesCard

/-- THE SECOND FORM's CARD OF 'zoneinfolaw11.TzevalMatchesChanges'. -/
def tzevalMatchesChangesUptoCard : Claim7 := { stood := { row := tzevalMatchesChangesUptoRow, standIns := [], harness := (true, "ec24d2e069fd1dbcd94f01cf5985652d3e28b84669051ee262ffd700599f8123"), looks := true }, kinds := [], alts := [], laidByText := true, laidKinds := [.data, .data, .data, .data, .data, .sentinel, .sentinel, .pinned], laidTests := true, laidLooks := .later }
def TzevalMatchesChangesUptoCardSaid : Prop := Claim7.holds Tryz.pinned (.plain (OpenSpec.upto tzevalMatchesChangesSpec)) tzevalMatchesChangesUptoCard

/-- THE SECOND FORM's CARD OF 'zoneinfolaw11.TzevalNextIsFirstChange'. -/
def tzevalNextIsFirstChangeUptoCard : Claim7 := { stood := { row := tzevalNextIsFirstChangeUptoRow, standIns := [], harness := (true, "ec24d2e069fd1dbcd94f01cf5985652d3e28b84669051ee262ffd700599f8123"), looks := true }, kinds := [], alts := [], laidByText := true, laidKinds := [.data, .data, .data, .data, .data, .sentinel, .sentinel, .pinned], laidTests := true, laidLooks := .later }
def TzevalNextIsFirstChangeUptoCardSaid : Prop := Claim7.holds Tryz.pinned (.plain (OpenSpec.upto tzevalNextIsFirstChangeSpec)) tzevalNextIsFirstChangeUptoCard

/-- THE SECOND FORM's CARD OF 'zoneinfolaw11.TzevalCycle'. -/
def tzevalCycleUptoCard : Claim7 := { stood := { row := tzevalCycleUptoRow, standIns := [], harness := (true, "ec24d2e069fd1dbcd94f01cf5985652d3e28b84669051ee262ffd700599f8123"), looks := true }, kinds := [], alts := [], laidByText := true, laidKinds := [.data, .data, .data, .data, .data, .sentinel, .sentinel, .pinned], laidTests := true, laidLooks := .later }
def TzevalCycleUptoCardSaid : Prop := Claim7.holds Tryz.pinned (.plain (OpenSpec.upto tzevalCycleSpec)) tzevalCycleUptoCard

/-- THE SECOND FORM's CARD OF 'zoneinfolaw11.TzevalWithoutDst'. -/
def tzevalWithoutDstUptoCard : Claim7 := { stood := { row := tzevalWithoutDstUptoRow, standIns := [], harness := (true, "ec24d2e069fd1dbcd94f01cf5985652d3e28b84669051ee262ffd700599f8123"), looks := true }, kinds := [], alts := [], laidByText := true, laidKinds := [.data, .data, .data, .data, .data, .sentinel, .sentinel, .pinned], laidTests := true, laidLooks := .later }
def TzevalWithoutDstUptoCardSaid : Prop := Claim7.holds Tryz.pinned (.plain (OpenSpec.upto tzevalWithoutDstSpec)) tzevalWithoutDstUptoCard

/-- THE SECOND FORM's CARD OF 'zoneinfolaw11.TzevalNames'. -/
def tzevalNamesUptoCard : Claim7 := { stood := { row := tzevalNamesUptoRow, standIns := [], harness := (true, "ec24d2e069fd1dbcd94f01cf5985652d3e28b84669051ee262ffd700599f8123"), looks := true }, kinds := [], alts := [], laidByText := true, laidKinds := [.data, .data, .data, .data, .data, .sentinel, .sentinel, .pinned], laidTests := true, laidLooks := .later }
def TzevalNamesUptoCardSaid : Prop := Claim7.holds Tryz.pinned (.plain (OpenSpec.upto tzevalNamesSpec)) tzevalNamesUptoCard
end Rows
end Go.Proofs.YtdhogpcoegfopaaGreatDoor
