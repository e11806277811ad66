/-
  DERIVED. GIVEN WITH THE SEED: THE CARDS: each row of YtjjmkbofddbnnaaDoorRows.lean that lists a variable, with what it lists TIED to the program's text (the seventh form; the later family's looks); each row that meets fmt, with fmt's text TOLD by the authors' own Lean function (tested against real Go, not proved from fmt's source: count such statements apart). THE CARD IS WHAT COUNTS. Prove the row's statement (the work); the ties are given (YtjjmkbofddbnnaaDoorTie.lean); close each card by the builder's one call (the guide's Derived/Test/ToyasCard.lean, 'card_holds'). Laid BY PROGRAM, IN A SANDBOX (cutbox-door.mjs). By AI agents, Wed Nov 11 2026. No macro, syntax, notation, axiom, sorry.
-/
import Derived.Test.YtjjmkbofddbnnaaDoorRows
import GoSem.ClaimSeven
namespace Go.Proofs.YtjjmkbofddbnnaaDoor
namespace Rows

/-- THE TIED CARD OF 'zoneinfolaw09.PosixtzAcceptsExactly'. -/
def posixtzAcceptsExactlyCard : Claim7 := { stood := { row := posixtzAcceptsExactlyRow, standIns := [], harness := (true, "189ce7fef4a4bdf1b955e61e2749cb9295635c35310b65acbccfddd949456970"), looks := true }, kinds := [], alts := [], laidByText := true, laidKinds := [.data, .data, .data, .data, .sentinel, .sentinel, .pinned], laidTests := true, laidLooks := .later }
def PosixtzAcceptsExactlyCardSaid : Prop := Claim7.holds Tryd.pinned (.plain (OpenSpec.ofChange posixtzAcceptsExactlySpec)) posixtzAcceptsExactlyCard

/-- THE SECOND FORM's CARD OF 'zoneinfolaw09.PosixtzAcceptsExactly'. -/
def posixtzAcceptsExactlyUptoCard : Claim7 := { stood := { row := posixtzAcceptsExactlyUptoRow, standIns := [], harness := (true, "189ce7fef4a4bdf1b955e61e2749cb9295635c35310b65acbccfddd949456970"), looks := true }, kinds := [], alts := [], laidByText := true, laidKinds := [.data, .data, .data, .data, .sentinel, .sentinel, .pinned], laidTests := true, laidLooks := .later }
def PosixtzAcceptsExactlyUptoCardSaid : Prop := Claim7.holds Tryd.pinned (.plain (OpenSpec.upto posixtzAcceptsExactlySpec)) posixtzAcceptsExactlyUptoCard
end Rows
end Go.Proofs.YtjjmkbofddbnnaaDoor
