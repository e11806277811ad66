/-
  DERIVED. GIVEN WITH THE SEED: THE CARDS: each row of YtbajdlgcajeldaaDoorRows.lean that lists a variable, with what it lists TIED to the program's text (the seventh form; the later family's looks); each row that meets fmt, with fmt's text TOLD by the authors' own Lean function (tested against real Go, not proved from fmt's source: count such statements apart). THE CARD IS WHAT COUNTS. Prove the row's statement (the work); the ties are given (YtbajdlgcajeldaaDoorTie.lean); close each card by the builder's one call (the guide's Derived/Test/ToyasCard.lean, 'card_holds'). Laid BY PROGRAM, IN A SANDBOX (cutbox-door.mjs). By AI agents, Wed Nov 11 2026. No macro, syntax, notation, axiom, sorry.
-/
import Derived.Test.YtbajdlgcajeldaaDoorRows
import GoSem.ClaimSeven
namespace Go.Proofs.YtbajdlgcajeldaaDoor
namespace Rows

/-- THE TIED CARD OF 'zoneinfolaw19.BlockRoundTrip'. -/
def blockRoundTripCard : Claim7 := { stood := { row := blockRoundTripRow, standIns := [], harness := (true, "acaaffb49f7bbae6346c73b97cce54d1a3cbf9073770962d137400ad682b2371"), looks := true }, kinds := [], alts := [], laidByText := true, laidKinds := [.data, .handle], laidTests := true, laidLooks := .later }
def BlockRoundTripCardSaid : Prop := Claim7.holds Tryd.pinned (.plain (OpenSpec.ofChange blockRoundTripSpec)) blockRoundTripCard

/-- THE TIED CARD OF 'zoneinfolaw19.BlockIsCanonical'. -/
def blockIsCanonicalCard : Claim7 := { stood := { row := blockIsCanonicalRow, standIns := [], harness := (true, "acaaffb49f7bbae6346c73b97cce54d1a3cbf9073770962d137400ad682b2371"), looks := true }, kinds := [], alts := [], laidByText := true, laidKinds := [.data, .handle], laidTests := true, laidLooks := .later }
def BlockIsCanonicalCardSaid : Prop := Claim7.holds Tryd.pinned (.plain (OpenSpec.ofChange blockIsCanonicalSpec)) blockIsCanonicalCard

/-- THE TIED CARD OF 'zoneinfolaw19.BlockHugeCounts'. -/
def blockHugeCountsCard : Claim7 := { stood := { row := blockHugeCountsRow, standIns := [], harness := (true, "acaaffb49f7bbae6346c73b97cce54d1a3cbf9073770962d137400ad682b2371"), looks := true }, kinds := [], alts := [], laidByText := true, laidKinds := [.data, .handle], laidTests := true, laidLooks := .later }
def BlockHugeCountsCardSaid : Prop := Claim7.holds Tryd.pinned (.plain (OpenSpec.ofChange blockHugeCountsSpec)) blockHugeCountsCard

/-- THE TIED CARD OF 'zoneinfolaw19.BlockDoesNotAlias'. -/
def blockDoesNotAliasCard : Claim7 := { stood := { row := blockDoesNotAliasRow, standIns := [], harness := (true, "acaaffb49f7bbae6346c73b97cce54d1a3cbf9073770962d137400ad682b2371"), looks := true }, kinds := [], alts := [], laidByText := true, laidKinds := [.data, .handle], laidTests := true, laidLooks := .later }
def BlockDoesNotAliasCardSaid : Prop := Claim7.holds Tryd.pinned (.plain (OpenSpec.ofChange blockDoesNotAliasSpec)) blockDoesNotAliasCard

/-- THE SECOND FORM's CARD OF 'zoneinfolaw19.BlockRoundTrip'. -/
def blockRoundTripUptoCard : Claim7 := { stood := { row := blockRoundTripUptoRow, standIns := [], harness := (true, "acaaffb49f7bbae6346c73b97cce54d1a3cbf9073770962d137400ad682b2371"), looks := true }, kinds := [], alts := [], laidByText := true, laidKinds := [.data, .handle], laidTests := true, laidLooks := .later }
def BlockRoundTripUptoCardSaid : Prop := Claim7.holds Tryd.pinned (.plain (OpenSpec.upto blockRoundTripSpec)) blockRoundTripUptoCard

/-- THE SECOND FORM's CARD OF 'zoneinfolaw19.BlockIsCanonical'. -/
def blockIsCanonicalUptoCard : Claim7 := { stood := { row := blockIsCanonicalUptoRow, standIns := [], harness := (true, "acaaffb49f7bbae6346c73b97cce54d1a3cbf9073770962d137400ad682b2371"), looks := true }, kinds := [], alts := [], laidByText := true, laidKinds := [.data, .handle], laidTests := true, laidLooks := .later }
def BlockIsCanonicalUptoCardSaid : Prop := Claim7.holds Tryd.pinned (.plain (OpenSpec.upto blockIsCanonicalSpec)) blockIsCanonicalUptoCard

/-- THE SECOND FORM's CARD OF 'zoneinfolaw19.BlockHugeCounts'. -/
def blockHugeCountsUptoCard : Claim7 := { stood := { row := blockHugeCountsUptoRow, standIns := [], harness := (true, "acaaffb49f7bbae6346c73b97cce54d1a3cbf9073770962d137400ad682b2371"), looks := true }, kinds := [], alts := [], laidByText := true, laidKinds := [.data, .handle], laidTests := true, laidLooks := .later }
def BlockHugeCountsUptoCardSaid : Prop := Claim7.holds Tryd.pinned (.plain (OpenSpec.upto blockHugeCountsSpec)) blockHugeCountsUptoCard

/-- THE SECOND FORM's CARD OF 'zoneinfolaw19.BlockDoesNotAlias'. -/
def blockDoesNotAliasUptoCard : Claim7 := { stood := { row := blockDoesNotAliasUptoRow, standIns := [], harness := (true, "acaaffb49f7bbae6346c73b97cce54d1a3cbf9073770962d137400ad682b2371"), looks := true }, kinds := [], alts := [], laidByText := true, laidKinds := [.data, .handle], laidTests := true, laidLooks := .later }
def BlockDoesNotAliasUptoCardSaid : Prop := Claim7.holds Tryd.pinned (.plain (OpenSpec.upto blockDoesNotAliasSpec)) blockDoesNotAliasUptoCard
end Rows
end Go.Proofs.YtbajdlgcajeldaaDoor
