/-
  CONTRACTS OF zoneinforef02: Same, Valid, Fail, Take. Conditions: cursors within their input.
-/
import Derived.Test.YtbajdlgcajeldaaDoorCu
import Derived.Test.YtbajdlgcajeldaaDoorSame1
import Derived.Test.YtbajdlgcajeldaaDoorBase2
import Derived.Deep.RegionHeld3
import Derived.Deep.DeepCutAuto
import Derived.BigQuiet
namespace Go.Proofs.YtbajdlgcajeldaaDoor
open Go.ChangeShapes Go.WideShapes Go.ChangeAt Go.RowKit
set_option linter.unusedVariables false
namespace r2_
end r2_
end Go.Proofs.YtbajdlgcajeldaaDoor
