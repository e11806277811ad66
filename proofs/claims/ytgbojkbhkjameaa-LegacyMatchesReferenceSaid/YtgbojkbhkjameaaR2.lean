/-
  CONTRACTS OF zoneinforef02: Same, Valid, Fail, Take. Conditions: cursors within their input.
-/
import Derived.Test.YtgbojkbhkjameaaCu
import Derived.Test.YtgbojkbhkjameaaSame1
import Derived.Test.YtgbojkbhkjameaaBase2
import Derived.Deep.RegionHeld3
import Derived.Deep.DeepCutAuto
import Derived.BigQuiet
namespace Go.Proofs.Ytgbojkbhkjameaa
open Go.ChangeShapes Go.WideShapes Go.ChangeAt Go.RowKit
set_option linter.unusedVariables false
namespace r2_
end r2_
end Go.Proofs.Ytgbojkbhkjameaa
