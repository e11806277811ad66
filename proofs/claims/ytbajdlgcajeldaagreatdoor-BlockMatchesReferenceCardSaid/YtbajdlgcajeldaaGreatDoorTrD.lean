/-
  CONTRACTS OF PACKAGE transitions, of the code that landed at 4625a2c: the iterator over the pairs of neighbors; Descent. Condition: at most 1,000,000 times.
-/
import Derived.Test.YtbajdlgcajeldaaGreatDoorBlM
import Derived.Test.YtbajdlgcajeldaaGreatDoorBase2
import Derived.Test.YtbajdlgcajeldaaGreatDoorRow4
import Derived.Test.YtbajdlgcajeldaaGreatDoorRows
import Derived.Deep.RegionHeld3
import Derived.Deep.DeepCutAuto
namespace Go.Proofs.YtbajdlgcajeldaaGreatDoor
open Go.ChangeShapes Go.WideShapes Go.ChangeAt Go.RowKit Go.Shelf
set_option linter.unusedVariables false
set_option maxRecDepth 100000
attribute [local go_sem] Oper.semAt_some
namespace tr_
end tr_
end Go.Proofs.YtbajdlgcajeldaaGreatDoor
