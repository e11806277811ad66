/-
  CONTRACTS OF PACKAGE desigs: isAllowed, Bad, Valid, Name. Conditions: a slice of at most 1,000,000 bytes that can be read, its length at most its capacity; of Name: a valid table.
-/
import Derived.Test.YtgbojkbhkjameaaDsC
namespace Go.Proofs.Ytgbojkbhkjameaa
open Go.ChangeShapes Go.WideShapes Go.ChangeAt Go.RowKit
set_option linter.unusedVariables false
set_option maxRecDepth 100000
namespace ds_
end ds_
end Go.Proofs.Ytgbojkbhkjameaa
