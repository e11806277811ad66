/-
  CONTRACTS OF PACKAGE bigendian: what each function returns, for widths 1, 4 and 8, and that it writes nothing that was there.
-/
import Derived.Test.YtgbojkbhkjameaaRows
import Derived.Test.YtgbojkbhkjameaaBase2
namespace Go.Proofs.Ytgbojkbhkjameaa
open Go.ChangeShapes Go.WideShapes Go.ChangeAt Go.RowKit
set_option linter.unusedVariables false
set_option maxRecDepth 100000

theorem elU8 : ElT Try.prog 23 5 (.int .u8 0) 1 := ⟨Try.underlying23, by kernel_rfl, rfl⟩

namespace be_
end be_
end Go.Proofs.Ytgbojkbhkjameaa
