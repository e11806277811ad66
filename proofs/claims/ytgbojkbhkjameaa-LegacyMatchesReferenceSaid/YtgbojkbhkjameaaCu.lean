/-
  A CURSOR's VALUE; cursor.New, of the code that landed at d4e5a45. No conditions.
-/
import Derived.Test.YtgbojkbhkjameaaRows
import Derived.Test.YtgbojkbhkjameaaBase2
namespace Go.Proofs.Ytgbojkbhkjameaa
open Go.ChangeShapes Go.WideShapes Go.ChangeAt Go.RowKit
set_option linter.unusedVariables false
/-- a cursor's value. -/
@[reducible] def cu (A : Option Addr) (n c : Nat) (p e a : Int) : Value := .agg #[.slice A n c, .int .i64 p, .int .i64 e, .int .i64 a]
namespace cu_
end cu_
end Go.Proofs.Ytgbojkbhkjameaa
