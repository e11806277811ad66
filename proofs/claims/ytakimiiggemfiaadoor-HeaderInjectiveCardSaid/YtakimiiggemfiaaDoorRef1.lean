/-
  CONTRACTS OF PACKAGE zoneinforef01 (the reference of layer 1) for widths 1, 4 and 8.
-/
import Derived.Test.YtakimiiggemfiaaDoorBe
import Derived.Test.YtakimiiggemfiaaDoorSame1
namespace Go.Proofs.YtakimiiggemfiaaDoor
open Go.ChangeShapes Go.WideShapes Go.ChangeAt Go.RowKit
set_option linter.unusedVariables false
namespace r1_
def halfV (n : Int) : Int := if n = 1 then 128 else if n = 4 then 2147483648 else 9223372036854775808
theorem halfV_bd (k : Int) (h : k = 1 ∨ k = 4 ∨ k = 8) : 128 ≤ halfV k ∧ halfV k ≤ 9223372036854775808 := by
  rcases h with rfl | rfl | rfl <;> simp [halfV]
end r1_
end Go.Proofs.YtakimiiggemfiaaDoor
