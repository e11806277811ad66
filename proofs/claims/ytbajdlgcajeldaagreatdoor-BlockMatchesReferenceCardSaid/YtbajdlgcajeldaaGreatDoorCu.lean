/-
  A CURSOR's VALUE; cursor.New, of the code that landed at d4e5a45. No conditions.
-/
import Derived.Test.YtbajdlgcajeldaaGreatDoorRows
import Derived.Test.YtbajdlgcajeldaaGreatDoorBase2
namespace Go.Proofs.YtbajdlgcajeldaaGreatDoor
open Go.ChangeShapes Go.WideShapes Go.ChangeAt Go.RowKit
set_option linter.unusedVariables false
/-- a cursor's value. -/
@[reducible] def cu (A : Option Addr) (n c : Nat) (p e a : Int) : Value := .agg #[.slice A n c, .int .i64 p, .int .i64 e, .int .i64 a]
namespace cu_
theorem New (A : Option Addr) (n c : Nat) (w : World) : Calls Tryz.prog 19 #[.slice A n c] w fun e w' => e = .returned (cu A n c 0 0 0) ∧ Below w.heap.size w w' := by
  go_enter Tryz.func19, Tryz.ntmps19
  go_wp2
  exact bodyPost_ret (v := cu A n c 0 0 0) (by simp [results, Tryz.results19, go_sem]) rfl ⟨rfl, bl_new _ _⟩
end cu_
end Go.Proofs.YtbajdlgcajeldaaGreatDoor
