/-
  CONTRACTS OF PACKAGE zoneinforef06 (the reference of layer 6).
-/
import Derived.Test.YtjeclakdgmjbjaaGreatDoorCvRef
import Derived.Test.YtjeclakdgmjbjaaGreatDoorRdMath
namespace Go.Proofs.YtjeclakdgmjbjaaGreatDoor
open Go.ChangeShapes Go.WideShapes Go.ChangeAt Go.RowKit
set_option linter.unusedVariables false
set_option maxRecDepth 100000
/-- a rule day as a value. -/
def vrd (K D M Wk Wd T : Int) : Value := .agg #[.int .i64 K, .int .i64 D, .int .i64 M, .int .i64 Wk, .int .i64 Wd, .int .i64 T]
theorem cells6 {w : World} {g : Nat} {a b c d e f : Value} (h : Bx w g [a, b, c, d, e, f]) : w.cell? ⟨g, 0, none⟩ = some a ∧ w.cell? ⟨g, 1, none⟩ = some b ∧ w.cell? ⟨g, 2, none⟩ = some c ∧ w.cell? ⟨g, 3, none⟩ = some d ∧ w.cell? ⟨g, 4, none⟩ = some e ∧ w.cell? ⟨g, 5, none⟩ = some f :=
  ⟨h.2.1 0 _ rfl, h.2.1 1 _ rfl, h.2.1 2 _ rfl, h.2.1 3 _ rfl, h.2.1 4 _ rfl, h.2.1 5 _ rfl⟩
theorem flip6 {P : Program} {f : FuncId} {a : Array Value} {w : World} {x : Ending} (h : Calls P f a w fun e w' => e = x ∧ w = w') : Calls P f a w fun e w' => e = x ∧ w' = w := h.mono fun _ _ h => ⟨h.1, h.2.symm⟩
namespace r6_
set_option maxHeartbeats 4000000 in
theorem Valid (K D M Wk Wd T : Int) (w : World) : Calls Tryz.prog 11 #[vrd K D M Wk Wd T] w fun e w' => e = .returned (.bool (decide (RdOk K D M Wk Wd T))) ∧ Below w.heap.size w w' := by
  unfold vrd
  go_enter Tryz.func11, Tryz.ntmps11
  go_wp2
  all_goals go_ret
  all_goals
    refine ⟨retb ?_, bl_new _ _⟩
    rw [Bool.eq_iff_iff, decide_eq_true_iff]
    unfold RdOk
    simp_all
    try omega
end r6_
end Go.Proofs.YtjeclakdgmjbjaaGreatDoor
