/-
  THE LISTED TABLES AS THE WALKS WANT THEM. UNDER WAY (scaffold).
-/
import Derived.Test.YtdhogpcoegfopaaGreatDoorCivil
import Derived.Lib.LaidTab
import Derived.MakeChecks
import Derived.LaidHandle
namespace Go.Proofs.YtdhogpcoegfopaaGreatDoor
open Go.ChangeShapes Go.WideShapes Go.ChangeAt Go.RowKit
set_option linter.unusedVariables false
theorem tb_of {W : World} (h : laidMetH Tryz.prog [("zoneinfo/civil.monthLengths", Rows.laid_zoneinfo_civil_monthLengths)] W) : Tb W := by
  rw [MakeChecks.laidMetH_plain _ _ _ (by kernel_rfl)] at h
  have hg : Tryz.prog.globalNamed "zoneinfo/civil.monthLengths" = some 0 := by kernel_rfl
  have t := Lib.tabIs_of_head (k := .i64) (zs := [31, 28, 31, 30, 31, 30, 31, 31, 30, 31, 30, 31]) hg (by kernel_rfl) Tryz.underlying124 Tryz.underlying3 (by kernel_rfl) (by kernel_rfl) h
  have key : ∀ (i : Nat) (v : Int), ([31, 28, 31, 30, 31, 30, 31, 31, 30, 31, 30, 31] : List Int)[i]? = some v → W.cell? ⟨0, i, none⟩ = some (.int .i64 v) := by
    intro i v hi
    have hl := (List.getElem?_eq_some_iff.1 hi).1
    have := t.cell hg i hl
    rwa [List.getD_eq_getElem?_getD, hi] at this
  exact ⟨cell_lt (key 0 31 rfl), key⟩
end Go.Proofs.YtdhogpcoegfopaaGreatDoor
