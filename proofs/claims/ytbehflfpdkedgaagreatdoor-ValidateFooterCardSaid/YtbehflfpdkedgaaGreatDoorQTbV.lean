/-
  Texts of mine in one file: TbV. Their conditions stand in the theorems.
-/
import Derived.Test.YtbehflfpdkedgaaGreatDoorRows
import Derived.Test.YtbehflfpdkedgaaGreatDoorQ03
import Derived.Lib.LaidTab
import Derived.Stop.LaidErr
import Derived.MakeChecks
import Derived.LaidHandle
namespace Go.Proofs.YtbehflfpdkedgaaGreatDoor
set_option linter.unusedVariables false
set_option linter.unusedSimpArgs false
set_option maxRecDepth 100000
set_option maxHeartbeats 16000000
open Go.ChangeShapes Go.WideShapes Go.ChangeAt Go.RowKit
theorem tv_of {W : World} (h : laidMetH Tryz.prog [("math/bits.deBruijn32tab", Rows.laid_math_bits_deBruijn32tab), ("math/bits.deBruijn64tab", Rows.laid_math_bits_deBruijn64tab), ("internal/strconv.uint64pow10", Rows.laid_internal_strconv_uint64pow10), ("unicode/utf8.acceptRanges", Rows.laid_unicode_utf8_acceptRanges), ("zoneinfo/civil.monthLengths", Rows.laid_zoneinfo_civil_monthLengths), ("strconv.ErrRange", Rows.laid_strconv_ErrRange), ("strconv.ErrSyntax", Rows.laid_strconv_ErrSyntax), ("unicode/utf8.first", Rows.laid_unicode_utf8_first)] W) : Tb W := by
 rw [MakeChecks.laidMetH_plain _ _ _ (by kernel_rfl)] at h
 have hg : Tryz.prog.globalNamed "zoneinfo/civil.monthLengths" = some 1 := by kernel_rfl
 have t := Lib.tabIs_of_head (k := .i64) (zs := [31, 28, 31, 30, 31, 30, 31, 31, 30, 31, 30, 31]) hg (by kernel_rfl) Tryz.underlying211 Tryz.underlying3 (by kernel_rfl) (by kernel_rfl) h.tail.tail.tail.tail
 have key : ∀ (i : Nat) (v : Int), ([31, 28, 31, 30, 31, 30, 31, 31, 30, 31, 30, 31] : List Int)[i]? = some v → W.cell? ⟨1, i, none⟩ = some (.int .i64 v) := by
  intro i v hi
  have hl := (List.getElem?_eq_some_iff.1 hi).1
  have := t.cell hg i hl
  rwa [List.getD_eq_getElem?_getD, hi] at this
 exact ⟨cell_lt (key 0 31 rfl), key⟩
end Go.Proofs.YtbehflfpdkedgaaGreatDoor
