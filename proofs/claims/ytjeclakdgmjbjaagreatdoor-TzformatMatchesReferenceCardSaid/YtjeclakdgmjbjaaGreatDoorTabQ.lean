/-
  THE TABLE OF POWERS OF TEN out of the seven tables that a row of this seat lists. No conditions.
-/
import Derived.Test.YtjeclakdgmjbjaaGreatDoorTabP
import Derived.Test.YtjeclakdgmjbjaaGreatDoorRows
namespace Go.Proofs.YtjeclakdgmjbjaaGreatDoor
open Go.ChangeShapes Go.WideShapes Go.ChangeAt Go.RowKit
set_option linter.unusedVariables false
theorem tq_of {W : World} (h : laidMetH Tryz.prog [("math/bits.deBruijn32tab", Rows.laid_math_bits_deBruijn32tab), ("math/bits.deBruijn64tab", Rows.laid_math_bits_deBruijn64tab), ("internal/strconv.uint64pow10", Rows.laid_internal_strconv_uint64pow10), ("unicode/utf8.acceptRanges", Rows.laid_unicode_utf8_acceptRanges), ("strconv.ErrRange", Rows.laid_strconv_ErrRange), ("strconv.ErrSyntax", Rows.laid_strconv_ErrSyntax), ("unicode/utf8.first", Rows.laid_unicode_utf8_first)] W) : Tp W := by
  rw [MakeChecks.laidMetH_plain _ _ _ (by kernel_rfl)] at h
  have hg : Tryz.prog.globalNamed "internal/strconv.uint64pow10" = some 0 := by kernel_rfl
  exact Lib.tabIs_of_head (k := .u64) (zs := Lib.pow10Tab) hg (by kernel_rfl) Tryz.underlying136 Tryz.underlying121 (by kernel_rfl) (by kernel_rfl) h.tail.tail
end Go.Proofs.YtjeclakdgmjbjaaGreatDoor
