/-
  CONTRACTS OF PACKAGE header, of the code that landed at fefc8ef: the table of version bytes, Consistent, the pointers to the counts. No conditions.
-/
import Derived.Test.YtakimiiggemfiaaDoorHdMath
import Derived.Test.YtakimiiggemfiaaDoorExp
import Derived.Test.YtakimiiggemfiaaDoorApz
import Derived.Test.YtakimiiggemfiaaDoorBut
import Derived.Test.YtakimiiggemfiaaDoorRows
import Derived.Lib.LaidTab
import Derived.MakeChecks
import Derived.LaidHandle
import Derived.BigRegion
namespace Go.Proofs.YtakimiiggemfiaaDoor
open Go.ChangeShapes Go.WideShapes Go.ChangeAt Go.RowKit
set_option linter.unusedVariables false
/-- the table of version bytes. -/
def Th (w : World) : Prop := 0 < w.heap.size ∧ ∀ (i : Nat) (v : Int), ([0, 50, 51, 52] : List Int)[i]? = some v → w.cell? ⟨0, i, none⟩ = some (.int .u8 v)
theorem Th.below {w w' : World} (h : Th w) (hb : Below w.heap.size w w') : Th w' := ⟨Nat.lt_of_lt_of_le h.1 hb.size, fun i v hi => cellE hb (h.2 i v hi)⟩
theorem Th.cells {w : World} (h : Th w) : w.cell? ⟨0, 0, none⟩ = some (.int .u8 0) ∧ w.cell? ⟨0, 1, none⟩ = some (.int .u8 50) ∧ w.cell? ⟨0, 2, none⟩ = some (.int .u8 51) ∧ w.cell? ⟨0, 3, none⟩ = some (.int .u8 52) :=
  ⟨h.2 0 0 rfl, h.2 1 50 rfl, h.2 2 51 rfl, h.2 3 52 rfl⟩
theorem elU8h : ElT Tryd.prog 25 5 (.int .u8 0) 1 := ⟨Tryd.underlying25, by kernel_rfl, rfl⟩
namespace hd_
/-- the addresses of a header's counts. -/
def ptrs (g : Nat) : Value := .agg #[.pointer (some ⟨g, 1, none⟩), .pointer (some ⟨g, 2, none⟩), .pointer (some ⟨g, 3, none⟩), .pointer (some ⟨g, 4, none⟩), .pointer (some ⟨g, 5, none⟩), .pointer (some ⟨g, 6, none⟩)]
theorem counts (g : Nat) (w : World) : Calls Tryd.prog 14 #[.pointer (some ⟨g, 0, none⟩)] w fun e w' => e = .returned (ptrs g) ∧ Below w.heap.size w w' := by
  go_enter Tryd.func14, Tryd.ntmps14
  go_wp2
  go_region
  all_goals go_wp2
  all_goals exact bodyPost_ret (v := ptrs g) (by simp [results, Tryd.results14, go_sem, ptrs]) rfl ⟨rfl, by repeat (first | exact bl_refl _ | refine bl_set ?_ (by omega) _ | refine bl_drew ?_ | refine bl_alloc ?_ _)⟩
set_option maxHeartbeats 1000000 in
theorem Consistent (h : Hd) (w : World) (hT : Th w) : Calls Tryd.prog 11 #[h.val] w fun e w' => e = .returned (.bool h.con) ∧ Below w.heap.size w w' := by
  obtain ⟨v, a, b, c, d, x, y⟩ := h
  have hb := bl_new w (.cells #[.int .i64 v, .int .u32 a, .int .u32 b, .int .u32 c, .int .u32 d, .int .u32 x, .int .u32 y] 24)
  obtain ⟨r, hr⟩ : ∃ r, r = (Hd.con ⟨v, a, b, c, d, x, y⟩) := ⟨_, rfl⟩
  rw [← hr]
  unfold Hd.con at hr
  simp only at hr
  have hb := hide hb
  clear hT
  by_cases h1 : x = 0
  · have h2 : r = false := by rw [hr]; simp [h1]
    subst h1 h2
    clear hr
    go_enter Tryd.func11, Tryd.ntmps11
    go_wp2
    go_ret
    exact ⟨rfl, hb.out⟩
  have e1 : (x != 0) = true := by simpa using h1
  by_cases h2 : y = 0
  · have h3 : r = false := by rw [hr]; simp [h2]
    subst h2 h3
    clear hr
    go_enter Tryd.func11, Tryd.ntmps11
    go_wp2
    go_ret
    exact ⟨rfl, hb.out⟩
  have e2 : (y != 0) = true := by simpa using h2
  have hr : r = ((a == 0 || a == x) && (b == 0 || b == x)) := by
    rw [hr, Bool.eq_iff_iff]
    simp [h1, h2]
  have hr := hide hr
  rcases h3 : (a == 0)
  all_goals rcases h4 : (a == x)
  all_goals rcases h5 : (b == 0)
  all_goals
    go_enter Tryd.func11, Tryd.ntmps11
    go_wp2
    go_ret
    exact ⟨retb (by rw [hr.out]; simp [h3, h4, h5]), hb.out⟩
end hd_
theorem th_of {W : World} (h : laidMetH Tryd.prog [("zoneinfo/header.versionBytes", Rows.laid_zoneinfo_header_versionBytes)] W) : Th W := by
  rw [MakeChecks.laidMetH_plain _ _ _ (by kernel_rfl)] at h
  have hg : Tryd.prog.globalNamed "zoneinfo/header.versionBytes" = some 0 := by kernel_rfl
  have t := Lib.tabIs_of_head (k := .u8) (zs := [0, 50, 51, 52]) hg (by kernel_rfl) Tryd.underlying40 Tryd.underlying5 (by kernel_rfl) (by kernel_rfl) h
  have key : ∀ (i : Nat) (v : Int), ([0, 50, 51, 52] : List Int)[i]? = some v → W.cell? ⟨0, i, none⟩ = some (.int .u8 v) := by
    intro i v hi
    have hl := (List.getElem?_eq_some_iff.1 hi).1
    have := t.cell hg i hl
    rwa [List.getD_eq_getElem?_getD, hi] at this
  exact ⟨cell_lt (key 0 0 rfl), key⟩
end Go.Proofs.YtakimiiggemfiaaDoor
