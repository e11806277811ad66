/-
  CONTRACT OF zoneinforef13.Consistent. No conditions.
-/
import Derived.Test.YtakimiiggemfiaaDoorHdMath
import Derived.Test.YtakimiiggemfiaaDoorCu
namespace Go.Proofs.YtakimiiggemfiaaDoor
open Go.ChangeShapes Go.WideShapes Go.ChangeAt Go.RowKit
set_option linter.unusedVariables false
namespace r13_
/-- the reference's. -/
theorem Consistent (h : Hd) (w : World) : Calls Tryd.prog 13 #[h.val] w fun e w' => e = .returned (.bool h.con) ∧ Below w.heap.size w w' := by
  obtain ⟨v, a, b, c, d, x, y⟩ := h
  have hb := bl_new w (.cells #[.int .i64 v, .int .u32 a, .int .u32 b, .int .u32 c, .int .u32 d, .int .u32 x, .int .u32 y] 24)
  obtain ⟨r, hr⟩ : ∃ r, r = (Hd.con ⟨v, a, b, c, d, x, y⟩) := ⟨_, rfl⟩
  rw [← hr]
  unfold Hd.con at hr
  simp only at hr
  have hb := hide hb
  by_cases h1 : x = 0
  · have h2 : r = false := by rw [hr]; simp [h1]
    subst h1 h2
    clear hr
    go_enter Tryd.func13, Tryd.ntmps13
    go_wp2
    go_ret
    exact ⟨rfl, hb.out⟩
  have e1 : (x == 0) = false := by simpa using h1
  by_cases h2 : y = 0
  · have h3 : r = false := by rw [hr]; simp [h2]
    subst h2 h3
    clear hr
    go_enter Tryd.func13, Tryd.ntmps13
    go_wp2
    go_ret
    exact ⟨rfl, hb.out⟩
  have e2 : (y == 0) = false := by simpa using h2
  have hr : r = ((a == 0 || a == x) && (b == 0 || b == x)) := by
    rw [hr, Bool.eq_iff_iff]
    simp [h1, h2]
  have hr := hide hr
  rcases h3 : (a == 0)
  all_goals rcases h4 : (a == x)
  all_goals rcases h5 : (b == 0)
  all_goals
    go_enter Tryd.func13, Tryd.ntmps13
    go_wp2
    go_ret
    exact ⟨retb (by rw [hr.out]; simp [h3, h4, h5]), hb.out⟩
end r13_
end Go.Proofs.YtakimiiggemfiaaDoor
