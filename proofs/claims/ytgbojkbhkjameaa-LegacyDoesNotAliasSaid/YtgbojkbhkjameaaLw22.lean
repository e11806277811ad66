/-
  WORDS FOR THE LAWS OF LAYER 22: the view is small where the block is. No program.
-/
import Derived.Test.YtgbojkbhkjameaaLaw22
namespace Go.Proofs.Ytgbojkbhkjameaa
open Go.ChangeShapes Go.WideShapes Go.ChangeAt Go.RowKit
set_option linter.unusedVariables false
theorem view_lens (b : Bk) : (viewB b).ti.length ≤ b.ti.length ∧ (viewB b).ix.length ≤ b.ix.length ∧ (viewB b).ty.length = b.ty.length ∧ (viewB b).ch.length = b.ch.length ∧ (viewB b).lp.length ≤ b.lp.length ∧ (viewB b).sd.length = b.sd.length ∧ (viewB b).ut.length = b.ut.length := by
  unfold viewB
  dsimp only
  refine ⟨List.length_filter_le _ _, ?_, swp_len _ _ _, rfl, List.length_filter_le _ _, swp_len _ _ _, swp_len _ _ _⟩
  rw [List.length_map]
  exact Nat.le_trans (List.length_filter_le _ _) (by rw [List.length_zip]; omega)
theorem view_small {w : World} {V : BkS} {b : Bk} (h : IsBk w V (viewB b)) (hf : fewB b = true) : V.small := by
  obtain ⟨l0, l1, l2, l3, l4, l5, l6⟩ := h.lens
  obtain ⟨v0, v1, v2, v3, v4, v5, v6⟩ := view_lens b
  unfold fewB at hf
  simp only [Bool.and_eq_true, decide_eq_true_eq] at hf
  obtain ⟨⟨⟨⟨⟨⟨a0, a1⟩, a2⟩, a3⟩, a4⟩, a5⟩, a6⟩ := hf
  exact ⟨by omega, by omega, by omega, by omega, by omega, by omega, by omega⟩
theorem view_wide {b : Bk} {four : Bool} (h : BOk b four 8) (hb : b.ok) : BOk (viewB b) four 8 := (view_ok h hb).wide (view_bk h hb)
theorem slB_v : BOk slB true 8 := (vB_iff _ _ _).1 (by decide)
theorem slB_view : viewB slB = slB := view_slim
theorem all_step {α : Type} {l : List α} {m : Nat} {x : α} (p : α → Bool) (hx : l[m]? = some x) : (l.take (m + 1)).all p = ((l.take m).all p && p x) := by
  rw [List.take_add_one, hx, List.all_append]
  simp
end Go.Proofs.Ytgbojkbhkjameaa
