/-
  WORDS FOR ITERATORS (a range over a function): what a round of the loop keeps; blocks that lie through a turn of a block that is no cells. Over no program.
-/
import Derived.Test.YtknnobpnfnajiaaRow2
import Derived.RangeFuncNested
import Derived.RangeFuncBound
import Derived.RangeFuncCalls
import Derived.RangeFuncLeaves
import Derived.Shelf.Abstract
import Derived.Shelf.RegionOpen
import Derived.WalkKit
import Derived.OwnWalkIn
import Derived.TacticsInMore
import Derived.LoopNIn
import Derived.LoopIn
import Derived.WalkMore
namespace Go.Proofs.Ytknnobpnfnajiaa
open Go.ChangeShapes Go.WideShapes Go.ChangeAt Go.RowKit Go.Shelf
set_option linter.unusedVariables false
set_option maxRecDepth 100000
theorem ro_set1' {w : World} {g : Nat} {x0 a' : Value} {T : TypeId} (h : Ro w g #[a'] T) : Ro (w.setCell ⟨g, 0, none⟩ x0) g #[x0] T := by
  have := ro_set h 0 x0
  simpa using this
theorem ro_away1 {w : World} {g g' : Nat} {vs : Array Value} {a : Value} {T : TypeId} (h : Ro w g vs T) (hne : g' ≠ g) : Ro (w.setCell ⟨g', 0, none⟩ a) g vs T := ro_set_ne h hne 0 a
theorem bl_set1 {w0 w : World} {a : Value} (h : Below w0.heap.size w0 w) {g : Nat} (hg : w0.heap.size ≤ g) : Below w0.heap.size w0 (w.setCell ⟨g, 0, none⟩ a) := bl_set h hg _
/-- a row lies on through a turn of a block that is no cells. -/
theorem ro_own {β : Type} (B g : Nat) (T : TypeId) (f : β → Array Value) : OwnFrom B (fun s W => Ro W g (f s) T) := fun s W W' row hs hg hr =>
  (hg.block g hs.lt (fun e => by obtain ⟨_, o, ho, hc⟩ := hr g e.symm; unfold Ro at hs; rw [hs] at ho; cases ho; simp [Obj.isCells] at hc)).trans hs
theorem grown_of {W W' : World} (h : Below W.heap.size W W') : W.grownBy W' none := ⟨h.os, h.tape, h.output, h.size, fun k hk _ => h.block k hk⟩
theorem ko_below {W W' : World} (h : Below W.heap.size W W') : KeepsOthers W W' := KeepsOthers.of_grownBy (grown_of h) (fun j o e => by cases e)
theorem ro_keep {W W' : World} {row : Option Nat} {g : Nat} {vs : Array Value} {T : TypeId} (hs : Ro W g vs T) (hg : W.grownBy W' row) (hr : ∀ r, row = some r → ∃ o : Obj, W.heap[r]? = some o ∧ o.isCells = false) : Ro W' g vs T :=
  (hg.block g hs.lt (fun e => by obtain ⟨o, ho, hc⟩ := hr g e.symm; unfold Ro at hs; rw [hs] at ho; cases ho; simp [Obj.isCells] at hc)).trans hs
/-- what a round keeps for an iterator: what lay before, and its one captured variable. -/
def Kp1 (n₀ g : Nat) (W W' : World) : Prop := Below n₀ W W' ∧ W'.heap[g]? = W.heap[g]?
theorem kp1_t {n₀ g : Nat} {A B C : World} (h : Kp1 n₀ g A B) (k : Kp1 n₀ g B C) : Kp1 n₀ g A C := ⟨h.1.trans k.1, k.2.trans h.2⟩
theorem kp1_b {n₀ g : Nat} {w : World} (hn : n₀ ≤ w.heap.size) (hg : g < w.heap.size) (W : World) (l : Nat) (o o' : Obj) (hl : w.heap.size ≤ l) (h : W.heap[l]? = some o) (hc : o.isCells = false) (hw : o.isWalk = false) : Kp1 n₀ g W (W.putObj l o') :=
  ⟨belowK_b hn W l o o' hl h hc hw, World.putObj_heap_other (by omega)⟩
theorem kp1_below {n₀ g : Nat} {W W' : World} (h : Below W.heap.size W W') (hn : n₀ ≤ W.heap.size) (hg : g < W.heap.size) : Kp1 n₀ g W W' := ⟨h.mono hn, h.block g hg⟩
theorem kp1_refl (n₀ g : Nat) (W : World) : Kp1 n₀ g W W := ⟨Below.refl _ _, rfl⟩
end Go.Proofs.Ytknnobpnfnajiaa
