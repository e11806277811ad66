/-
  MORE WORDS ON GREAT STRUCTS: single fields and whole rows stored. No conditions beyond each theorem's own.
-/
import Derived.Test.YtknnobpnfnajiaaRow
import Derived.Test.YtknnobpnfnajiaaBase
namespace Go.Proofs.Ytknnobpnfnajiaa
open Go.ChangeShapes Go.WideShapes Go.ChangeAt Go.RowKit
set_option linter.unusedVariables false
set_option maxRecDepth 100000
theorem ro_set {w : World} {g : Nat} {vs : Array Value} {T : TypeId} (h : Ro w g vs T) (k : Nat) (v : Value) : Ro (w.setCell ⟨g, k, none⟩ v) g (vs.setIfInBounds k v) T := by
  unfold Ro at *
  simp [World.setCell, Array.getElem?_modify, h]
theorem ro_set_ne {w : World} {g g' : Nat} {vs : Array Value} {T : TypeId} (h : Ro w g vs T) (hne : g' ≠ g) (k : Nat) (v : Value) : Ro (w.setCell ⟨g', k, none⟩ v) g vs T := by
  unfold Ro at *
  simp [World.setCell, Array.getElem?_modify, hne, h]
theorem ro_row {w : World} {g : Nat} {vs : Array Value} {T : TypeId} (h : Ro w g vs T) (cs : Array Value) : Ro (w.setRow g cs) g cs T := setRow_heap w g vs cs T (0, 0) h
theorem ro_row_ne {w : World} {g g' : Nat} {vs : Array Value} {T : TypeId} (h : Ro w g vs T) (hne : g ≠ g') (cs : Array Value) : Ro (w.setRow g' cs) g vs T := by
  unfold Ro
  rw [setRow_other w g' g cs hne]
  exact h
theorem bl_row {a w : World} (h : Below a.heap.size a w) {g : Nat} (hg : a.heap.size ≤ g) (cs : Array Value) : Below a.heap.size a (w.setRow g cs) :=
  ⟨h.os, h.tape, h.output, by rw [size_setRow]; exact h.size, fun k hk => by rw [setRow_other w g k cs (by omega)]; exact h.block k hk⟩
/-- a field and its being free, of a row that is written out. -/
theorem ro_cf {w : World} {g : Nat} {vs : Array Value} {T : TypeId} (h : Ro w g vs T) (k : Nat) (v : Value) (hv : vs[k]? = some v) : w.cell? ⟨g, k, none⟩ = some v ∧ w.frozen? ⟨g, k, none⟩ = false := ⟨by rw [h.cell, hv], h.frozen k⟩
end Go.Proofs.Ytknnobpnfnajiaa
