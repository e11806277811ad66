/-
  WORDS ON GREAT STRUCTS: a block known as a whole row, and a load of it as one step, guarded or not. Over no program.
-/
import Derived.Test.YtickchkcfaggfaaBase
import Derived.Laws.Rows
import Derived.Laws.Tables
import Derived.Deep.WholeRow
namespace Go.Proofs.Ytickchkcfaggfaa
open Go.RowKit
set_option linter.unusedVariables false
set_option maxRecDepth 100000
/-- a block of its own, known whole. -/
def Ro (w : World) (g : Nat) (vs : Array Value) (T : TypeId) : Prop := w.heap[g]? = some (.cells vs T (0, 0))
theorem Ro.lt {w : World} {g : Nat} {vs : Array Value} {T : TypeId} (h : Ro w g vs T) : g < w.heap.size := by
  rcases Nat.lt_or_ge g w.heap.size with hl | hl
  · exact hl
  · unfold Ro at h
    rw [Array.getElem?_eq_none hl] at h
    cases h
theorem Ro.new (w : World) (vs : Array Value) (T : TypeId) : Ro (w.alloc (.cells vs T)) w.heap.size vs T := heap_alloc_last w _
theorem Ro.below {w w' : World} {g : Nat} {vs : Array Value} {T : TypeId} (h : Ro w g vs T) (hb : Below w.heap.size w w') : Ro w' g vs T := (hb.block g h.lt).trans h
theorem Ro.alloc {w : World} {g : Nat} {vs : Array Value} {T : TypeId} (h : Ro w g vs T) (o : Obj) : Ro (w.alloc o) g vs T := h.below (bl_new w o)
theorem Ro.drew {w : World} {g : Nat} {vs : Array Value} {T : TypeId} (h : Ro w g vs T) : Ro w.drew g vs T := h
theorem Ro.cell {w : World} {g : Nat} {vs : Array Value} {T : TypeId} (h : Ro w g vs T) (j : Nat) : w.cell? ⟨g, j, none⟩ = vs[j]? := cell_of_row w g j vs T (0, 0) h
theorem Ro.frozen {w : World} {g : Nat} {vs : Array Value} {T : TypeId} (h : Ro w g vs T) (j : Nat) : w.frozen? ⟨g, j, none⟩ = false := frozen_of_row w g j vs T h
section
variable {P : Program} {ops : Array Oper} {rest : List Oper} {o : Oper} {a : Act} {w : World} {Q : Exit → Act → World → Prop}
theorem load_row_g (hw : Region.wanted o (yielded ops a.tmps) = true) (ty : TypeId) (x : Operand) (ho : o.op = .load ty x)
    (g : Nat) (hx : a.eval x = .pointer (some ⟨g, 0, none⟩)) (t : TypeId) (cs : Array Value) (d : TypeDesc) (hg : Ro w g cs t)
    (hu : P.underlying ty = some d) (hd : (match d with | .struct _ | .array _ _ => true | _ => false) = true) (hi : (P.info? ty).map (·.size) = some cs.size)
    (h : wpList P ops Q rest (a.put o.dst (.agg cs)) w) : wpList P ops Q (o :: rest) a w :=
  wpList_step fun _ hK => by
    rw [if_pos hw]
    exact wp_load_row ty x ho g hx t cs (0, 0) d hg hu hd hi (hK _ _ h)
/-- a load ahead: the walk stands still there (the goal is hidden). -/
theorem stop_load (ty : TypeId) (x : Operand) (ho : o.op = .load ty x) (h : Hid (wpList P ops Q (o :: rest) a w)) : wpList P ops Q (o :: rest) a w := h.out
/-- a load of the whole row, as the walk may meet it. -/
theorem Ro.load {w : World} {g : Nat} {cs : Array Value} {t : TypeId} (h : Ro w g cs t) (ty : TypeId) (d : TypeDesc) (hu : P.underlying ty = some d) (hd : (match d with | .struct _ | .array _ _ => true | _ => false) = true) (hi : (P.info? ty).map (·.size) = some cs.size) :
    (Instr.loadAt ty (.pointer (some ⟨g, 0, none⟩))).run P w = .ok (.agg cs) w ∧ (loadVar ty ⟨g, 0, none⟩).run P w = .ok (.agg cs) w := by
  have hl := run_loadVar_row w g t ty cs (0, 0) d h hu hd hi
  refine ⟨?_, hl⟩
  simp only [Instr.loadAt, Instr.sureAddr, Sem.run_bind, Sem.run_pure, Result.andThen]
  exact hl
theorem Ro.loadCells {w : World} {g : Nat} {cs : Array Value} {t : TypeId} (h : Ro w g cs t) (n : Nat) (hn : cs.size = n) :
    (loadCellsFrom ⟨g, 0, none⟩ 0 n #[]).run P w = .ok cs w := by
  subst hn
  have := run_loadCells_list (P := P) w ⟨g, 0, none⟩ cs.toList (fun j v hv => by
    rw [addr_flat, Nat.zero_add, h.cell]
    simpa using hv)
  simp only [Go.loadCells, Array.length_toList, Array.toArray_toList] at this
  exact this
end
end Go.Proofs.Ytickchkcfaggfaa
