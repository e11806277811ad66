/-
  WORDS ON GREAT STRUCTS: a block known as a whole row, and a load of it as one step, guarded or not. Over no program.
  MORE WORDS ON GREAT STRUCTS: single fields and whole rows stored. No conditions beyond each theorem's own.
  WORDS FOR A DRAWN REGION WALKED BY HAND. Over no program.
  A DRAWN REGION WALKED STATE BY STATE: each set of operations that are done is walked once, whatever order led there. Over no program.
  WORDS FOR ITERATORS (a range over a function): what a round of the loop keeps; blocks that lie through a turn of a block that is no cells. Over no program.
  ROWS OF FOUR AND SEVEN CELLS, STORED CELL BY CELL. No program.
-/
import Derived.Test.YtgbojkbhkjameaaBase2
import Derived.Laws.Rows
import Derived.Laws.Tables
import Derived.Deep.WholeRow
import Derived.Deep.RegionHeld3
import Derived.RangeFuncNested
import Derived.RangeFuncBound
import Derived.RangeFuncCalls
import Derived.RangeFuncLeaves
import Derived.Shelf.Abstract
import Derived.Shelf.RegionOpen
import Derived.WalkKit
import Derived.OwnWalkIn
import Derived.TacticsInMore
import Derived.LoopNIn
import Derived.LoopIn
import Derived.WalkMore
namespace Go.Proofs.Ytgbojkbhkjameaa
open Go.RowKit
set_option linter.unusedVariables false
set_option maxRecDepth 100000
/-- a block of its own, known whole. -/
def Ro (w : World) (g : Nat) (vs : Array Value) (T : TypeId) : Prop := w.heap[g]? = some (.cells vs T (0, 0))
theorem Ro.lt {w : World} {g : Nat} {vs : Array Value} {T : TypeId} (h : Ro w g vs T) : g < w.heap.size := by
  rcases Nat.lt_or_ge g w.heap.size with hl | hl
  · exact hl
  · unfold Ro at h
    rw [Array.getElem?_eq_none hl] at h
    cases h
theorem Ro.new (w : World) (vs : Array Value) (T : TypeId) : Ro (w.alloc (.cells vs T)) w.heap.size vs T := heap_alloc_last w _
theorem Ro.below {w w' : World} {g : Nat} {vs : Array Value} {T : TypeId} (h : Ro w g vs T) (hb : Below w.heap.size w w') : Ro w' g vs T := (hb.block g h.lt).trans h
theorem Ro.alloc {w : World} {g : Nat} {vs : Array Value} {T : TypeId} (h : Ro w g vs T) (o : Obj) : Ro (w.alloc o) g vs T := h.below (bl_new w o)
theorem Ro.drew {w : World} {g : Nat} {vs : Array Value} {T : TypeId} (h : Ro w g vs T) : Ro w.drew g vs T := h
theorem Ro.cell {w : World} {g : Nat} {vs : Array Value} {T : TypeId} (h : Ro w g vs T) (j : Nat) : w.cell? ⟨g, j, none⟩ = vs[j]? := cell_of_row w g j vs T (0, 0) h
theorem Ro.frozen {w : World} {g : Nat} {vs : Array Value} {T : TypeId} (h : Ro w g vs T) (j : Nat) : w.frozen? ⟨g, j, none⟩ = false := frozen_of_row w g j vs T h
section
variable {P : Program} {ops : Array Oper} {rest : List Oper} {o : Oper} {a : Act} {w : World} {Q : Exit → Act → World → Prop}
theorem load_row_g (hw : Region.wanted o (yielded ops a.tmps) = true) (ty : TypeId) (x : Operand) (ho : o.op = .load ty x)
    (g : Nat) (hx : a.eval x = .pointer (some ⟨g, 0, none⟩)) (t : TypeId) (cs : Array Value) (d : TypeDesc) (hg : Ro w g cs t)
    (hu : P.underlying ty = some d) (hd : (match d with | .struct _ | .array _ _ => true | _ => false) = true) (hi : (P.info? ty).map (·.size) = some cs.size)
    (h : wpList P ops Q rest (a.put o.dst (.agg cs)) w) : wpList P ops Q (o :: rest) a w :=
  wpList_step fun _ hK => by
    rw [if_pos hw]
    exact wp_load_row ty x ho g hx t cs (0, 0) d hg hu hd hi (hK _ _ h)
/-- a load ahead: the walk stands still there (the goal is hidden). -/
theorem stop_load (ty : TypeId) (x : Operand) (ho : o.op = .load ty x) (h : Hid (wpList P ops Q (o :: rest) a w)) : wpList P ops Q (o :: rest) a w := h.out
/-- a load of the whole row, as the walk may meet it. -/
theorem Ro.load {w : World} {g : Nat} {cs : Array Value} {t : TypeId} (h : Ro w g cs t) (ty : TypeId) (d : TypeDesc) (hu : P.underlying ty = some d) (hd : (match d with | .struct _ | .array _ _ => true | _ => false) = true) (hi : (P.info? ty).map (·.size) = some cs.size) :
    (Instr.loadAt ty (.pointer (some ⟨g, 0, none⟩))).run P w = .ok (.agg cs) w ∧ (loadVar ty ⟨g, 0, none⟩).run P w = .ok (.agg cs) w := by
  have hl := run_loadVar_row w g t ty cs (0, 0) d h hu hd hi
  refine ⟨?_, hl⟩
  simp only [Instr.loadAt, Instr.sureAddr, Sem.run_bind, Sem.run_pure, Result.andThen]
  exact hl
theorem Ro.loadCells {w : World} {g : Nat} {cs : Array Value} {t : TypeId} (h : Ro w g cs t) (n : Nat) (hn : cs.size = n) :
    (loadCellsFrom ⟨g, 0, none⟩ 0 n #[]).run P w = .ok cs w := by
  subst hn
  have := run_loadCells_list (P := P) w ⟨g, 0, none⟩ cs.toList (fun j v hv => by
    rw [addr_flat, Nat.zero_add, h.cell]
    simpa using hv)
  simp only [Go.loadCells, Array.length_toList, Array.toArray_toList] at this
  exact this
end
end Go.Proofs.Ytgbojkbhkjameaa
namespace Go.Proofs.Ytgbojkbhkjameaa
open Go.ChangeShapes Go.WideShapes Go.ChangeAt Go.RowKit
set_option linter.unusedVariables false
set_option maxRecDepth 100000
theorem ro_set {w : World} {g : Nat} {vs : Array Value} {T : TypeId} (h : Ro w g vs T) (k : Nat) (v : Value) : Ro (w.setCell ⟨g, k, none⟩ v) g (vs.setIfInBounds k v) T := by
  unfold Ro at *
  simp [World.setCell, Array.getElem?_modify, h]
theorem ro_set_ne {w : World} {g g' : Nat} {vs : Array Value} {T : TypeId} (h : Ro w g vs T) (hne : g' ≠ g) (k : Nat) (v : Value) : Ro (w.setCell ⟨g', k, none⟩ v) g vs T := by
  unfold Ro at *
  simp [World.setCell, Array.getElem?_modify, hne, h]
theorem ro_row {w : World} {g : Nat} {vs : Array Value} {T : TypeId} (h : Ro w g vs T) (cs : Array Value) : Ro (w.setRow g cs) g cs T := setRow_heap w g vs cs T (0, 0) h
theorem ro_row_ne {w : World} {g g' : Nat} {vs : Array Value} {T : TypeId} (h : Ro w g vs T) (hne : g ≠ g') (cs : Array Value) : Ro (w.setRow g' cs) g vs T := by
  unfold Ro
  rw [setRow_other w g' g cs hne]
  exact h
theorem bl_row {a w : World} (h : Below a.heap.size a w) {g : Nat} (hg : a.heap.size ≤ g) (cs : Array Value) : Below a.heap.size a (w.setRow g cs) :=
  ⟨h.os, h.tape, h.output, by rw [size_setRow]; exact h.size, fun k hk => by rw [setRow_other w g k cs (by omega)]; exact h.block k hk⟩
/-- a field and its being free, of a row that is written out. -/
theorem ro_cf {w : World} {g : Nat} {vs : Array Value} {T : TypeId} (h : Ro w g vs T) (k : Nat) (v : Value) (hv : vs[k]? = some v) : w.cell? ⟨g, k, none⟩ = some v ∧ w.frozen? ⟨g, k, none⟩ = false := ⟨by rw [h.cell, hv], h.frozen k⟩
theorem ro_set1' {w : World} {g : Nat} {x0 a' : Value} {T : TypeId} (h : Ro w g #[a'] T) : Ro (w.setCell ⟨g, 0, none⟩ x0) g #[x0] T := by
  have := ro_set h 0 x0
  simpa using this
theorem ro_away1 {w : World} {g g' : Nat} {vs : Array Value} {a : Value} {T : TypeId} (h : Ro w g vs T) (hne : g' ≠ g) : Ro (w.setCell ⟨g', 0, none⟩ a) g vs T := ro_set_ne h hne 0 a
theorem bl_set1 {w0 w : World} {a : Value} (h : Below w0.heap.size w0 w) {g : Nat} (hg : w0.heap.size ≤ g) : Below w0.heap.size w0 (w.setCell ⟨g, 0, none⟩ a) := bl_set h hg _
end Go.Proofs.Ytgbojkbhkjameaa
namespace Go.Proofs.Ytgbojkbhkjameaa
open Go.ChangeShapes Go.WideShapes Go.ChangeAt Go.RowKit
set_option linter.unusedVariables false
theorem wpAnyH_takeD {P : Program} {md : Region.Mode} {ops : Array Oper} {Q : Exit → Act → World → Prop} {S : World → Prop} {i : Nat} {oi : Oper} {d : Option Tmp} {v : Value} {fuel : Nat} {listed : Array Bool} {a : Act} {w : World} (hi : ops[i]? = some oi) (hd : oi.dst = d)
    (hs : Region.noSelect ops = true) (hf : Region.free md ops listed i = true) (hr : (Region.ready md ops listed).contains i = true)
    (hQ : ∀ c a w, Q (.panic c) (a.put d v) w → Q (.panic c) a w) (hy : YieldsIf P ops S oi v a) (hS : S w)
    (h : wpAnyH P md ops Q S fuel (listed.setIfInBounds i true) (a.put d v) w) : wpAnyH P md ops Q S (fuel + 1) listed a w := by
  subst hd
  exact wpAnyH_take hi hs hf hr hQ hy hS h
theorem yieldsIf_load_row {P : Program} {ops : Array Oper} {S : World → Prop} {op : Oper} {a : Act} (hw : Region.wanted op (yielded ops a.tmps) = true) (ty : TypeId) (x : Operand) (ho : op.op = .load ty x)
    (g : Nat) (hx : a.eval x = .pointer (some ⟨g, 0, none⟩)) (t : TypeId) (cs : Array Value) (d : TypeDesc) (hS : ∀ w, S w → Ro w g cs t)
    (hu : P.underlying ty = some d) (hd : (match d with | .struct _ | .array _ _ => true | _ => false) = true) (hi : (P.info? ty).map (·.size) = some cs.size) : YieldsIf P ops S op (.agg cs) a :=
  .inl ⟨hw, fun w hw' => by
    unfold execOp
    simp only [ho, hx, Sem.run_bind, Sem.run_pure, ((hS w hw').load ty d hu hd hi).1, Result.andThen_ok]⟩
end Go.Proofs.Ytgbojkbhkjameaa
namespace Go.Proofs.Ytgbojkbhkjameaa
open Go.ChangeShapes Go.WideShapes Go.ChangeAt Go.RowKit
set_option linter.unusedVariables false
theorem wpAnyH_share {P : Program} {md : Region.Mode} {ops : Array Oper} {Q : Exit → Act → World → Prop} {S : World → Prop} {fuel : Nat} {listed : Array Bool} {a : Act} {w : World}
    (h : ∀ (F : Nat → Array Bool → Act → World → Prop), Hid (∀ n l a w, wpAnyH P md ops Q S n l a w → F n l a w) → Hid (∀ n l a w, F n l a w → wpAnyH P md ops Q S n l a w) → ∀ (T : Array Value) (D : List Deferred), Hid (a = { tmps := T, defers := D }) → F fuel listed { tmps := T, defers := D } w) :
    wpAnyH P md ops Q S fuel listed a w :=
  h _ (hide fun _ _ _ _ h => h) (hide fun _ _ _ _ h => h) a.tmps a.defers (hide rfl)
end Go.Proofs.Ytgbojkbhkjameaa
namespace Go.Proofs.Ytgbojkbhkjameaa
open Go.ChangeShapes Go.WideShapes Go.ChangeAt Go.RowKit Go.Shelf
set_option linter.unusedVariables false
set_option maxRecDepth 100000
/-- a row lies on through a turn of a block that is no cells. -/
theorem ro_own {β : Type} (B g : Nat) (T : TypeId) (f : β → Array Value) : OwnFrom B (fun s W => Ro W g (f s) T) := fun s W W' row hs hg hr =>
  (hg.block g hs.lt (fun e => by obtain ⟨_, o, ho, hc⟩ := hr g e.symm; unfold Ro at hs; rw [hs] at ho; cases ho; simp [Obj.isCells] at hc)).trans hs
theorem grown_of {W W' : World} (h : Below W.heap.size W W') : W.grownBy W' none := ⟨h.os, h.tape, h.output, h.size, fun k hk _ => h.block k hk⟩
theorem ko_below {W W' : World} (h : Below W.heap.size W W') : KeepsOthers W W' := KeepsOthers.of_grownBy (grown_of h) (fun j o e => by cases e)
theorem ro_keep {W W' : World} {row : Option Nat} {g : Nat} {vs : Array Value} {T : TypeId} (hs : Ro W g vs T) (hg : W.grownBy W' row) (hr : ∀ r, row = some r → ∃ o : Obj, W.heap[r]? = some o ∧ o.isCells = false) : Ro W' g vs T :=
  (hg.block g hs.lt (fun e => by obtain ⟨o, ho, hc⟩ := hr g e.symm; unfold Ro at hs; rw [hs] at ho; cases ho; simp [Obj.isCells] at hc)).trans hs
/-- what a round keeps for an iterator: what lay before, and its one captured variable. -/
def Kp1 (n₀ g : Nat) (W W' : World) : Prop := Below n₀ W W' ∧ W'.heap[g]? = W.heap[g]?
theorem kp1_t {n₀ g : Nat} {A B C : World} (h : Kp1 n₀ g A B) (k : Kp1 n₀ g B C) : Kp1 n₀ g A C := ⟨h.1.trans k.1, k.2.trans h.2⟩
theorem kp1_b {n₀ g : Nat} {w : World} (hn : n₀ ≤ w.heap.size) (hg : g < w.heap.size) (W : World) (l : Nat) (o o' : Obj) (hl : w.heap.size ≤ l) (h : W.heap[l]? = some o) (hc : o.isCells = false) (hw : o.isWalk = false) : Kp1 n₀ g W (W.putObj l o') :=
  ⟨belowK_b hn W l o o' hl h hc hw, World.putObj_heap_other (by omega)⟩
theorem kp1_below {n₀ g : Nat} {W W' : World} (h : Below W.heap.size W W') (hn : n₀ ≤ W.heap.size) (hg : g < W.heap.size) : Kp1 n₀ g W W' := ⟨h.mono hn, h.block g hg⟩
theorem kp1_refl (n₀ g : Nat) (W : World) : Kp1 n₀ g W W := ⟨Below.refl _ _, rfl⟩
end Go.Proofs.Ytgbojkbhkjameaa
namespace Go.Proofs.Ytgbojkbhkjameaa
open Go.RowKit
set_option linter.unusedVariables false
set_option maxRecDepth 100000
theorem ro_set4' {w : World} {g : Nat} {x0 x1 x2 x3 y0 y1 y2 y3 : Value} {T : TypeId} (h : Ro w g #[y0, y1, y2, y3] T) : Ro ((((w.setCell ⟨g, 0, none⟩ x0).setCell ⟨g, 1, none⟩ x1).setCell ⟨g, 2, none⟩ x2).setCell ⟨g, 3, none⟩ x3) g #[x0, x1, x2, x3] T := (ro_set (ro_set (ro_set (ro_set h 0 x0) 1 x1) 2 x2) 3 x3)
theorem ro_away4 {w : World} {g g' : Nat} {vs : Array Value} {x0 x1 x2 x3 : Value} {T : TypeId} (h : Ro w g vs T) (hne : g' ≠ g) : Ro ((((w.setCell ⟨g', 0, none⟩ x0).setCell ⟨g', 1, none⟩ x1).setCell ⟨g', 2, none⟩ x2).setCell ⟨g', 3, none⟩ x3) g vs T := (ro_set_ne (ro_set_ne (ro_set_ne (ro_set_ne h hne 0 x0) hne 1 x1) hne 2 x2) hne 3 x3)
theorem bl_setx4 {w0 w : World} {x0 x1 x2 x3 : Value} (h : Below w0.heap.size w0 w) {g : Nat} (hg : w0.heap.size ≤ g) : Below w0.heap.size w0 ((((w.setCell ⟨g, 0, none⟩ x0).setCell ⟨g, 1, none⟩ x1).setCell ⟨g, 2, none⟩ x2).setCell ⟨g, 3, none⟩ x3) := (bl_set (bl_set (bl_set (bl_set h hg x0) hg x1) hg x2) hg x3)
theorem ro_set7' {w : World} {g : Nat} {x0 x1 x2 x3 x4 x5 x6 y0 y1 y2 y3 y4 y5 y6 : Value} {T : TypeId} (h : Ro w g #[y0, y1, y2, y3, y4, y5, y6] T) : Ro (((((((w.setCell ⟨g, 0, none⟩ x0).setCell ⟨g, 1, none⟩ x1).setCell ⟨g, 2, none⟩ x2).setCell ⟨g, 3, none⟩ x3).setCell ⟨g, 4, none⟩ x4).setCell ⟨g, 5, none⟩ x5).setCell ⟨g, 6, none⟩ x6) g #[x0, x1, x2, x3, x4, x5, x6] T := by
  have h1 : Ro (w.setCell ⟨g, 0, none⟩ x0) g #[x0, y1, y2, y3, y4, y5, y6] T := by have := ro_set h 0 x0; simpa using this
  have h2 : Ro ((w.setCell ⟨g, 0, none⟩ x0).setCell ⟨g, 1, none⟩ x1) g #[x0, x1, y2, y3, y4, y5, y6] T := by have := ro_set h1 1 x1; simpa using this
  have h3 : Ro (((w.setCell ⟨g, 0, none⟩ x0).setCell ⟨g, 1, none⟩ x1).setCell ⟨g, 2, none⟩ x2) g #[x0, x1, x2, y3, y4, y5, y6] T := by have := ro_set h2 2 x2; simpa using this
  have h4 : Ro ((((w.setCell ⟨g, 0, none⟩ x0).setCell ⟨g, 1, none⟩ x1).setCell ⟨g, 2, none⟩ x2).setCell ⟨g, 3, none⟩ x3) g #[x0, x1, x2, x3, y4, y5, y6] T := by have := ro_set h3 3 x3; simpa using this
  have h5 : Ro (((((w.setCell ⟨g, 0, none⟩ x0).setCell ⟨g, 1, none⟩ x1).setCell ⟨g, 2, none⟩ x2).setCell ⟨g, 3, none⟩ x3).setCell ⟨g, 4, none⟩ x4) g #[x0, x1, x2, x3, x4, y5, y6] T := by have := ro_set h4 4 x4; simpa using this
  have h6 : Ro ((((((w.setCell ⟨g, 0, none⟩ x0).setCell ⟨g, 1, none⟩ x1).setCell ⟨g, 2, none⟩ x2).setCell ⟨g, 3, none⟩ x3).setCell ⟨g, 4, none⟩ x4).setCell ⟨g, 5, none⟩ x5) g #[x0, x1, x2, x3, x4, x5, y6] T := by have := ro_set h5 5 x5; simpa using this
  have h7 : Ro (((((((w.setCell ⟨g, 0, none⟩ x0).setCell ⟨g, 1, none⟩ x1).setCell ⟨g, 2, none⟩ x2).setCell ⟨g, 3, none⟩ x3).setCell ⟨g, 4, none⟩ x4).setCell ⟨g, 5, none⟩ x5).setCell ⟨g, 6, none⟩ x6) g #[x0, x1, x2, x3, x4, x5, x6] T := by have := ro_set h6 6 x6; simpa using this
  exact h7
theorem ro_away7 {w : World} {g g' : Nat} {vs : Array Value} {x0 x1 x2 x3 x4 x5 x6 : Value} {T : TypeId} (h : Ro w g vs T) (hne : g' ≠ g) : Ro (((((((w.setCell ⟨g', 0, none⟩ x0).setCell ⟨g', 1, none⟩ x1).setCell ⟨g', 2, none⟩ x2).setCell ⟨g', 3, none⟩ x3).setCell ⟨g', 4, none⟩ x4).setCell ⟨g', 5, none⟩ x5).setCell ⟨g', 6, none⟩ x6) g vs T := (ro_set_ne (ro_set_ne (ro_set_ne (ro_set_ne (ro_set_ne (ro_set_ne (ro_set_ne h hne 0 x0) hne 1 x1) hne 2 x2) hne 3 x3) hne 4 x4) hne 5 x5) hne 6 x6)
theorem bl_setx7 {w0 w : World} {x0 x1 x2 x3 x4 x5 x6 : Value} (h : Below w0.heap.size w0 w) {g : Nat} (hg : w0.heap.size ≤ g) : Below w0.heap.size w0 (((((((w.setCell ⟨g, 0, none⟩ x0).setCell ⟨g, 1, none⟩ x1).setCell ⟨g, 2, none⟩ x2).setCell ⟨g, 3, none⟩ x3).setCell ⟨g, 4, none⟩ x4).setCell ⟨g, 5, none⟩ x5).setCell ⟨g, 6, none⟩ x6) := (bl_set (bl_set (bl_set (bl_set (bl_set (bl_set (bl_set h hg x0) hg x1) hg x2) hg x3) hg x4) hg x5) hg x6)
/-- cells that fill a struct's row. -/
def Gr (P : Program) (T : TypeId) (n : Nat) (cs : Array Value) : Prop := (P.info? T).map (·.size) = some cs.size ∧ cs.size = n ∧ cs.all (·.oneCell') = true
/-- a whole row stored, as the walk meets it where the cells are a variable. -/
theorem st_row {P : Program} {T : TypeId} {n : Nat} {cs old : Array Value} {w : World} {g : Nat} (h : Gr P T n cs) (ho : old.size = cs.size) (hg : w.heap[g]? = some (.cells old T (0, 0))) :
    (storeCells ⟨g, 0, none⟩ cs.toList 0).run P w = .ok () (w.setRow g cs) := by
  have := run_storeVar_row (P := P) w g T T old cs hg h.1 ho h.2.2
  cases hq : P.info? T with
  | none => have := h.1; simp [hq] at this
  | some i =>
    have hs : cs.size = i.size := by have := h.1; simp [hq] at this; omega
    simpa [storeVar, sizeOf, typeInfo, hq, Value.cells, hs] using this
end Go.Proofs.Ytgbojkbhkjameaa
