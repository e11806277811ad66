/-
  'But': NOTHING TURNS BUT ONE BLOCK (a state behind a pointer). Plain theorems; no condition beyond what each states.
-/
import Derived.Test.YtgbojkbhkjameaaBase2
namespace Go.Proofs.Ytgbojkbhkjameaa
open Go.RowKit
set_option linter.unusedVariables false
/-- but for the block b the world w' holds what w held. -/
structure But (b : Nat) (w w' : World) : Prop where
  os : w'.os = w.os
  tape : w'.tape = w.tape
  output : w'.output = w.output
  size : w.heap.size ≤ w'.heap.size
  block : ∀ k, k < w.heap.size → k ≠ b → w'.heap[k]? = w.heap[k]?
theorem But.refl (b : Nat) (w : World) : But b w w := ⟨rfl, rfl, rfl, Nat.le_refl _, fun _ _ _ => rfl⟩
theorem But.trans {b : Nat} {w w1 w2 : World} (h : But b w w1) (k : But b w1 w2) : But b w w2 :=
  ⟨k.os.trans h.os, k.tape.trans h.tape, k.output.trans h.output, Nat.le_trans h.size k.size, fun i hi hn => (k.block i (Nat.lt_of_lt_of_le hi h.size) hn).trans (h.block i hi hn)⟩
theorem But.of {b : Nat} {w w1 : World} (h : Below w.heap.size w w1) : But b w w1 := ⟨h.os, h.tape, h.output, h.size, fun k hk _ => h.block k hk⟩
theorem But.next {b : Nat} {w w1 w2 : World} (h : But b w w1) (k : Below w1.heap.size w1 w2) : But b w w2 := h.trans (.of k)
theorem But.set {b o : Nat} {w w1 : World} (h : But b w w1) (v : Value) : But b w (w1.setCell ⟨b, o, none⟩ v) :=
  h.trans ⟨rfl, rfl, rfl, by simp [World.setCell], fun k hk hn => Below.heap_setCell w1 ⟨b, o, none⟩ v k hn⟩
theorem But.setNew {b g o : Nat} {w w1 : World} (h : But b w w1) (hg : w.heap.size ≤ g) (v : Value) : But b w (w1.setCell ⟨g, o, none⟩ v) :=
  ⟨h.os, h.tape, h.output, by have := h.size; simpa [World.setCell] using this, fun k hk hn => (Below.heap_setCell w1 ⟨g, o, none⟩ v k (by show k ≠ g; omega)).trans (h.block k hk hn)⟩
theorem But.alloc {b : Nat} {w w1 : World} (h : But b w w1) (o : Obj) : But b w (w1.alloc o) := h.next (bl_new _ _)
theorem But.below {b B : Nat} {w w1 : World} (h : But b w w1) (hB : B ≤ b) (hb : b < w.heap.size) : Below B w w1 := ⟨h.os, h.tape, h.output, h.size, fun k hk => h.block k (by omega) (by omega)⟩
theorem But.down {b : Nat} {w w0 w1 : World} (h0 : Below w.heap.size w w0) (hb : w.heap.size ≤ b) (h : But b w0 w1) : Below w.heap.size w w1 :=
  ⟨h.os.trans h0.os, h.tape.trans h0.tape, h.output.trans h0.output, Nat.le_trans h0.size h.size, fun k hk => (h.block k (Nat.lt_of_lt_of_le hk h0.size) (by omega)).trans (h0.block k hk)⟩
theorem Bx.but {b g : Nat} {w w1 : World} {vs : List Value} (h : Bx w g vs) (hb : But b w w1) (hne : g ≠ b) : Bx w1 g vs := by
  have e := hb.block g h.1 hne
  exact ⟨Nat.lt_of_lt_of_le h.1 hb.size, fun j v hj => by rw [World.cell?_of_block (w := w) (a := ⟨g, j, none⟩) e]; exact h.2.1 j v hj, fun j => by rw [World.frozen?_of_block (w := w) (a := ⟨g, j, none⟩) e]; exact h.2.2 j⟩
end Go.Proofs.Ytgbojkbhkjameaa
