/-
  PLAIN MATHEMATICS of the 32-bit view, round by round; more words on 'But'. No program.
-/
import Derived.Test.YtgbojkbhkjameaaLgM
import Derived.Test.YtgbojkbhkjameaaBu2
namespace Go.Proofs.Ytgbojkbhkjameaa
open Go.ChangeShapes Go.WideShapes Go.ChangeAt Go.RowKit
set_option linter.unusedVariables false
/-- the view's times of the first m transitions; their types' numbers; the leap seconds of the first m. -/
def tN (b : Bk) (m : Nat) : List Int := (b.ti.take m).filter in32
def xN (b : Bk) (k m : Nat) : List Int := (((b.ti.zip b.ix).take m).filter (fun p => in32 p.1)).map (fun p => ((other p.2.toNat k : Nat) : Int))
def lN (b : Bk) (m : Nat) : List LP := (b.lp.take m).filter (fun t => decide (t.1 ≤ 2147483647))
theorem tN_step {b : Bk} {m : Nat} {x : Int} (hx : b.ti[m]? = some x) : tN b (m + 1) = if in32 x = true then tN b m ++ [x] else tN b m := by
  unfold tN
  rw [List.take_add_one, hx, List.filter_append]
  by_cases h : in32 x = true <;> simp [h]
theorem xN_step {b : Bk} {k m : Nat} {x y : Int} (hx : b.ti[m]? = some x) (hy : b.ix[m]? = some y) : xN b k (m + 1) = if in32 x = true then xN b k m ++ [((other y.toNat k : Nat) : Int)] else xN b k m := by
  unfold xN
  have hz : (b.ti.zip b.ix)[m]? = some (x, y) := List.getElem?_zip_eq_some.2 ⟨hx, hy⟩
  rw [List.take_add_one, hz, List.filter_append]
  by_cases h : in32 x = true <;> simp [h]
theorem lN_step {b : Bk} {m : Nat} {t : LP} (ht : b.lp[m]? = some t) : lN b (m + 1) = if t.1 ≤ 2147483647 then lN b m ++ [t] else lN b m := by
  unfold lN
  rw [List.take_add_one, ht, List.filter_append]
  by_cases h : t.1 ≤ 2147483647 <;> simp [h]
theorem tN_len (b : Bk) (m : Nat) : (tN b m).length ≤ m := by
  unfold tN
  exact Nat.le_trans (List.length_filter_le _ _) (by rw [List.length_take]; omega)
theorem xN_len (b : Bk) (k m : Nat) : (xN b k m).length ≤ m := by
  unfold xN
  rw [List.length_map]
  exact Nat.le_trans (List.length_filter_le _ _) (by rw [List.length_take]; omega)
theorem lN_len (b : Bk) (m : Nat) : (lN b m).length ≤ m := by
  unfold lN
  exact Nat.le_trans (List.length_filter_le _ _) (by rw [List.length_take]; omega)
theorem tN_all {b : Bk} {m : Nat} (h : b.ti.length ≤ m) : tN b m = (viewB b).ti := by
  unfold tN viewB
  rw [List.take_of_length_le h]
theorem xN_all {b : Bk} {k m : Nat} (h : b.ti.length ≤ m) (hk : (inE b (-2147483649)).toNat = k) : xN b k m = (viewB b).ix := by
  unfold xN viewB
  rw [List.take_of_length_le (by rw [List.length_zip]; omega), hk]
theorem lN_all {b : Bk} {m : Nat} (h : b.lp.length ≤ m) : lN b m = (viewB b).lp := by
  unfold lN viewB
  rw [List.take_of_length_le h]
theorem in32_lp {b : Bk} {four : Bool} (h : vL b.lp four = true) {t : LP} (ht : t ∈ b.lp) : in32 t.1 = decide (t.1 ≤ 2147483647) := by
  have := lp_pos h ht
  unfold in32
  rw [decide_eq_true (show -2147483648 ≤ t.1 by omega), Bool.true_and]
theorem But.nextB {b : Nat} {w w1 w2 : World} (h : But b w w1) (k : Below w.heap.size w1 w2) : But b w w2 :=
  ⟨k.os.trans h.os, k.tape.trans h.tape, k.output.trans h.output, Nat.le_trans h.size k.size, fun i hi hn => (k.block i hi).trans (h.block i hi hn)⟩
theorem but_row {g : Nat} {w w1 : World} (h : But g w w1) (cs : Array Value) : But g w (w1.setRow g cs) :=
  ⟨h.os, h.tape, h.output, by rw [size_setRow]; exact h.size, fun k hk hn => (setRow_other w1 g k cs hn).trans (h.block k hk hn)⟩
theorem own_grown {w w' : World} {b n c : Nat} {e : TypeId} {A A2 : Option Addr} {xs : List Value} (h : Ow w b e A n c xs) (hg : w.grownBy w' (oB A2)) (hd : Dj A A2) : Ow w' b e A n c xs := by
  refine ⟨Nat.le_trans h.1 hg.size, h.2.kept hg ?_⟩
  rw [oB_own]
  rcases hA : oB A with _ | g
  · exact .inl rfl
  · exact .inr fun h' => hd g hA h'.symm
theorem ro_lowN {w1 w w' : World} {g : Nat} {vs : Array Value} {T : TypeId} (h : Ro w g vs T) (hg : g < w1.heap.size) (k : Below w1.heap.size w w') : Ro w' g vs T := (k.block g hg).trans h
end Go.Proofs.Ytgbojkbhkjameaa
