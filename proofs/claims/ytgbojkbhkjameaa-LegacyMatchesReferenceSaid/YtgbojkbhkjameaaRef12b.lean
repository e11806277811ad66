/-
  CONTRACTS of zoneinforef12 (the reference of layer 12): Build. Conditions: at most 1000 names of at most 1000 bytes, in a slice that can be read.
-/
import Derived.Test.YtgbojkbhkjameaaRef12p
import Derived.Test.YtgbojkbhkjameaaDsMath2
import Derived.Test.YtgbojkbhkjameaaBase2
import Derived.Deep.RegionHeld3
import Derived.Deep.DeepCutAuto
namespace Go.Proofs.Ytgbojkbhkjameaa
open Go.ChangeShapes Go.WideShapes Go.ChangeAt Go.RowKit
set_option linter.unusedVariables false
abbrev ints (xs : List Int) : List Value := xs.map (Value.int .i64)
theorem elU8_ : ElT Try.prog 23 5 (.int .u8 0) 1 := ⟨Try.underlying23, by kernel_rfl, rfl⟩
theorem elInt_ : ElT Try.prog 45 3 (.int .i64 0) 8 := ⟨Try.underlying45, by kernel_rfl, rfl⟩
theorem bys_snoc (xs : List Int) (x : Int) : bys xs ++ [.int .u8 x] = bys (xs ++ [x]) := by simp
theorem ints_snoc (xs : List Int) (x : Int) : ints xs ++ [.int .i64 x] = ints (xs ++ [x]) := by simp
def atV (o : Option Int) : Int := match o with | some y => y | none => -1
theorem ow_i {w : World} {b n c : Nat} {e : TypeId} {A : Option Addr} {xs : List Int} (h : Ow w b e A n c (ints xs)) {i : Nat} (hi : i < n) : ∃ g x, A = some ⟨g, 0, none⟩ ∧ xs[i]? = some x ∧ w.cell? ⟨g, i, none⟩ = some (.int .i64 x) := by
  have hl := h.len
  simp at hl
  obtain ⟨g, rfl, _, _⟩ := h.form (by omega)
  have hx : xs[i]? = some (xs[i]'(by omega)) := List.getElem?_eq_getElem (by omega)
  exact ⟨g, _, rfl, hx, by rw [h.cell i hi, List.getElem?_map, hx]; rfl⟩
namespace r12_
end r12_
end Go.Proofs.Ytgbojkbhkjameaa
