/-
  A SLICE OF BOOLS THAT CAME IN: out of the row's condition. No program.
-/
import Derived.Test.YtgbojkbhkjameaaBlM
import Derived.Deep.Grids
namespace Go.Proofs.Ytgbojkbhkjameaa
open Go.ChangeShapes Go.WideShapes Go.ChangeAt Go.RowKit Go.Deep
set_option linter.unusedVariables false
section
variable {H : Type} {enc : TypeId × Value → H} {P : Program} {w : World} {base : Nat} {held : Bool}
theorem open_bw {t e : TypeId} {fuel : Nat} {a : Option Addr} {len cap : Nat} {x : DataW H × List MemPlace} (ht : P.underlying t = some (.slice e)) (he : P.underlying e = some .bool) (hC : P.cellsOf e = 1)
    (h : DataW.trod enc P w base (fun _ => true) held fuel t [.slice a len cap] = some x) : ∃ bs, IsBw w a len cap bs := by
  rcases open_bools ht he hC h with ⟨hcs, _⟩ | ⟨ad, l, c, B, hcs, _, hl, hm, _, hcell⟩
  · simp at hcs
    obtain ⟨rfl, rfl, rfl⟩ := hcs
    exact ⟨[], fun _ => ⟨rfl, rfl⟩, Nat.le_refl _, by decide, Rd.none_ w⟩
  · simp at hcs
    obtain ⟨rfl, rfl, rfl⟩ := hcs
    have hm' : cap ≤ 9223372036854775807 := by simp [maxLen] at hm; omega
    refine ⟨(List.range len).map B, (fun h => nomatch h), hl, hm', by simp, fun _ => ⟨ad, rfl, fun i v hi => ?_⟩⟩
    have hlt : i < len := by have := (List.getElem?_eq_some_iff.1 hi).1; simpa using this
    rw [List.getElem?_map, List.getElem?_map, List.getElem?_range hlt] at hi
    simp at hi
    rw [hcell i (by omega), hi]
end
end Go.Proofs.Ytgbojkbhkjameaa
