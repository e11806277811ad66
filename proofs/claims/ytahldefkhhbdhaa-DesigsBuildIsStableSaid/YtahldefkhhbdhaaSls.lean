/-
  SLICES OF STRINGS THAT CAME IN: what they read as. No program.
-/
import Derived.Test.YtahldefkhhbdhaaStr
import Derived.SliceStrings
namespace Go.Proofs.Ytahldefkhhbdhaa
open Go.ChangeShapes Go.WideShapes Go.ChangeAt Go.RowKit
set_option linter.unusedVariables false
def IsSw (w : World) (a : Option Addr) (len cap : Nat) (ss : List ByteArray) : Prop :=
  (a = none ∧ len = 0 ∧ cap = 0 ∧ ss = []) ∨
  ∃ x, a = some x ∧ len ≤ cap ∧ cap ≤ maxLen ∧ ss.length = cap ∧ (∀ i, i < ss.length → w.cell? (x.add i) = some (.string (ss.getD i ByteArray.empty))) ∧ ∀ s ∈ ss, s.size ≤ maxLen
theorem IsSw.nil {w : World} {a : Option Addr} {len cap : Nat} {ss : List ByteArray} (h : IsSw w a len cap ss) : a = none → len = 0 ∧ cap = 0 := by
  rintro rfl
  rcases h with ⟨_, h1, h2, _⟩ | ⟨x, h, _⟩
  · exact ⟨h1, h2⟩
  · cases h
theorem IsSw.cap {w : World} {a : Option Addr} {len cap : Nat} {ss : List ByteArray} (h : IsSw w a len cap ss) : len ≤ cap ∧ cap ≤ 9223372036854775807 := by
  rcases h with ⟨_, h1, h2, _⟩ | ⟨x, h, h1, h2, _⟩
  · omega
  · exact ⟨h1, by simpa [maxLen] using h2⟩
theorem IsSw.rd {w : World} {a : Option Addr} {len cap : Nat} {ss : List ByteArray} (h : IsSw w a len cap ss) : Rd w a len ((ss.take len).map Value.string) := by
  rcases h with ⟨rfl, rfl, rfl, rfl⟩ | ⟨x, rfl, h1, h2, h3, h4, _⟩
  · exact Rd.none_ w
  · refine ⟨by simp; omega, fun _ => ⟨x, rfl, fun i v hi => ?_⟩⟩
    have hl : i < len := by
      have := (List.getElem?_eq_some_iff.1 hi).1
      simp at this
      omega
    rw [List.getElem?_map, List.getElem?_take, if_pos hl] at hi
    rw [h4 i (by omega)]
    rw [List.getElem?_eq_getElem (by omega)] at hi
    simp at hi
    rw [← hi, List.getD_eq_getElem?_getD, List.getElem?_eq_getElem (by omega)]
    rfl
theorem IsSw.sz {w : World} {a : Option Addr} {len cap : Nat} {ss : List ByteArray} (h : IsSw w a len cap ss) : ∀ s ∈ ss.take len, s.size ≤ maxLen := by
  intro s hs
  rcases h with ⟨rfl, rfl, rfl, rfl⟩ | ⟨x, rfl, h1, h2, h3, h4, h5⟩
  · simp at hs
  · exact h5 s (List.mem_of_mem_take hs)
section
variable {H : Type} {enc : TypeId × Value → H} {P : Program} {w : World} {base : Nat} {held : Bool}
theorem open_sw {t e : TypeId} {fuel : Nat} {a : Option Addr} {len cap : Nat} {x : DataW H × List MemPlace} (ht : P.underlying t = some (.slice e)) (he : P.underlying e = some .string) (hC : P.cellsOf e = 1)
    (h : DataW.trod enc P w base (fun _ => true) held fuel t [.slice a len cap] = some x) : ∃ ss, IsSw w a len cap ss := by
  rcases open_strings ht he hC h with ⟨hcs, _⟩ | ⟨x, l, c, ss, hcs, _, hl, hm, hz, _, hcell, hsz⟩
  · simp at hcs
    obtain ⟨rfl, rfl, rfl⟩ := hcs
    exact ⟨[], .inl ⟨rfl, rfl, rfl, rfl⟩⟩
  · simp at hcs
    obtain ⟨rfl, rfl, rfl⟩ := hcs
    exact ⟨ss, .inr ⟨_, rfl, hl, hm, by simpa using hz, hcell, hsz⟩⟩
end
end Go.Proofs.Ytahldefkhhbdhaa
