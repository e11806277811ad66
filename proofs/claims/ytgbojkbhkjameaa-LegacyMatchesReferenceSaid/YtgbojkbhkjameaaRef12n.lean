/-
  CONTRACTS of zoneinforef12 (the reference of layer 12): Name. Conditions: a slice of at most 1,000,000 bytes that can be read.
-/
import Derived.Test.YtgbojkbhkjameaaRef12
namespace Go.Proofs.Ytgbojkbhkjameaa
open Go.ChangeShapes Go.WideShapes Go.ChangeAt Go.RowKit
set_option linter.unusedVariables false
theorem bS_nil : bS [] = ⟨#[]⟩ := rfl
theorem bS_size (l : List Int) : (bS l).size = l.length := by unfold bS; rw [size_mk, List.length_map]
theorem bS_append (a b : List Int) : bS a ++ bS b = bS (a ++ b) := by
  apply byt_inj.1
  rw [byt_append]
  unfold bS
  rw [byt_mk, byt_mk, byt_mk, List.map_append]
namespace r12_
theorem conv1_ (W : World) (g : Nat) (c : Int) (c0 : 0 ≤ c) (c1 : c < 256) (h : W.cell? ⟨g, 0, none⟩ = some (.int .u8 c)) : (convert 23 9 (.slice (some ⟨g, 0, none⟩) 1 1)).run Try.prog W = .ok (.string (bS [c])) W :=
  run_convert_bytes_back W _ _ 5 ⟨g, 0, none⟩ 1 [UInt8.ofNat c.toNat] Try.underlying23 Try.underlying5 Try.underlying9 (fun j hj => by
    obtain rfl : j = 0 := by simpa using hj
    have : ((UInt8.ofNat c.toNat).toNat : Int) = c := by simp; omega
    simp only [List.getElem_cons_zero, this]
    exact h)
end r12_
end Go.Proofs.Ytgbojkbhkjameaa
