/-
  A SLICE OF LEAP SECOND RECORDS THAT CAME IN: what it reads as. No program.
-/
import Derived.Test.YtickchkcfaggfaaLpM
import Derived.Test.YtickchkcfaggfaaOwk
namespace Go.Proofs.Ytickchkcfaggfaa
open Go.RowKit
set_option linter.unusedVariables false
set_option maxRecDepth 100000
def IsLw (w : World) (a : Option Addr) (len cap : Nat) (ts : List LP) : Prop :=
  (a = none → len = 0 ∧ cap = 0) ∧ len ≤ cap ∧ cap ≤ 9223372036854775807 ∧ Rk 2 w a len (lcs ts) ∧ ∀ t ∈ ts, lpOk t
theorem IsLw.len {w : World} {a : Option Addr} {len cap : Nat} {ts : List LP} (h : IsLw w a len cap ts) : ts.length = len := by have := h.2.2.2.1.len; rw [lcs_len] at this; omega
end Go.Proofs.Ytickchkcfaggfaa
