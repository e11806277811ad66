/-
  A SLICE OF LOCAL TIME TYPES THAT CAME IN: what it reads as. No program.
-/
import Derived.Test.YtpcddofgjigolaaDoorTtM
import Derived.Test.YtpcddofgjigolaaDoorOwk
namespace Go.Proofs.YtpcddofgjigolaaDoor
open Go.RowKit
set_option linter.unusedVariables false
set_option maxRecDepth 100000
def IsTw (w : World) (a : Option Addr) (len cap : Nat) (ts : List TT) : Prop :=
  (a = none → len = 0 ∧ cap = 0) ∧ len ≤ cap ∧ cap ≤ 9223372036854775807 ∧ Rk 3 w a len (tcs ts) ∧ ∀ t ∈ ts, ttOk t
theorem IsTw.len {w : World} {a : Option Addr} {len cap : Nat} {ts : List TT} (h : IsTw w a len cap ts) : ts.length = len := by have := h.2.2.2.1.len; rw [tcs_len] at this; omega
end Go.Proofs.YtpcddofgjigolaaDoor
