/-
  PLAIN MATHEMATICS of formatted durations (layer 8), and CONTRACTS OF zoneinforef08's Format and InRange.
-/
import Derived.Test.YtdhogpcoegfopaaGreatDoorHm
namespace Go.Proofs.YtdhogpcoegfopaaGreatDoor
open Go.ChangeShapes Go.WideShapes Go.ChangeAt Go.RowKit
set_option linter.unusedVariables false
set_option maxRecDepth 100000
/-- the digit of a number. -/
def dg (x : Int) : UInt8 := UInt8.ofNat (48 + x).toNat
def d2 (x : Int) : List UInt8 := [dg (x / 10), dg (x % 10)]
/-- hours, at most three digits. -/
def hh (h : Int) : List UInt8 := (if 100 ≤ h then [49] else []) ++ ((if 10 ≤ h then [dg (h / 10 % 10)] else []) ++ [dg (h % 10)])
def hmsAbs (x : Int) : List UInt8 := hh (x / 3600) ++ ((if 0 < x % 3600 then 58 :: d2 (x / 60 % 60) else []) ++ (if 0 < x % 60 then 58 :: d2 (x % 60) else []))
def hmsFmt (x : Int) : List UInt8 := if x < 0 then 45 :: hmsAbs (-x) else hmsAbs x
theorem dg_toNat {x : Int} (h0 : 0 ≤ x) (h1 : x ≤ 9) : ((dg x).toNat : Int) = 48 + x := by
  unfold dg
  simp
  omega
theorem byt1 {c : UInt8} : byt ⟨#[c]⟩ = [c] := rfl
theorem byt0 : byt ⟨#[]⟩ = [] := rfl
theorem byt_dg {x : Int} : byt ⟨#[UInt8.ofNat x.toNat]⟩ = [UInt8.ofNat x.toNat] := rfl
namespace r8_
--@FORMAT
end r8_
end Go.Proofs.YtdhogpcoegfopaaGreatDoor
