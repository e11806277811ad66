/-
  PLAIN MATHEMATICS of designations (layer 7), and CONTRACTS OF PACKAGE zoneinforef07.
-/
import Derived.Test.YtjjmkbofddbnnaaDoorRows
import Derived.Test.YtjjmkbofddbnnaaDoorStr
namespace Go.Proofs.YtjjmkbofddbnnaaDoor
open Go.ChangeShapes Go.WideShapes Go.ChangeAt Go.RowKit
set_option linter.unusedVariables false
set_option maxRecDepth 100000
def alphaI (x : Int) : Bool := (decide (65 ≤ x) && decide (x ≤ 90)) || (decide (97 ≤ x) && decide (x ≤ 122))
def alpha (c : UInt8) : Bool := alphaI c.toNat
def nameI (x : Int) : Bool := alphaI x || (decide (48 ≤ x) && decide (x ≤ 57)) || decide (x = 43) || decide (x = 45)
def nameB (c : UInt8) : Bool := nameI c.toNat
def nameOk (l : List UInt8) : Bool := decide (3 ≤ l.length) && decide (l.length ≤ 255) && l.all nameB
def letters (l : List UInt8) : Nat := (l.takeWhile alpha).length
/-- what Format gives. -/
def tnFmt (l : List UInt8) : List UInt8 := if letters l = l.length then l else 60 :: (l ++ [62])
def not62 (c : UInt8) : Bool := decide (¬ (c.toNat : Int) = 62)
/-- what Parse gives: the designation, and how much it takes. -/
def tnParse (l : List UInt8) : Option (List UInt8 × Nat) :=
  match l with
  | [] => none
  | a :: t =>
    if a.toNat = 60 then
      let q := t.takeWhile not62
      if q.length < t.length ∧ nameOk q then some (q, q.length + 2) else none
    else
      let q := l.takeWhile alpha
      if nameOk q then some (q, q.length) else none
def tnRes (r : Option (List UInt8 × Nat)) : Value :=
  match r with
  | none => .tuple #[.string ⟨#[]⟩, .int .i64 0, .bool false]
  | some (q, n) => .tuple #[.string (mkS q), .int .i64 n, .bool true]
theorem retV {a b : Value} (h : a = b) : Ending.returned a = .returned b := by rw [h]
theorem retS {a b : ByteArray} (h : a = b) : Ending.returned (.string a) = .returned (.string b) := by rw [h]
namespace r7_
end r7_
end Go.Proofs.YtjjmkbofddbnnaaDoor
