/-
  PLAIN MATHEMATICS of durations (layer 8), and CONTRACTS OF PACKAGE zoneinforef08.
-/
import Derived.Test.YtdhogpcoegfopaaGreatDoorRows
import Derived.Test.YtdhogpcoegfopaaGreatDoorStr
namespace Go.Proofs.YtdhogpcoegfopaaGreatDoor
open Go.ChangeShapes Go.WideShapes Go.ChangeAt Go.RowKit
set_option linter.unusedVariables false
set_option maxRecDepth 100000
def dig (c : UInt8) : Bool := decide (48 ≤ (c.toNat : Int)) && decide ((c.toNat : Int) ≤ 57)
def hdig (l : List UInt8) : Bool := match l with | [] => false | c :: _ => dig c
def dval (l : List UInt8) : Int := l.foldl (fun h c => 10 * h + c.toNat - 48) 0
/-- ':dd'. -/
def hmsField (l : List UInt8) : Int :=
  match l with
  | c :: a :: b :: _ => if (c.toNat : Int) = 58 ∧ dig a ∧ dig b ∧ 10 * ((a.toNat : Int) - 48) + b.toNat - 48 ≤ 59 then 10 * ((a.toNat : Int) - 48) + b.toNat - 48 else -1
  | _ => -1
def hmsTail (l : List UInt8) : Int × Nat :=
  if 0 ≤ hmsField l then (if 0 ≤ hmsField (l.drop 3) then (60 * hmsField l + hmsField (l.drop 3), 6) else (60 * hmsField l, 3)) else (0, 0)
def hmsBody (l : List UInt8) : Option (Int × Nat) :=
  let d := l.takeWhile dig
  if 1 ≤ d.length ∧ d.length ≤ 3 ∧ dval d ≤ 167 then some (3600 * dval d + (hmsTail (l.drop d.length)).1, d.length + (hmsTail (l.drop d.length)).2) else none
def hmsParse (l : List UInt8) : Option (Int × Nat) :=
  match l with
  | [] => none
  | c :: t => if (c.toNat : Int) = 43 then (hmsBody t).map fun p => (p.1, p.2 + 1) else if (c.toNat : Int) = 45 then (hmsBody t).map fun p => (- p.1, p.2 + 1) else hmsBody (c :: t)
def hmsRes (r : Option (Int × Nat)) : Value :=
  match r with
  | none => .tuple #[.int .i64 0, .int .i64 0, .bool false]
  | some (v, n) => .tuple #[.int .i64 v, .int .i64 n, .bool true]
theorem retS2 {a b : ByteArray} (h : a = b) : Ending.returned (.string a) = .returned (.string b) := by rw [h]
theorem retV' {a b : Value} (h : a = b) : Ending.returned a = .returned b := by rw [h]
theorem drop_cons {s : ByteArray} {i : Nat} {c : UInt8} {t : List UInt8} (h : (byt s).drop i = c :: t) : ∃ hi : i < s.size, s[i] = c ∧ (byt s).drop (i + 1) = t := by
  have hl : i < (byt s).length := by
    rcases Nat.lt_or_ge i (byt s).length with h' | h'
    · exact h'
    · rw [List.drop_of_length_le h'] at h; cases h
  rw [List.drop_eq_getElem_cons hl] at h
  injection h with h1 h2
  exact ⟨by rw [← len_byt]; exact hl, by rw [← get_byt]; exact h1, h2⟩
theorem drop_nil {s : ByteArray} {i : Nat} (h : (byt s).drop i = []) : s.size ≤ i := by rw [List.drop_eq_nil_iff, len_byt] at h; exact h
theorem dval_snoc (l : List UInt8) (c : UInt8) : dval (l ++ [c]) = 10 * dval l + c.toNat - 48 := by simp [dval]
theorem dval_bd : ∀ (k : Nat) (l : List UInt8), l.length ≤ k → (∀ c ∈ l, dig c = true) → k ≤ 3 → 0 ≤ dval l ∧ dval l ≤ 999 ∧ (l.length ≤ 2 → dval l ≤ 99) ∧ (l.length ≤ 1 → dval l ≤ 9) := by
  intro k l hl hd hk
  have hb : ∀ c ∈ l, 48 ≤ (c.toNat : Int) ∧ (c.toNat : Int) ≤ 57 := fun c hc => by have := hd c hc; unfold dig at this; simpa using this
  match l, hl, hb with
  | [], _, _ => simp [dval]
  | [a], _, hb => have := hb a (by simp); simp [dval]; omega
  | [a, b], _, hb => have := hb a (by simp); have := hb b (by simp); simp [dval]; omega
  | [a, b, c], _, hb => have := hb a (by simp); have := hb b (by simp); have := hb c (by simp); simp [dval]; omega
  | a :: b :: c :: d :: t, hl, _ => simp at hl; omega
theorem hmsField_bd (l : List UInt8) : -1 ≤ hmsField l ∧ hmsField l ≤ 59 := by
  unfold hmsField
  split
  · rename_i c a b t
    split
    · rename_i h
      obtain ⟨_, ha, hb, h3⟩ := h
      unfold dig at ha hb
      simp at ha hb
      omega
    · omega
  · omega
namespace r8_
theorem dig_bd {c : UInt8} (h : dig c = true) : 48 ≤ (c.toNat : Int) ∧ (c.toNat : Int) ≤ 57 := by unfold dig at h; simpa using h
theorem hres {r : Value} {v n v' : Int} {n' : Nat} (hr : r = hmsRes (some (v', n'))) (hv : v = v') (hn : n = n') : Ending.returned (.tuple #[.int .i64 v, .int .i64 n, .bool true]) = .returned r := by rw [hr, hv, hn]; rfl
theorem tw_all' {p : UInt8 → Bool} {l : List UInt8} {c : UInt8} (h : c ∈ l.takeWhile p) : p c = true := by
  induction l with
  | nil => simp at h
  | cons a l ih =>
    by_cases ha : p a = true
    · rw [List.takeWhile_cons_of_pos ha] at h
      rcases List.mem_cons.1 h with rfl | h
      · exact ha
      · exact ih h
    · rw [List.takeWhile_cons_of_neg ha] at h; simp at h
theorem hdig_tw {B : List UInt8} {k : Nat} (h : k < (B.takeWhile dig).length) : ∃ c t, B.drop k = c :: t ∧ dig c = true := by
  have hl := tw_le dig B
  have hk : k < B.length := by omega
  refine ⟨B[k], B.drop (k + 1), List.drop_eq_getElem_cons hk, tw_lt h hk⟩
theorem hdig_end (B : List UInt8) : hdig (B.drop (B.takeWhile dig).length) = false := by
  rcases Nat.lt_or_ge (B.takeWhile dig).length B.length with h | h
  · rw [List.drop_eq_getElem_cons h]
    exact tw_at h
  · rw [List.drop_of_length_le h]
    rfl
theorem take_drop {B : List UInt8} {k : Nat} {c : UInt8} {t : List UInt8} (h : B.drop k = c :: t) : B.take (k + 1) = B.take k ++ [c] := by
  have hl : k < B.length := by
    rcases Nat.lt_or_ge k B.length with h' | h'
    · exact h'
    · rw [List.drop_of_length_le h'] at h; cases h
  rw [List.drop_eq_getElem_cons hl] at h
  injection h with h1 h2
  rw [List.take_succ_eq_append_getElem hl, h1]
--@PARSE
end r8_
end Go.Proofs.YtdhogpcoegfopaaGreatDoor
