/-
  PLAIN MATHEMATICS of designation tables (layer 12): lists of bytes as integers. No program.
-/
import Derived.Test.YtgbojkbhkjameaaStr
namespace Go.Proofs.Ytgbojkbhkjameaa
open Go.RowKit
set_option linter.unusedVariables false
/-- a byte of a name; a byte of a table. -/
def dsA (x : Int) : Bool := decide (x = 43) || decide (x = 45) || (decide (48 ≤ x) && decide (x ≤ 57)) || (decide (65 ≤ x) && decide (x ≤ 90)) || (decide (97 ≤ x) && decide (x ≤ 122))
def dsG (x : Int) : Bool := decide (x = 0) || dsA x
/-- where a table is bad: -1 if nowhere. -/
def badL (xs : List Int) : Int := if (xs.takeWhile dsG).length < xs.length then ((xs.takeWhile dsG).length : Int) else if xs.getLast? = some 0 then -1 else xs.length
def nz (x : Int) : Bool := decide (¬ x = 0)
/-- the name at an index. -/
def nameL (xs : List Int) (i : Nat) : List Int := (xs.drop i).takeWhile nz
/-- bytes as a string. -/
def bS (l : List Int) : ByteArray := mkS (l.map (fun x => UInt8.ofNat x.toNat))
def IsB (xs : List Int) : Prop := ∀ x ∈ xs, 0 ≤ x ∧ x < 256
theorem twi_facts (p : Int → Bool) (xs : List Int) : ∃ q, (xs.takeWhile p).length = q ∧ q ≤ xs.length ∧ (∀ k x, k < q → xs[k]? = some x → p x = true) ∧ (∀ x, xs[q]? = some x → p x = false) := by
  induction xs with
  | nil => exact ⟨0, rfl, Nat.le_refl _, fun k x h => by omega, fun x h => by simp at h⟩
  | cons a l ih =>
    obtain ⟨q, h1, h2, h3, h4⟩ := ih
    by_cases ha : p a = true
    · refine ⟨q + 1, by rw [List.takeWhile_cons_of_pos ha]; simp [h1], by simp; omega, fun k x hk hx => ?_, fun x hx => h4 x (by simpa using hx)⟩
      cases k with
      | zero => simp at hx; subst hx; exact ha
      | succ k => exact h3 k x (by omega) (by simpa using hx)
    · refine ⟨0, by rw [List.takeWhile_cons_of_neg ha]; rfl, by simp, fun k x hk => by omega, fun x hx => ?_⟩
      simp at hx
      subst hx
      simpa using ha
theorem badL_iff (xs : List Int) : badL xs = -1 ↔ (∀ x ∈ xs, dsG x = true) ∧ xs.getLast? = some 0 := by
  obtain ⟨q, h1, h2, h3, h4⟩ := twi_facts dsG xs
  unfold badL
  rw [h1]
  by_cases hq : q < xs.length
  · rw [if_pos hq]
    refine ⟨fun h => by omega, fun h => ?_⟩
    have h5 : xs[q]? = some xs[q] := List.getElem?_eq_getElem hq
    have := h4 _ h5
    rw [h.1 _ (List.getElem_mem hq)] at this
    cases this
  · rw [if_neg hq]
    have hall : ∀ x ∈ xs, dsG x = true := by
      intro x hx
      obtain ⟨k, hk, rfl⟩ := List.getElem_of_mem hx
      exact h3 k _ (by omega) (List.getElem?_eq_getElem hk)
    by_cases hl : xs.getLast? = some 0
    · rw [if_pos hl]; exact ⟨fun _ => ⟨hall, hl⟩, fun _ => rfl⟩
    · rw [if_neg hl]
      exact ⟨fun h => by omega, fun h => absurd h.2 hl⟩
end Go.Proofs.Ytgbojkbhkjameaa
