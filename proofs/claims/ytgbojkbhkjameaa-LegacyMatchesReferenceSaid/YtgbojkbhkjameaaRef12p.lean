/-
  CONTRACTS of zoneinforef12 (the reference of layer 12): Plain. Conditions: a slice of strings that can be read.
-/
import Derived.Test.YtgbojkbhkjameaaRef12
namespace Go.Proofs.Ytgbojkbhkjameaa
open Go.ChangeShapes Go.WideShapes Go.ChangeAt Go.RowKit
set_option linter.unusedVariables false
abbrev strs (ss : List ByteArray) : List Value := ss.map Value.string
theorem rs_at {w : World} {A : Option Addr} {n : Nat} {ss : List ByteArray} (h : Rd w A n (strs ss)) {i : Nat} (hi : i < n) : ∃ ad x, A = some ad ∧ ss[i]? = some x ∧ w.cell? (ad.add i) = some (.string x) := by
  obtain ⟨ad, v, h1, h2, h3⟩ := h.at_ hi
  rw [List.getElem?_map] at h2
  cases hx : ss[i]? with
  | none => rw [hx] at h2; simp at h2
  | some x => rw [hx] at h2; simp at h2; subst h2; exact ⟨ad, x, h1, rfl, h3⟩
def dsB (c : UInt8) : Bool := dsA c.toNat
/-- a short name of allowed bytes. -/
def okN (s : ByteArray) : Bool := decide (s.size ≤ 300) && (byt s).all dsB
def plainL (ss : List ByteArray) : Bool := ss.all okN && decide (ss.length ≤ 60)
theorem tws_facts (p : ByteArray → Bool) (xs : List ByteArray) : ∃ q, (xs.all p = decide (q = xs.length)) ∧ q ≤ xs.length ∧ (∀ k x, k < q → xs[k]? = some x → p x = true) ∧ (∀ x, xs[q]? = some x → p x = false) := by
  induction xs with
  | nil => exact ⟨0, rfl, Nat.le_refl _, fun k x h => by omega, fun x h => by simp at h⟩
  | cons a l ih =>
    obtain ⟨q, h1, h2, h3, h4⟩ := ih
    by_cases ha : p a = true
    · refine ⟨q + 1, by simp [ha, h1], by simp; omega, fun k x hk hx => ?_, fun x hx => h4 x (by simpa using hx)⟩
      cases k with
      | zero => simp at hx; subst hx; exact ha
      | succ k => exact h3 k x (by omega) (by simpa using hx)
    · refine ⟨0, by simp [ha], by simp, fun k x hk => by omega, fun x hx => ?_⟩
      simp at hx
      subst hx
      simpa using ha
theorem pre_facts_ (p : UInt8 → Bool) (s : ByteArray) : ∃ n, ((byt s).all p = decide (n = s.size)) ∧ n ≤ s.size ∧ (∀ k (h : k < s.size), k < n → p s[k] = true) ∧ (∀ h : n < s.size, p s[n] = false) := by
  have hle := tw_le p (byt s)
  rw [len_byt] at hle
  refine ⟨((byt s).takeWhile p).length, by rw [all_tw, len_byt], hle, fun k h hk => ?_, fun h => ?_⟩
  · rw [← get_byt s k h]
    exact tw_lt hk _
  · rw [← get_byt s _ h]
    exact tw_at (by rw [len_byt]; exact h)
namespace r12_
end r12_
end Go.Proofs.Ytgbojkbhkjameaa
