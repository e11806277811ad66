/-
  PLAIN MATHEMATICS of lists made of pieces of one length. No program.
-/
import Derived.Test.YtickchkcfaggfaaBeMath
namespace Go.Proofs.Ytickchkcfaggfaa
open Go.RowKit
set_option linter.unusedVariables false
set_option maxRecDepth 100000
section
variable {α β : Type} {f : α → List β} {K : Nat}
theorem fm_len (h : ∀ a, (f a).length = K) : ∀ ts : List α, (ts.flatMap f).length = ts.length * K
  | [] => by simp
  | a :: t => by
    have := fm_len h t
    rw [List.flatMap_cons, List.length_append, h, this, List.length_cons, Nat.add_mul]
    omega
theorem fm_drop (h : ∀ a, (f a).length = K) (ts : List α) (i : Nat) : (ts.flatMap f).drop (i * K) = (ts.drop i).flatMap f := by
  induction i generalizing ts with
  | zero => simp
  | succ i ih =>
    cases ts with
    | nil => simp
    | cons a t =>
      rw [List.drop_succ_cons, List.flatMap_cons, ← ih t, Nat.add_mul, Nat.one_mul, Nat.add_comm, ← List.drop_drop, List.drop_append_of_le_length (by rw [h]; omega), show (f a).drop K = [] from List.drop_of_length_le (by rw [h]; omega), List.nil_append]
theorem fm_take (h : ∀ a, (f a).length = K) (ts : List α) (i : Nat) : (ts.flatMap f).take (i * K) = (ts.take i).flatMap f := by
  induction i generalizing ts with
  | zero => simp
  | succ i ih =>
    cases ts with
    | nil => simp
    | cons a t =>
      rw [List.take_succ_cons, List.flatMap_cons, List.flatMap_cons, ← ih t, Nat.add_mul, Nat.one_mul, Nat.add_comm, List.take_append]
      rw [h, List.take_of_length_le (by rw [h]; omega), Nat.add_sub_cancel_left]
/-- the j-th of the i-th piece. -/
theorem fm_get (h : ∀ a, (f a).length = K) (ts : List α) (i j : Nat) (a : α) (hi : ts[i]? = some a) (hj : j < K) : (ts.flatMap f)[i * K + j]? = (f a)[j]? := by
  have hl := (List.getElem?_eq_some_iff.1 hi).1
  have e : ts.drop i = a :: ts.drop (i + 1) := by
    rw [List.drop_eq_getElem_cons hl]
    rw [List.getElem?_eq_getElem hl] at hi
    injection hi with hi
    rw [hi]
  rw [← List.getElem?_drop, fm_drop h, e, List.flatMap_cons, List.getElem?_append_left (by rw [h]; exact hj)]
theorem fm_step (ts : List α) (i : Nat) (a : α) (hi : ts[i]? = some a) : (ts.take (i + 1)).flatMap f = (ts.take i).flatMap f ++ f a := by
  have hl := (List.getElem?_eq_some_iff.1 hi).1
  rw [List.getElem?_eq_getElem hl] at hi
  injection hi with hi
  rw [List.take_succ_eq_append_getElem hl, List.flatMap_append, hi]
  simp
theorem fm_inj (h : ∀ a, (f a).length = K) (hf : ∀ a b, f a = f b → a = b) : ∀ (ts us : List α), ts.length = us.length → ts.flatMap f = us.flatMap f → ts = us
  | [], [], _, _ => rfl
  | [], b :: u, hl, _ => by simp at hl
  | a :: t, [], hl, _ => by simp at hl
  | a :: t, b :: u, hl, e => by
    rw [List.flatMap_cons, List.flatMap_cons] at e
    have e2 := List.append_inj e (by rw [h, h])
    rw [hf a b e2.1, fm_inj h hf t u (by simpa using hl) e2.2]
end
end Go.Proofs.Ytickchkcfaggfaa
