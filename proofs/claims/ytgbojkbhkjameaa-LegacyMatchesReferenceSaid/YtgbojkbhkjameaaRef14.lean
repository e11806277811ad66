/-
  CONTRACTS OF PACKAGE zoneinforef14 (the reference of layer 14). Conditions: counts of 32 bits, a time size of 4 or 8.
-/
import Derived.Test.YtgbojkbhkjameaaRows
import Derived.Test.YtgbojkbhkjameaaBase2
import Derived.BigQuiet
import Derived.Deep.DeepCutAuto
namespace Go.Proofs.Ytgbojkbhkjameaa
open Go.ChangeShapes Go.WideShapes Go.ChangeAt Go.RowKit
set_option linter.unusedVariables false
def C32 (x : Int) : Prop := 0 ≤ x ∧ x < 4294967296
/-- six counts of 32 bits and a time size. -/
structure LyC (a b c d x y s : Int) : Prop where
  a : C32 a
  b : C32 b
  c : C32 c
  d : C32 d
  x : C32 x
  y : C32 y
  s : s = 4 ∨ s = 8
@[reducible] def hdV (v a b c d x y : Int) : Value := .agg #[.int .i64 v, .int .u32 a, .int .u32 b, .int .u32 c, .int .u32 d, .int .u32 x, .int .u32 y]
@[reducible] def lenV (a b c d x y s : Int) : Value := .agg #[.int .u64 (d * s), .int .u64 d, .int .u64 (6 * x), .int .u64 y, .int .u64 (c * (s + 4)), .int .u64 b, .int .u64 a]
def lenL (a b c d x y s : Int) : List Int := [d * s, d, 6 * x, y, c * (s + 4), b, a]
/-- the sum of the first k lengths. -/
def pre : List Int → Nat → Int
  | _, 0 => 0
  | [], _ => 0
  | x :: l, k + 1 => x + pre l k
theorem pre_succ : ∀ (l : List Int) (k : Nat) (x : Int), l[k]? = some x → pre l (k + 1) = pre l k + x
  | [], k, x, h => by simp at h
  | y :: l, 0, x, h => by simp at h; subst h; simp [pre]
  | y :: l, k + 1, x, h => by
    have := pre_succ l k x (by simpa using h)
    show y + pre l (k + 1) = y + pre l k + x
    omega
theorem pre_bd : ∀ (l : List Int) (k : Nat) (M : Int), 0 ≤ M → (∀ x ∈ l, 0 ≤ x ∧ x ≤ M) → 0 ≤ pre l k ∧ pre l k ≤ l.length * M
  | l, 0, M, hM, h => by
    refine ⟨by cases l <;> simp [pre], ?_⟩
    have : (0 : Int) ≤ l.length * M := Int.mul_nonneg (by omega) hM
    have e : pre l 0 = 0 := by cases l <;> rfl
    rw [e]
    exact this
  | [], k + 1, M, hM, h => by simp [pre]
  | y :: l, k + 1, M, hM, h => by
    have h1 := pre_bd l k M hM (fun x hx => h x (by simp [hx]))
    have h2 := h y (by simp)
    have e : ((y :: l).length : Int) * M = l.length * M + M := by simp [Int.add_mul]
    rw [e]
    show 0 ≤ y + pre l k ∧ y + pre l k ≤ _
    omega
theorem len_bd {a b c d x y s : Int} (h : LyC a b c d x y s) : ∀ t ∈ lenL a b c d x y s, 0 ≤ t ∧ t ≤ 51539607552 := by
  obtain ⟨⟨a0, a1⟩, ⟨b0, b1⟩, ⟨c0, c1⟩, ⟨d0, d1⟩, ⟨x0, x1⟩, ⟨y0, y1⟩, hs⟩ := h
  intro t ht
  unfold lenL at ht
  rcases hs with rfl | rfl
  all_goals
    simp at ht
    omega
@[reducible] def offV (a b c d x y s : Int) : Value := .agg #[.int .u64 0, .int .u64 (d * s), .int .u64 (d * s + d), .int .u64 (d * s + d + 6 * x), .int .u64 (d * s + d + 6 * x + y), .int .u64 (d * s + d + 6 * x + y + c * (s + 4)), .int .u64 (d * s + d + 6 * x + y + c * (s + 4) + b), .int .u64 (d * s + d + 6 * x + y + c * (s + 4) + b + a)]
@[reducible] def totV (a b c d x y s : Int) : Int := d * s + d + 6 * x + y + c * (s + 4) + b + a
namespace r14_
/-- the cells of a row of lengths. -/
theorem cell_l {w : World} {g : Nat} {l : List Int} (h : Bx w g (l.map (Value.int .u64))) {k : Nat} {x : Int} (hx : l[k]? = some x) : w.cell? ⟨g, k, none⟩ = some (.int .u64 x) := h.2.1 k _ (by rw [List.getElem?_map, hx]; rfl)
/-- Offsets' row while it is filled: done before i, at i the sum of the first k, nothing behind. -/
def outL (l : List Int) (i k : Nat) : List Int := (List.range 8).map fun j => if j < i then pre l j else if j = i then pre l k else 0
theorem outL_len (l : List Int) (i k : Nat) : (outL l i k).length = 8 := by simp [outL]
theorem outL_at (l : List Int) {i : Nat} (k : Nat) (hi : i < 8) : (outL l i k)[i]? = some (pre l k) := by
  unfold outL
  rw [List.getElem?_map, List.getElem?_range hi]
  simp
theorem outL_set (l : List Int) {i : Nat} (k k' : Nat) (hi : i < 8) : (outL l i k).set i (pre l k') = outL l i k' := by
  apply List.ext_getElem?
  intro j
  by_cases hj : j = i
  · subst hj
    rw [List.getElem?_set_self (by rw [outL_len]; exact hi), outL_at l k' hi]
  · rw [List.getElem?_set_ne (fun h => hj h.symm)]
    unfold outL
    rw [List.getElem?_map, List.getElem?_map]
    by_cases h8 : j < 8
    · rw [List.getElem?_range h8]
      simp [hj]
    · rw [List.getElem?_eq_none (by simp; omega)]
      rfl
theorem outL_next (l : List Int) (i : Nat) : outL l i i = outL l (i + 1) 0 := by
  unfold outL
  apply List.map_congr_left
  intro j _
  have h0 : pre l 0 = 0 := by cases l <;> rfl
  by_cases h1 : j < i
  · rw [if_pos h1, if_pos (by omega)]
  · by_cases h2 : j = i
    · rw [if_neg h1, if_pos h2, if_pos (by omega), h2]
    · rw [if_neg h1, if_neg h2, if_neg (by omega)]
      split
      · exact h0.symm
      · rfl
theorem out0 (l : List Int) : outL l 0 0 = [0, 0, 0, 0, 0, 0, 0, 0] := by
  have h0 : pre l 0 = 0 := by cases l <;> rfl
  unfold outL
  rw [h0]
  rfl
theorem bx_snd (w : World) (o : Obj) (vs : List Value) (T : TypeId) : Bx ((w.alloc o).alloc (.cells vs.toArray T)) (w.heap.size + 1) vs := by
  have := Bx.new (w.alloc o) vs T
  rwa [show (w.alloc o).heap.size = w.heap.size + 1 by simp] at this
theorem cells7' {w : World} {g : Nat} {a b c d e f k : Value} (h : Bx w g [a, b, c, d, e, f, k]) : w.cell? ⟨g, 0, none⟩ = some a ∧ w.cell? ⟨g, 1, none⟩ = some b ∧ w.cell? ⟨g, 2, none⟩ = some c ∧ w.cell? ⟨g, 3, none⟩ = some d ∧ w.cell? ⟨g, 4, none⟩ = some e ∧ w.cell? ⟨g, 5, none⟩ = some f ∧ w.cell? ⟨g, 6, none⟩ = some k :=
  ⟨h.2.1 0 _ rfl, h.2.1 1 _ rfl, h.2.1 2 _ rfl, h.2.1 3 _ rfl, h.2.1 4 _ rfl, h.2.1 5 _ rfl, h.2.1 6 _ rfl⟩
theorem cells8 {w : World} {g : Nat} {a b c d e f k m : Value} (h : Bx w g [a, b, c, d, e, f, k, m]) : w.cell? ⟨g, 0, none⟩ = some a ∧ w.cell? ⟨g, 1, none⟩ = some b ∧ w.cell? ⟨g, 2, none⟩ = some c ∧ w.cell? ⟨g, 3, none⟩ = some d ∧ w.cell? ⟨g, 4, none⟩ = some e ∧ w.cell? ⟨g, 5, none⟩ = some f ∧ w.cell? ⟨g, 6, none⟩ = some k ∧ w.cell? ⟨g, 7, none⟩ = some m :=
  ⟨h.2.1 0 _ rfl, h.2.1 1 _ rfl, h.2.1 2 _ rfl, h.2.1 3 _ rfl, h.2.1 4 _ rfl, h.2.1 5 _ rfl, h.2.1 6 _ rfl, h.2.1 7 _ rfl⟩
end r14_
end Go.Proofs.Ytgbojkbhkjameaa
