/-
  PLAIN MATHEMATICS of leap-second lists (layer 17): validity, the correction, the expiration. No program.
-/
import Derived.Test.YtickchkcfaggfaaLpM
namespace Go.Proofs.Ytickchkcfaggfaa
open Go.RowKit
set_option linter.unusedVariables false
set_option maxRecDepth 100000
def la (ts : List LP) (i : Nat) : Int := (ts[i]?.getD (0, 0)).1
def lr (ts : List LP) (i : Nat) : Int := (ts[i]?.getD (0, 0)).2
/-- is the record at place i in order (for version 4: 'four')? -/
def okL (ts : List LP) (four : Bool) : Nat → Bool
  | 0 => decide (0 ≤ la ts 0) && (four || decide (lr ts 0 = 1) || decide (lr ts 0 = -1))
  | j + 1 => decide (la ts j + 2419199 ≤ la ts (j + 1)) && (decide (lr ts (j + 1) - lr ts j = 1) || decide (lr ts (j + 1) - lr ts j = -1) || (decide (lr ts (j + 1) - lr ts j = 0) && four && decide (j + 2 = ts.length)))
def vL (ts : List LP) (four : Bool) : Bool := (List.range ts.length).all (okL ts four)
theorem vL_at {ts : List LP} {four : Bool} (h : vL ts four = true) {i : Nat} (hi : i < ts.length) : okL ts four i = true := List.all_eq_true.1 h i (List.mem_range.2 hi)
theorem vL_of {ts : List LP} {four : Bool} (h : ∀ i, i < ts.length → okL ts four i = true) : vL ts four = true := List.all_eq_true.2 fun i hi => h i (List.mem_range.1 hi)
theorem vL_no {ts : List LP} {four : Bool} {i : Nat} (hi : i < ts.length) (h : okL ts four i = false) : vL ts four = false := by
  rw [← Bool.not_eq_true]
  intro e
  rw [vL_at e hi] at h
  cases h
theorem vL_nil (four : Bool) : vL [] four = true := rfl
/-- valid for version 3: for version 4, too. -/
theorem vL_34 {ts : List LP} (h : vL ts false = true) : vL ts true = true := vL_of fun i hi => by
  have := vL_at h hi
  cases i with
  | zero => simp [okL] at this ⊢; exact this.1
  | succ j => simp [okL] at this ⊢; exact ⟨this.1, .inl this.2⟩
theorem la_take {ts : List LP} {k i : Nat} (h : i < k) : la (ts.take k) i = la ts i := by unfold la; rw [List.getElem?_take, if_pos h]
theorem lr_take {ts : List LP} {k i : Nat} (h : i < k) : lr (ts.take k) i = lr ts i := by unfold lr; rw [List.getElem?_take, if_pos h]
/-- a prefix of a valid list. -/
theorem vL_take {ts : List LP} (h : vL ts true = true) {k : Nat} (hk : k < ts.length) : vL (ts.take k) true = true := vL_of fun i hi => by
  rw [List.length_take] at hi
  have hik : i < k := by omega
  have := vL_at h (show i < ts.length by omega)
  cases i with
  | zero => simp only [okL] at this ⊢; rw [la_take hik, lr_take hik]; exact this
  | succ j =>
    simp only [okL] at this ⊢
    rw [la_take hik, lr_take hik, la_take (by omega), lr_take (by omega)]
    simp at this ⊢
    refine ⟨this.1, ?_⟩
    rcases this.2 with h2 | h2
    · exact .inl h2
    · omega
/-- later records are later. -/
theorem la_step {ts : List LP} {four : Bool} (h : vL ts four = true) {j : Nat} (hj : j + 1 < ts.length) : la ts j + 2419199 ≤ la ts (j + 1) := by
  have := vL_at h hj
  simp [okL] at this
  exact this.1
theorem la_lt {ts : List LP} {four : Bool} (h : vL ts four = true) {i : Nat} : ∀ d : Nat, i + d + 1 < ts.length → la ts i < la ts (i + d + 1)
  | 0, hd => by
    have := la_step h (j := i) (by omega)
    rw [Nat.add_zero]
    omega
  | d + 1, hd => by
    have h1 := la_lt h (i := i) d (by omega)
    have h2 := la_step h (j := i + d + 1) (by omega)
    rw [show i + (d + 1) + 1 = i + d + 1 + 1 by omega]
    omega
theorem la_lt' {ts : List LP} {four : Bool} (h : vL ts four = true) {i j : Nat} (hij : i < j) (hj : j < ts.length) : la ts i < la ts j := by
  have := la_lt h (i := i) (j - i - 1) (by omega)
  rwa [show i + (j - i - 1) + 1 = j by omega] at this
theorem la_pos {ts : List LP} {four : Bool} (h : vL ts four = true) (i : Nat) (hi : i < ts.length) : 0 ≤ la ts i := by
  have h0 := vL_at h (show 0 < ts.length by omega)
  simp [okL] at h0
  rcases Nat.eq_zero_or_pos i with rfl | hp
  · exact h0.1
  · have := la_lt' h hp hi
    omega
/-- two neighbours turned. -/
theorem vL_swap {ts : List LP} (h : vL ts true = true) {i : Nat} (hi : i + 1 < ts.length) : vL ((ts.set i (ts[i + 1]?.getD (0, 0))).set (i + 1) (ts[i]?.getD (0, 0))) true = false := by
  refine vL_no (i := i + 1) (by simpa using hi) ?_
  have e1 : la ((ts.set i (ts[i + 1]?.getD (0, 0))).set (i + 1) (ts[i]?.getD (0, 0))) i = la ts (i + 1) := by
    unfold la
    rw [List.getElem?_set_ne (by omega), List.getElem?_set_self (by omega)]
    rfl
  have e2 : la ((ts.set i (ts[i + 1]?.getD (0, 0))).set (i + 1) (ts[i]?.getD (0, 0))) (i + 1) = la ts i := by
    unfold la
    rw [List.getElem?_set_self (by simpa using hi)]
    rfl
  have := la_step h hi
  simp only [okL]
  rw [e1, e2, decide_eq_false (by omega), Bool.false_and]
/-- the correction at time t, out of the first n records. -/
def crN (ts : List LP) (t : Int) : Nat → Int
  | 0 => 0
  | n + 1 => if la ts n ≤ t then lr ts n else crN ts t n
def cr (ts : List LP) (t : Int) : Int := crN ts t ts.length
theorem crN_later {ts : List LP} {t : Int} {i : Nat} : ∀ d : Nat, (∀ j, i ≤ j → j < i + d → t < la ts j) → crN ts t (i + d) = crN ts t i
  | 0, _ => rfl
  | d + 1, h => by
    show crN ts t (i + d + 1) = _
    rw [crN, if_neg (by have := h (i + d) (by omega) (by omega); omega)]
    exact crN_later d fun j h1 h2 => h j h1 (by omega)
/-- the correction at a record's time. -/
theorem cr_at {ts : List LP} {four : Bool} (h : vL ts four = true) {i : Nat} (hi : i < ts.length) : cr ts (la ts i) = lr ts i := by
  have := crN_later (ts := ts) (t := la ts i) (i := i + 1) (ts.length - (i + 1)) (fun j h1 h2 => la_lt' h (by omega) (by omega))
  unfold cr
  rw [show i + 1 + (ts.length - (i + 1)) = ts.length by omega] at this
  rw [this, crN, if_pos (Int.le_refl _)]
/-- the correction just before a record's time. -/
theorem cr_before {ts : List LP} {four : Bool} (h : vL ts four = true) {i : Nat} (hi : i < ts.length) : cr ts (la ts i - 1) = if i = 0 then 0 else lr ts (i - 1) := by
  have := crN_later (ts := ts) (t := la ts i - 1) (i := i) (ts.length - i) (fun j h1 h2 => by
    rcases Nat.lt_or_eq_of_le h1 with h3 | rfl
    · have := la_lt' h h3 (by omega)
      omega
    · omega)
  unfold cr
  rw [show i + (ts.length - i) = ts.length by omega] at this
  rw [this]
  cases i with
  | zero => rfl
  | succ j =>
    rw [crN, if_pos (by have := la_step h hi; omega), if_neg (by omega)]
    rfl
/-- between records nothing changes. -/
theorem cr_quiet {ts : List LP} {t : Int} (h : ∀ i, i < ts.length → la ts i ≠ t) : cr ts t = cr ts (t - 1) := by
  have : ∀ n, n ≤ ts.length → crN ts t n = crN ts (t - 1) n := by
    intro n
    induction n with
    | zero => exact fun _ => rfl
    | succ n ih =>
      intro hn
      have hne := h n (by omega)
      rw [crN, crN, ih (by omega)]
      by_cases hle : la ts n ≤ t
      · rw [if_pos hle, if_pos (by omega)]
      · rw [if_neg hle, if_neg (by omega)]
  exact this _ (Nat.le_refl _)
/-- does the list end in an expiration? -/
def exL (ts : List LP) : Bool := decide (2 ≤ ts.length) && decide (lr ts (ts.length - 1) = lr ts (ts.length - 2))
theorem cr_expiry {ts : List LP} {four : Bool} (h : vL ts four = true) (hx : exL ts = true) : cr ts (la ts (ts.length - 1)) = cr ts (la ts (ts.length - 1) - 1) := by
  unfold exL at hx
  simp at hx
  rw [cr_at h (by omega), cr_before h (by omega), if_neg (by omega), hx.2, show ts.length - 1 - 1 = ts.length - 2 by omega]
end Go.Proofs.Ytickchkcfaggfaa
