/-
  PLAIN MATHEMATICS of leap-second lists, as the program takes them: rule by rule. No program.
-/
import Derived.Test.YtgbojkbhkjameaaBlM
namespace Go.Proofs.Ytgbojkbhkjameaa
open Go.RowKit
set_option linter.unusedVariables false
set_option maxRecDepth 100000
/-- are the first n records far enough apart? -/
def spB (ts : List LP) (n : Nat) : Bool := (List.range n).all fun j => decide (j = 0) || decide (la ts (j - 1) + 2419199 ≤ la ts j)
/-- do the first n corrections differ by one? -/
def gsB (ts : List LP) (n : Nat) : Bool := (List.range n).all fun j => decide (j = 0) || decide (lr ts j - lr ts (j - 1) = 1) || decide (lr ts j - lr ts (j - 1) = -1)
theorem spB_one (ts : List LP) : spB ts 1 = true := by simp [spB]
theorem gsB_one (ts : List LP) : gsB ts 1 = true := by simp [gsB]
theorem spB_zero (ts : List LP) : spB ts 0 = true := by simp [spB]
theorem gsB_zero (ts : List LP) : gsB ts 0 = true := by simp [gsB]
theorem spB_step (ts : List LP) (n : Nat) (h : 0 < n) : spB ts (n + 1) = (spB ts n && decide (la ts (n - 1) + 2419199 ≤ la ts n)) := by
  unfold spB
  rw [List.range_succ, List.all_append]
  simp [show ¬ n = 0 by omega]
theorem gsB_step (ts : List LP) (n : Nat) (h : 0 < n) : gsB ts (n + 1) = (gsB ts n && (decide (lr ts n - lr ts (n - 1) = 1) || decide (lr ts n - lr ts (n - 1) = -1))) := by
  unfold gsB
  rw [List.range_succ, List.all_append]
  simp [show ¬ n = 0 by omega]
theorem spB_no {ts : List LP} {i n : Nat} (hi : 0 < i) (hn : i < n) (h : ¬ la ts (i - 1) + 2419199 ≤ la ts i) : spB ts n = false := by
  rw [← Bool.not_eq_true]
  intro e
  have := List.all_eq_true.1 e i (List.mem_range.2 hn)
  simp [show ¬ i = 0 by omega] at this
  exact h this
theorem gsB_no {ts : List LP} {i n : Nat} (hi : 0 < i) (hn : i < n) (h1 : ¬ lr ts i - lr ts (i - 1) = 1) (h2 : ¬ lr ts i - lr ts (i - 1) = -1) : gsB ts n = false := by
  rw [← Bool.not_eq_true]
  intro e
  have := List.all_eq_true.1 e i (List.mem_range.2 hn)
  simp [show ¬ i = 0 by omega] at this
  rcases this with h | h
  · exact h1 h
  · exact h2 h
/-- how many corrections are asked to go by ones. -/
def gsN (ts : List LP) (four : Bool) : Nat := if four && exL ts then ts.length - 1 else ts.length
def stB (ts : List LP) (four : Bool) : Bool := four || decide (lr ts 0 = 1) || decide (lr ts 0 = -1)
theorem vL_parts {ts : List LP} (h : 0 < ts.length) (four : Bool) : vL ts four = (decide (0 ≤ la ts 0) && spB ts ts.length && stB ts four && gsB ts (gsN ts four)) := by
  rw [Bool.eq_iff_iff]
  constructor
  · intro hv
    have h0 := vL_at hv h
    simp only [okL, Bool.and_eq_true] at h0
    rw [Bool.and_eq_true, Bool.and_eq_true, Bool.and_eq_true]
    refine ⟨⟨⟨h0.1, ?_⟩, h0.2⟩, ?_⟩
    · refine List.all_eq_true.2 fun j hj => ?_
      have hj' := List.mem_range.1 hj
      cases j with
      | zero => rfl
      | succ j =>
        have := vL_at hv hj'
        simp only [okL, Bool.and_eq_true] at this
        simp [of_decide_eq_true this.1]
    · refine List.all_eq_true.2 fun j hj => ?_
      have hj' := List.mem_range.1 hj
      cases j with
      | zero => rfl
      | succ j =>
        have hN : gsN ts four ≤ ts.length := by unfold gsN; split <;> omega
        have := vL_at hv (show j + 1 < ts.length by omega)
        simp only [okL, Bool.and_eq_true] at this
        have h2 := this.2
        simp at h2 ⊢
        rcases h2 with h2 | ⟨⟨h2, h3⟩, h4⟩
        · exact h2
        · exfalso
          have hx : exL ts = true := by
            unfold exL
            simp
            refine ⟨by omega, ?_⟩
            rw [show ts.length - 1 = j + 1 by omega, show ts.length - 2 = j by omega]
            omega
          unfold gsN at hj'
          rw [h3, hx] at hj'
          simp at hj'
          omega
  · intro hv
    rw [Bool.and_eq_true, Bool.and_eq_true, Bool.and_eq_true] at hv
    obtain ⟨⟨⟨a, b⟩, c⟩, d⟩ := hv
    refine vL_of fun i hi => ?_
    cases i with
    | zero => simp only [okL, Bool.and_eq_true]; exact ⟨a, c⟩
    | succ j =>
      have b1 := List.all_eq_true.1 b (j + 1) (List.mem_range.2 hi)
      simp at b1
      simp only [okL, Bool.and_eq_true]
      refine ⟨decide_eq_true b1, ?_⟩
      by_cases hN : j + 1 < gsN ts four
      · have d1 := List.all_eq_true.1 d (j + 1) (List.mem_range.2 hN)
        simp at d1 ⊢
        exact .inl d1
      · unfold gsN at hN
        by_cases hf : (four && exL ts) = true
        · rw [if_pos hf] at hN
          rw [Bool.and_eq_true] at hf
          have hx := hf.2
          unfold exL at hx
          simp at hx
          have e : lr ts (j + 1) = lr ts j := by
            have := hx.2
            rwa [show ts.length - 1 = j + 1 by omega, show ts.length - 2 = j by omega] at this
          simp
          exact .inr ⟨⟨by omega, hf.1⟩, by omega⟩
        · rw [if_neg hf] at hN
          omega
/-- the correction by the number of records that are not later. -/
theorem cr_cut {ts : List LP} {t : Int} {h : Nat} (hn : h ≤ ts.length) (a : ∀ i, i < h → la ts i ≤ t) (b : ∀ i, h ≤ i → i < ts.length → t < la ts i) : cr ts t = if h = 0 then 0 else lr ts (h - 1) := by
  have := crN_later (ts := ts) (t := t) (i := h) (ts.length - h) (fun j h1 h2 => b j h1 (by omega))
  unfold cr
  rw [show h + (ts.length - h) = ts.length by omega] at this
  rw [this]
  cases h with
  | zero => rfl
  | succ j =>
    rw [crN, if_pos (a j (by omega)), if_neg (by omega)]
    rfl
theorem la_mono {ts : List LP} {four : Bool} (h : vL ts four = true) {i j : Nat} (hij : i ≤ j) (hj : j < ts.length) : la ts i ≤ la ts j := by
  rcases Nat.lt_or_eq_of_le hij with h1 | rfl
  · exact Int.le_of_lt (la_lt' h h1 hj)
  · exact Int.le_refl _
theorem la_some {ts : List LP} {i : Nat} {t : LP} (h : ts[i]? = some t) : la ts i = t.1 ∧ lr ts i = t.2 := by unfold la lr; rw [h]; exact ⟨rfl, rfl⟩
theorem at_some {ts : List LP} {i : Nat} (h : i < ts.length) : ts[i]? = some (la ts i, lr ts i) := by
  unfold la lr
  rw [List.getElem?_eq_getElem h]
  rfl
/-- a record stored, cell by cell. -/
theorem lcs_put (t : LP) : ∀ (ts : List LP) (i : Nat), ((lcs ts).set (i * 2) (.int .i64 t.1)).set (i * 2 + 1) (.int .i32 t.2) = lcs (ts.set i t)
  | [], i => by simp [lcs]
  | a :: l, 0 => by simp [lcs, lc]
  | a :: l, i + 1 => by
    have ih := lcs_put t l i
    unfold lcs at ih ⊢
    rw [List.set_cons_succ, List.flatMap_cons, List.flatMap_cons, ← ih, show (i + 1) * 2 = i * 2 + 2 by omega]
    rfl
/-- the row of records while it is filled. -/
def rowLP (k : Nat) (l : List Int) (m q : Nat) : List LP := dLP k l q ++ List.replicate (m - q) (0, 0)
theorem rowLP_at (k : Nat) (l : List Int) {m q : Nat} (h : q < m) : (rowLP k l m q)[q]? = some (0, 0) := by
  unfold rowLP
  rw [List.getElem?_append_right (by rw [dLP_len]; omega), dLP_len, Nat.sub_self, List.getElem?_replicate, if_pos (by omega)]
theorem rowLP_set (k : Nat) (l : List Int) {m q : Nat} (h : q < m) : (rowLP k l m q).set q (dL k l q) = rowLP k l m (q + 1) := by
  unfold rowLP
  obtain ⟨d, hd⟩ : ∃ d, m - q = d + 1 := ⟨m - q - 1, by omega⟩
  rw [hd, show m - (q + 1) = d by omega, List.set_append_right _ _ (by rw [dLP_len]; omega), dLP_len, Nat.sub_self, List.replicate_succ, List.set_cons_zero, dLP_step, List.append_assoc]
  rfl
end Go.Proofs.Ytgbojkbhkjameaa
