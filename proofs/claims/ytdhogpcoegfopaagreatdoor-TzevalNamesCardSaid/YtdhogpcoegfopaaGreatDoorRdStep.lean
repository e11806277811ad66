/-
  PLAIN MATHEMATICS of rule days: from one year to the next. No program.
-/
import Derived.Test.YtdhogpcoegfopaaGreatDoorRdMath
namespace Go.Proofs.YtdhogpcoegfopaaGreatDoor
open Go.RowKit
set_option linter.unusedVariables false
theorem ylen_leap (y : Int) : ylen y = 365 + (if leap y = true then 1 else 0) := by unfold ylen; split <;> rfl
theorem month_start (y : Int) (k : Nat) : days y ((k : Int) + 1) 1 = ystart y + cum y k := by
  unfold days yday
  rw [show ((k : Int) + 1 - 1).toNat = k by omega]
  omega
/-- a month's first day, and the day behind its last one, move by 365 or 366 days. -/
theorem start_step (y : Int) (k : Nat) : ystart (y + 1) + cum (y + 1) k - (ystart y + cum y k) = 365 ∨ ystart (y + 1) + cum (y + 1) k - (ystart y + cum y k) = 366 := by
  have h1 := ystart_succ y
  have h2 := ylen_leap y
  have h3 := cum_leap y k
  have h4 := cum_leap (y + 1) k
  rw [h1, h2, h3, h4]
  by_cases hk : 2 ≤ k <;> cases leap y <;> cases leap (y + 1) <;> simp [hk] <;> omega
theorem rdm_step (y M wk wd : Int) (hM : 1 ≤ M) (hM2 : M ≤ 12) (h0 : 0 ≤ wd) (h1 : wd ≤ 6) (h2 : 1 ≤ wk) (h3 : wk ≤ 5) : rdm (y + 1) M wk wd - rdm y M wk wd = 364 ∨ rdm (y + 1) M wk wd - rdm y M wk wd = 371 := by
  obtain ⟨k, rfl⟩ : ∃ k : Nat, M = (k : Int) + 1 := ⟨(M - 1).toNat, by omega⟩
  have s1 := start_step y k
  have s2 := start_step y (k + 1)
  have m1 := month_start y k
  have m2 := month_start (y + 1) k
  have c1 : cum y (k + 1) = cum y k + mdays y ((k : Int) + 1) := rfl
  have c2 : cum (y + 1) (k + 1) = cum (y + 1) k + mdays (y + 1) ((k : Int) + 1) := rfl
  have l1 := mdays_bd y ((k : Int) + 1)
  have l2 := mdays_bd (y + 1) ((k : Int) + 1)
  rw [c1, c2] at s2
  replace s2 : (ystart (y + 1) + cum (y + 1) k) + mdays (y + 1) ((k : Int) + 1) - ((ystart y + cum y k) + mdays y ((k : Int) + 1)) = 365 ∨ (ystart (y + 1) + cum (y + 1) k) + mdays (y + 1) ((k : Int) + 1) - ((ystart y + cum y k) + mdays y ((k : Int) + 1)) = 366 := by omega
  unfold rdm rfirst
  rw [m1, m2]
  generalize ystart y + cum y k = a at *
  generalize ystart (y + 1) + cum (y + 1) k = b at *
  generalize mdays y ((k : Int) + 1) = la at *
  generalize mdays (y + 1) ((k : Int) + 1) = lb at *
  clear m1 m2 c1 c2
  by_cases h : wk ≤ 4
  · rw [if_pos h, if_pos h]
    omega
  · rw [if_neg h, if_neg h]
    split <;> split <;> omega
theorem rdj_step (y D : Int) : rdj (y + 1) D - rdj y D = 365 ∨ rdj (y + 1) D - rdj y D = 366 := by
  have h1 := ystart_succ y
  have h2 := ylen_leap y
  unfold rdj
  rw [h1, h2]
  by_cases h : 60 ≤ D <;> cases leap y <;> cases leap (y + 1) <;> simp [h] <;> omega
end Go.Proofs.YtdhogpcoegfopaaGreatDoor
