/-
  PLAIN MATHEMATICS of rule days: the day that a rule day names in a year. No program.
-/
import Derived.Test.YtdhogpcoegfopaaGreatDoorCvMath
namespace Go.Proofs.YtdhogpcoegfopaaGreatDoor
open Go.RowKit
set_option linter.unusedVariables false
set_option maxRecDepth 100000
/-- the first day of the month with the weekday. -/
def rfirst (y M wd : Int) : Int := days y M 1 + (wd - (days y M 1 + 4)) % 7
def rdm (y M wk wd : Int) : Int := if wk ≤ 4 then rfirst y M wd + 7 * (wk - 1) else if rfirst y M wd + 28 < days y M 1 + mdays y M then rfirst y M wd + 28 else rfirst y M wd + 21
def rdj (y D : Int) : Int := ystart y + D - 1 + (if leap y = true ∧ 60 ≤ D then 1 else 0)
/-- the day of a rule day (Kind, Day, Month, Week, Weekday) in a year. -/
def rday (K D M Wk Wd y : Int) : Int := if K = 2 then ystart y + D else if K = 1 then rdj y D else rdm y M Wk Wd
def RdOk (K D M Wk Wd T : Int) : Prop := -604799 ≤ T ∧ T ≤ 604799 ∧ ((K = 1 ∧ 1 ≤ D ∧ D ≤ 365 ∧ M = 0 ∧ Wk = 0 ∧ Wd = 0) ∨ (K = 2 ∧ 0 ≤ D ∧ D ≤ 365 ∧ M = 0 ∧ Wk = 0 ∧ Wd = 0) ∨ (K = 3 ∧ D = 0 ∧ 1 ≤ M ∧ M ≤ 12 ∧ 1 ≤ Wk ∧ Wk ≤ 5 ∧ 0 ≤ Wd ∧ Wd ≤ 6))
instance (K D M Wk Wd T : Int) : Decidable (RdOk K D M Wk Wd T) := by unfold RdOk; infer_instance

/-- a rule day: Kind, Day, Month, Week, Weekday, Time. -/
abbrev RD := Int × Int × Int × Int × Int × Int
def rdOk (d : RD) : Prop := RdOk d.1 d.2.1 d.2.2.1 d.2.2.2.1 d.2.2.2.2.1 d.2.2.2.2.2
instance (d : RD) : Decidable (rdOk d) := by unfold rdOk; infer_instance
def rd0 : RD := (0, 0, 0, 0, 0, 0)
theorem rfirst_bd (y M wd : Int) (h0 : 0 ≤ wd) (h1 : wd ≤ 6) : days y M 1 ≤ rfirst y M wd ∧ rfirst y M wd ≤ days y M 1 + 6 ∧ (rfirst y M wd + 4) % 7 = wd := by
  unfold rfirst
  omega
theorem rdm_bd (y M wk wd : Int) (h0 : 0 ≤ wd) (h1 : wd ≤ 6) (h2 : 1 ≤ wk) (h3 : wk ≤ 5) : days y M 1 ≤ rdm y M wk wd ∧ rdm y M wk wd < days y M 1 + mdays y M ∧ (rdm y M wk wd + 4) % 7 = wd := by
  have h := rfirst_bd y M wd h0 h1
  have hm := mdays_bd y M
  unfold rdm
  split
  · omega
  · split <;> omega
/-- the month of a Julian day: the months of a year that is no leap year. -/
theorem julian {D : Int} (h0 : 1 ≤ D) (h1 : D ≤ 365) : ∃ k : Nat, k ≤ 11 ∧ cum 2001 k < D ∧ D ≤ cum 2001 (k + 1) := by
  obtain ⟨k, h2, h3, h4⟩ := month_ex 2001 (D - 1) (by omega) 12 (by rw [cum12]; rw [show ylen 2001 = 365 from rfl]; omega)
  exact ⟨k, by omega, by omega, by omega⟩
theorem cum_leap (y : Int) (k : Nat) : cum y k = cum 2001 k + (if leap y = true ∧ 2 ≤ k then 1 else 0) := by
  induction k with
  | zero => simp [cum]
  | succ k ih =>
    have e : mdays y ((k : Int) + 1) = mdays 2001 ((k : Int) + 1) + (if leap y = true ∧ k = 1 then 1 else 0) := by
      by_cases hk : k = 1
      · subst hk
        cases h : leap y <;> simp [mdays, h, show leap 2001 = false from rfl]
      · have : ¬ ((k : Int) + 1 = 2) := by omega
        simp [mdays, this, hk]
    simp only [cum, ih, e]
    cases h : leap y
    · simp
    · rcases (show k = 0 ∨ k = 1 ∨ 2 ≤ k by omega) with rfl | rfl | hk
      · simp
      · simp; omega
      · have h1 : ¬ k = 1 := by omega
        have h2 : 2 ≤ k + 1 := by omega
        simp [hk, h1, h2]
        omega
theorem mdays_ge (y m : Int) : mdays 2001 m ≤ mdays y m := by
  by_cases h : m = 2
  · subst h
    cases hl : leap y <;> simp [mdays, hl, show leap 2001 = false from rfl]
  · simp [mdays, h]
theorem julian_day {y D : Int} {k : Nat} (hk : k ≤ 11) (h1 : cum 2001 k < D) (h2 : D ≤ cum 2001 (k + 1)) : days y ((k : Int) + 1) (D - cum 2001 k) = rdj y D ∧ DateOk y ((k : Int) + 1) (D - cum 2001 k) := by
  have hc := cum_leap y k
  have hc2 := cum_leap y (k + 1)
  have hm : D - cum 2001 k ≤ mdays y ((k : Int) + 1) := by
    simp only [cum] at hc2 h2
    have := mdays_ge y ((k : Int) + 1)
    omega
  have h60 : (60 ≤ D) ↔ 2 ≤ k := by
    have e2 : cum 2001 2 = 59 := rfl
    constructor
    · intro h
      rcases Nat.lt_or_ge k 2 with hl | hl
      · have := cum_mono 2001 (show k + 1 ≤ 2 by omega); omega
      · exact hl
    · intro h
      have := cum_mono 2001 h
      omega
  refine ⟨?_, by omega, by omega, by omega, hm⟩
  unfold days yday rdj
  rw [show ((k : Int) + 1 - 1).toNat = k by omega, hc]
  simp only [h60]
  omega
end Go.Proofs.YtdhogpcoegfopaaGreatDoor
