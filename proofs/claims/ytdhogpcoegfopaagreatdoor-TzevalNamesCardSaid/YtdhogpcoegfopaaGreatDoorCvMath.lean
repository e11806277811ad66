/-
  PLAIN MATHEMATICS of the proleptic Gregorian calendar: leap years, month lengths, day numbers, dates. No program.
-/
import Derived.Test.YtdhogpcoegfopaaGreatDoorBase
namespace Go.Proofs.YtdhogpcoegfopaaGreatDoor
open Go.RowKit
set_option linter.unusedVariables false
set_option maxRecDepth 100000

def leap (y : Int) : Bool := decide (y % 400 = 0) || (decide (y % 4 = 0) && decide (y % 100 ≠ 0))
theorem leap_iff (y : Int) : leap y = true ↔ y % 400 = 0 ∨ (y % 4 = 0 ∧ y % 100 ≠ 0) := by simp [leap]
theorem leap_not (y : Int) : leap y = false ↔ ¬ (y % 400 = 0 ∨ (y % 4 = 0 ∧ y % 100 ≠ 0)) := by rw [← leap_iff]; simp
/-- the days of a year. -/
def ylen (y : Int) : Int := if leap y then 366 else 365
/-- the days of a month. -/
def mdays (y m : Int) : Int := if m = 2 then (if leap y then 29 else 28) else if m = 4 ∨ m = 6 ∨ m = 9 ∨ m = 11 then 30 else 31
/-- the days of the first k months. -/
def cum (y : Int) : Nat → Int
  | 0 => 0
  | k + 1 => cum y k + mdays y ((k : Int) + 1)
/-- the day number of January 1. -/
def ystart (y : Int) : Int := 365 * y + ((y - 1) / 4 - (y - 1) / 100 + (y - 1) / 400) - 719527
def yday (y m d : Int) : Int := cum y (m - 1).toNat + d - 1
def days (y m d : Int) : Int := ystart y + yday y m d
def DateOk (y m d : Int) : Prop := 1 ≤ m ∧ m ≤ 12 ∧ 1 ≤ d ∧ d ≤ mdays y m
/-- a day's date. -/
def IsDate (n y m d : Int) : Prop := DateOk y m d ∧ days y m d = n
/-- a valid date of the domain. -/
def Vd (y m d : Int) : Prop := -1099511627776 ≤ y ∧ y ≤ 1099511627776 ∧ DateOk y m d
instance (y m d : Int) : Decidable (Vd y m d) := by unfold Vd DateOk; infer_instance
def loDay : Int := ystart (-1099511627776)
def hiDay : Int := ystart 1099511627777 - 1

theorem ylen_bd (y : Int) : 365 ≤ ylen y ∧ ylen y ≤ 366 := by unfold ylen; split <;> omega
theorem ystart_succ (y : Int) : ystart (y + 1) = ystart y + ylen y := by
  unfold ystart ylen
  split
  · rename_i h; rw [leap_iff] at h; omega
  · rename_i h; rw [Bool.not_eq_true, leap_not] at h; omega
theorem leap_per (y k : Int) : leap (y + 400 * k) = leap y := by
  unfold leap
  rw [show (y + 400 * k) % 400 = y % 400 by omega, show (y + 400 * k) % 4 = y % 4 by omega, show (y + 400 * k) % 100 = y % 100 by omega]
theorem leap_2000 (y : Int) : leap (2000 + y) = leap y := by rw [Int.add_comm, show (2000 : Int) = 400 * 5 from rfl, leap_per]
theorem ylen_per (y k : Int) : ylen (y + 400 * k) = ylen y := by unfold ylen; rw [leap_per]
theorem mdays_per (y k m : Int) : mdays (y + 400 * k) m = mdays y m := by unfold mdays; rw [leap_per]
theorem cum_per (y k : Int) (m : Nat) : cum (y + 400 * k) m = cum y m := by
  induction m with
  | zero => rfl
  | succ m ih => simp only [cum, ih, mdays_per]
theorem ystart_per (y k : Int) : ystart (y + 400 * k) = ystart y + 146097 * k := by unfold ystart; omega
theorem days_per (y m d : Int) : days (y + 400) m d = days y m d + 146097 := by
  have h1 := ystart_per y 1
  have h2 := cum_per y 1 (m - 1).toNat
  unfold days yday
  rw [show y + 400 = y + 400 * 1 by omega, h1, h2]
  omega
theorem mdays_bd (y m : Int) : 28 ≤ mdays y m ∧ mdays y m ≤ 31 := by
  unfold mdays
  split
  · split <;> omega
  · split <;> omega
theorem cum12 (y : Int) : cum y 12 = ylen y := by
  cases h : leap y <;> simp [cum, mdays, ylen, h]
theorem cum_mono (y : Int) {j k : Nat} (h : j ≤ k) : cum y j ≤ cum y k := by
  induction k with
  | zero => rw [Nat.le_zero.1 h]; exact Int.le_refl _
  | succ k ih =>
    rcases Nat.lt_or_ge k j with hk | hk
    · rw [show j = k + 1 by omega]; exact Int.le_refl _
    · have h1 := ih hk
      have h2 := mdays_bd y ((k : Int) + 1)
      simp only [cum]
      omega
theorem cum_bd (y : Int) (k : Nat) : 0 ≤ cum y k ∧ cum y k ≤ 31 * k := by
  induction k with
  | zero => exact ⟨Int.le_refl _, by simp [cum]⟩
  | succ k ih =>
    have h2 := mdays_bd y ((k : Int) + 1)
    simp only [cum]
    omega
theorem yday_bd {y m d : Int} (h : DateOk y m d) : 0 ≤ yday y m d ∧ yday y m d < ylen y := by
  obtain ⟨h1, h2, h3, h4⟩ := h
  obtain ⟨k, rfl⟩ : ∃ k : Nat, m = (k : Int) + 1 := ⟨(m - 1).toNat, by omega⟩
  have e : ((k : Int) + 1 - 1).toNat = k := by omega
  have h5 : cum y (k + 1) ≤ cum y 12 := cum_mono y (by omega)
  have h6 := (cum_bd y k).1
  rw [cum12] at h5
  simp only [cum] at h5
  unfold yday
  rw [e]
  omega
theorem ystart_mono {a b : Int} (h : a ≤ b) : ystart a ≤ ystart b := by unfold ystart; omega
theorem ystart_lt {a b : Int} (h : a < b) : ystart (a + 1) ≤ ystart b := ystart_mono (by omega)
/-- a day lies in just one year. -/
theorem year_uniq {n a b : Int} (h1 : ystart a ≤ n) (h2 : n < ystart (a + 1)) (h3 : ystart b ≤ n) (h4 : n < ystart (b + 1)) : a = b := by
  rcases Int.lt_trichotomy a b with h | h | h
  · have := ystart_lt h; omega
  · exact h
  · have := ystart_lt h; omega
theorem month_uniq {y : Int} {r : Int} {j k : Nat} (h1 : cum y j ≤ r) (h2 : r < cum y (j + 1)) (h3 : cum y k ≤ r) (h4 : r < cum y (k + 1)) : j = k := by
  rcases Nat.lt_trichotomy j k with h | h | h
  · have := cum_mono y (show j + 1 ≤ k from h); omega
  · exact h
  · have := cum_mono y (show k + 1 ≤ j from h); omega
theorem IsDate.year {n y m d : Int} (h : IsDate n y m d) : ystart y ≤ n ∧ n < ystart (y + 1) := by
  have h1 := yday_bd h.1
  have h2 := ystart_succ y
  have h3 := h.2
  unfold days at h3
  omega
theorem IsDate.month {n y m d : Int} (h : IsDate n y m d) : cum y (m - 1).toNat ≤ n - ystart y ∧ n - ystart y < cum y ((m - 1).toNat + 1) ∧ d = n - ystart y - cum y (m - 1).toNat + 1 := by
  obtain ⟨⟨h1, h2, h3, h4⟩, h5⟩ := h
  have e : (((m - 1).toNat : Nat) : Int) + 1 = m := by omega
  unfold days yday at h5
  simp only [cum, e]
  omega
theorem IsDate.uniq {n y m d y' m' d' : Int} (h : IsDate n y m d) (h' : IsDate n y' m' d') : y = y' ∧ m = m' ∧ d = d' := by
  have hy : y = y' := year_uniq h.year.1 h.year.2 h'.year.1 h'.year.2
  subst hy
  obtain ⟨a1, a2, a3⟩ := h.month
  obtain ⟨b1, b2, b3⟩ := h'.month
  have hm := month_uniq a1 a2 b1 b2
  have m1 := h.1.1
  have m2 := h'.1.1
  rw [hm] at a3
  exact ⟨rfl, by omega, by omega⟩
/-- a date out of its year, its month and the rest. -/
theorem IsDate.mk {n y : Int} {k : Nat} (h1 : ystart y ≤ n) (hk : k ≤ 11) (h3 : cum y k ≤ n - ystart y) (h4 : n - ystart y < cum y (k + 1)) : IsDate n y ((k : Int) + 1) (n - ystart y - cum y k + 1) := by
  refine ⟨⟨by omega, by omega, by omega, ?_⟩, ?_⟩
  · simp only [cum] at h4
    omega
  · unfold days yday
    rw [show ((k : Int) + 1 - 1).toNat = k by omega]
    omega
theorem month_ex (y r : Int) (h0 : 0 ≤ r) : ∀ K : Nat, r < cum y K → ∃ k : Nat, k < K ∧ cum y k ≤ r ∧ r < cum y (k + 1)
  | 0, h => by simp [cum] at h; omega
  | K + 1, h => by
    by_cases hk : r < cum y K
    · obtain ⟨k, h1, h2⟩ := month_ex y r h0 K hk
      exact ⟨k, by omega, h2⟩
    · exact ⟨K, by omega, by omega, h⟩
theorem year_ex (n : Int) : ∃ y, ystart y ≤ n ∧ n < ystart (y + 1) := by
  have up : ∀ K : Nat, ∀ y : Int, ystart y ≤ n → n < ystart (y + K) → ∃ y, ystart y ≤ n ∧ n < ystart (y + 1) := by
    intro K
    induction K with
    | zero => intro y h1 h2; simp at h2; omega
    | succ K ih =>
      intro y h1 h2
      by_cases h : n < ystart (y + 1)
      · exact ⟨y, h1, h⟩
      · refine ih (y + 1) (by omega) ?_
        rw [show y + 1 + (K : Int) = y + ((K + 1 : Nat) : Int) by omega]
        exact h2
  obtain ⟨q, hq⟩ : ∃ q, q = (n - ystart 0) / 146097 := ⟨_, rfl⟩
  have e1 := ystart_per 0 q
  have e2 := ystart_per 0 (q + 1)
  refine up 400 (0 + 400 * q) ?_ ?_
  · omega
  · rw [show 0 + 400 * q + ((400 : Nat) : Int) = 0 + 400 * (q + 1) by omega]
    omega
theorem IsDate.ex (n : Int) : ∃ y m d, IsDate n y m d := by
  obtain ⟨y, h1, h2⟩ := year_ex n
  have h3 := ystart_succ y
  obtain ⟨k, h4, h5, h6⟩ := month_ex y (n - ystart y) (by omega) 12 (by rw [cum12]; omega)
  exact ⟨y, _, _, IsDate.mk h1 (by omega) h5 h6⟩
theorem days_first (y : Int) : days y 1 1 = ystart y := by
  unfold days yday
  rw [show ((1 : Int) - 1).toNat = 0 from rfl]
  simp [cum]
theorem days_last (y : Int) : days y 12 31 = ystart (y + 1) - 1 := by
  have h1 := ystart_succ y
  have h2 := cum12 y
  have h3 : cum y 12 = cum y 11 + 31 := rfl
  unfold days yday
  rw [show ((12 : Int) - 1).toNat = 11 from rfl]
  omega
theorem IsDate.of {y m d : Int} (h : DateOk y m d) : IsDate (days y m d) y m d := ⟨h, rfl⟩
/-- a day of the domain has a year of the domain. -/
theorem IsDate.dom {n y m d : Int} (h : IsDate n y m d) (h1 : loDay ≤ n) (h2 : n ≤ hiDay) : Vd y m d := by
  obtain ⟨a, b⟩ := h.year
  refine ⟨?_, ?_, h.1⟩
  · rcases Int.lt_or_le y (-1099511627776) with h | h
    · have := ystart_lt h; unfold loDay at h1; omega
    · exact h
  · rcases Int.lt_or_le 1099511627776 y with h | h
    · have := ystart_mono (show 1099511627777 ≤ y by omega); unfold hiDay at h2; omega
    · exact h
theorem Vd.day {y m d : Int} (h : Vd y m d) : loDay ≤ days y m d ∧ days y m d ≤ hiDay := by
  obtain ⟨h1, h2, h3⟩ := h
  obtain ⟨a, b⟩ := (IsDate.of h3).year
  have := ystart_mono h1
  have := ystart_mono (show y + 1 ≤ 1099511627777 by omega)
  unfold loDay hiDay
  omega
/-- a date, counted from 2000 in cycles of 400 years: what a search for it meets. -/
theorem IsDate.era {n Y M D k r : Int} (h : IsDate n Y M D) (hk : n - 10957 = 146097 * k + r) (h0 : 0 ≤ r) (h1 : r < 146097) :
    ∃ (q mm : Nat) (yd : Int), Y = 2000 + 400 * k + q ∧ q < 400 ∧ M = (mm : Int) + 1 ∧ mm ≤ 11 ∧ r - (ystart (2000 + q) - 10957) = yd ∧ 0 ≤ yd ∧ yd < ylen q ∧ cum q mm ≤ yd ∧ yd < cum q (mm + 1) ∧ D = yd - cum q mm + 1 := by
  obtain ⟨a, b⟩ := h.year
  have e1 := ystart_per 2000 k
  have e2 := ystart_per 2000 (k + 1)
  have e0 : ystart 2000 = 10957 := rfl
  rw [e0] at e1 e2
  have hq0 : 2000 + 400 * k ≤ Y := by
    rcases Int.lt_or_le Y (2000 + 400 * k) with h | h
    · have := ystart_lt h; omega
    · exact h
  have hq1 : Y < 2000 + 400 * (k + 1) := by
    rcases Int.lt_or_le Y (2000 + 400 * (k + 1)) with h | h
    · exact h
    · have := ystart_mono h; omega
  obtain ⟨q, rfl⟩ : ∃ q : Nat, Y = 2000 + 400 * k + q := ⟨(Y - (2000 + 400 * k)).toNat, by omega⟩
  have hM := h.1.1
  have hM2 := h.1.2.1
  obtain ⟨mm, rfl⟩ : ∃ mm : Nat, M = (mm : Int) + 1 := ⟨(M - 1).toNat, by omega⟩
  obtain ⟨c1, c2, c3⟩ := h.month
  rw [show ((mm : Int) + 1 - 1).toNat = mm by omega] at c1 c2 c3
  have hs := ystart_succ (2000 + 400 * k + q)
  have ec : ∀ m, cum (2000 + 400 * k + q) m = cum q m := fun m => by
    rw [show (2000 + 400 * k + (q : Int)) = q + 400 * (5 + k) by omega, cum_per]
  have el : ylen (2000 + 400 * k + q) = ylen q := by rw [show (2000 + 400 * k + (q : Int)) = q + 400 * (5 + k) by omega, ylen_per]
  have es : ystart (2000 + 400 * k + q) = ystart (2000 + q) + 146097 * k := by
    rw [show (2000 + 400 * k + (q : Int)) = 2000 + q + 400 * k by omega, ystart_per]
  rw [ec] at c1 c2 c3
  rw [el] at hs
  refine ⟨q, mm, r - (ystart (2000 + q) - 10957), rfl, by omega, rfl, by omega, rfl, by omega, by omega, by omega, by omega, by omega⟩
/-- the date after a date. -/
theorem IsDate.nextDay {n y m d : Int} (h : IsDate n y m d) (hd : d + 1 ≤ mdays y m) : IsDate (n + 1) y m (d + 1) := by
  obtain ⟨⟨h1, h2, h3, h4⟩, h5⟩ := h
  refine ⟨⟨by omega, by omega, by omega, by omega⟩, ?_⟩
  unfold days yday at h5 ⊢
  omega
theorem IsDate.nextMonth {n y m d : Int} (h : IsDate n y m d) (hd : mdays y m < d + 1) (hm : m + 1 ≤ 12) : IsDate (n + 1) y (m + 1) 1 := by
  obtain ⟨⟨h1, h2, h3, h4⟩, h5⟩ := h
  obtain ⟨k, rfl⟩ : ∃ k : Nat, m = (k : Int) + 1 := ⟨(m - 1).toNat, by omega⟩
  have := mdays_bd y ((k : Int) + 1 + 1)
  refine ⟨⟨by omega, by omega, by omega, by omega⟩, ?_⟩
  unfold days yday at h5 ⊢
  rw [show ((k : Int) + 1 - 1).toNat = k by omega] at h5
  rw [show ((k : Int) + 1 + 1 - 1).toNat = k + 1 by omega]
  simp only [cum]
  omega
theorem IsDate.nextYear {n y m d : Int} (h : IsDate n y m d) (hd : mdays y m < d + 1) (hm : 12 < m + 1) : IsDate (n + 1) (y + 1) 1 1 := by
  obtain ⟨⟨h1, h2, h3, h4⟩, h5⟩ := h
  obtain rfl : m = 12 := by omega
  have hc := cum12 y
  have hs := ystart_succ y
  have := mdays_bd (y + 1) 1
  refine ⟨⟨by omega, by omega, by omega, by omega⟩, ?_⟩
  unfold days yday at h5 ⊢
  rw [show ((12 : Int) - 1).toNat = 11 by rfl] at h5
  rw [show ((1 : Int) - 1).toNat = 0 by rfl]
  have e : cum y 12 = cum y 11 + mdays y 12 := rfl
  simp only [cum]
  omega
end Go.Proofs.YtdhogpcoegfopaaGreatDoor
