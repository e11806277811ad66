/-
  PLAIN MATHEMATICS of the changes of a POSIX TZ rule: their instants as seconds, year by year; the state at a time. No program, no conditions beyond each theorem's own.
-/
import Derived.Test.YtdhogpcoegfopaaGreatDoorRdStep
namespace Go.Proofs.YtdhogpcoegfopaaGreatDoor
open Go.RowKit
set_option linter.unusedVariables false
/-- the day of a rule day in a year. -/
def rdD (d : RD) (y : Int) : Int := rday d.1 d.2.1 d.2.2.1 d.2.2.2.1 d.2.2.2.2.1 y
/-- the instant of a change, in seconds. -/
def chI (d : RD) (o : Int) (y : Int) : Int := rdD d y * 86400 + d.2.2.2.2.2 - o
theorem rdD_step {d : RD} (h : rdOk d) (y : Int) : 364 ≤ rdD d (y + 1) - rdD d y ∧ rdD d (y + 1) - rdD d y ≤ 371 := by
  obtain ⟨K, D, M, Wk, Wd, T⟩ := d
  obtain ⟨_, _, hk⟩ := h
  unfold rdD rday
  simp only at hk ⊢
  rcases hk with ⟨rfl, _⟩ | ⟨rfl, _⟩ | ⟨rfl, _, h2, h3, h4, h5, h6, h7⟩
  · have := rdj_step y D
    simp only [show ¬ (1 : Int) = 2 by decide, if_false, if_true]
    omega
  · have := ystart_succ y
    have := ylen_bd y
    simp only [if_true]
    omega
  · have := rdm_step y M Wk Wd h2 h3 h6 h7 h4 h5
    simp only [show ¬ (3 : Int) = 2 by decide, show ¬ (3 : Int) = 1 by decide, if_false]
    omega
theorem rdj_per (y D : Int) : rdj (y + 400) D = rdj y D + 146097 := by
  unfold rdj
  have := ystart_per y 1
  have e := leap_per y 1
  rw [show y + 400 * 1 = y + 400 by omega] at this e
  rw [e, this]
  omega
theorem rdm_per (y M Wk Wd : Int) : rdm (y + 400) M Wk Wd = rdm y M Wk Wd + 146097 := by
  have h1 := days_per y M 1
  have h2 := mdays_per y 1 M
  rw [show y + 400 * 1 = y + 400 by omega] at h2
  have hf : rfirst (y + 400) M Wd = rfirst y M Wd + 146097 := by
    unfold rfirst
    rw [h1]
    omega
  unfold rdm
  rw [hf, h1, h2]
  split
  · omega
  · split
    · rw [if_pos (by omega)]; omega
    · rw [if_neg (by omega)]; omega
theorem rdD_per {d : RD} (h : rdOk d) (y : Int) : rdD d (y + 400) = rdD d y + 146097 := by
  obtain ⟨K, D, M, Wk, Wd, T⟩ := d
  unfold rdD rday
  simp only
  split
  · have := ystart_per y 1
    rw [show y + 400 * 1 = y + 400 by omega] at this
    omega
  · split
    · exact rdj_per y D
    · exact rdm_per y M Wk Wd
theorem chI_step {d : RD} (h : rdOk d) (o y : Int) : 31449600 ≤ chI d o (y + 1) - chI d o y ∧ chI d o (y + 1) - chI d o y ≤ 32054400 := by
  have := rdD_step h y
  unfold chI
  omega
theorem chI_per {d : RD} (h : rdOk d) (o y : Int) : chI d o (y + 400) = chI d o y + 12622780800 := by
  have := rdD_per h y
  unfold chI
  omega
theorem chI_add {d : RD} (h : rdOk d) (o y : Int) (k : Nat) : 31449600 * (k : Int) ≤ chI d o (y + k) - chI d o y ∧ chI d o (y + k) - chI d o y ≤ 32054400 * (k : Int) := by
  induction k with
  | zero => simp
  | succ k ih =>
    have := chI_step h o (y + k)
    rw [show y + ((k + 1 : Nat) : Int) = y + k + 1 by omega]
    omega
theorem chI_lt {d : RD} (h : rdOk d) (o : Int) {y z : Int} (hz : y < z) : chI d o y < chI d o z := by
  have := chI_add h o y (z - y).toNat
  rw [show y + ((z - y).toNat : Int) = z by omega] at this
  omega
theorem chI_le {d : RD} (h : rdOk d) (o : Int) {y z : Int} : chI d o y ≤ chI d o z ↔ y ≤ z := by
  refine ⟨fun hh => ?_, fun hh => ?_⟩
  · by_cases hc : y ≤ z
    · exact hc
    · have := chI_lt h o (show z < y by omega); omega
  · rcases Int.lt_or_eq_of_le hh with hl | rfl
    · exact Int.le_of_lt (chI_lt h o hl)
    · exact Int.le_refl _
/-- the latest change of its kind. -/
theorem chI_ex {d : RD} (h : rdOk d) (o t : Int) : ∃ y, chI d o y ≤ t ∧ t < chI d o (y + 1) := by
  -- a year far enough below
  have hlow : ∃ y0, chI d o y0 ≤ t := by
    by_cases h0 : chI d o 0 ≤ t
    · exact ⟨0, h0⟩
    · have := chI_add h o (-((chI d o 0 - t).toNat : Int)) (chI d o 0 - t).toNat
      rw [show -((chI d o 0 - t).toNat : Int) + ((chI d o 0 - t).toNat : Int) = 0 by omega] at this
      exact ⟨-((chI d o 0 - t).toNat : Int), by omega⟩
  obtain ⟨y0, h0⟩ := hlow
  have key : ∀ (k : Nat) (y : Int), chI d o y ≤ t → t < chI d o y + 31449600 * (k : Int) → ∃ y, chI d o y ≤ t ∧ t < chI d o (y + 1) := by
    intro k
    induction k with
    | zero => intro y h1 h2; omega
    | succ k ih =>
      intro y h1 h2
      by_cases h3 : t < chI d o (y + 1)
      · exact ⟨y, h1, h3⟩
      · have := chI_step h o y
        exact ih (y + 1) (by omega) (by omega)
  exact key ((t - chI d o y0).toNat + 1) y0 h0 (by omega)
theorem chI_uniq {d : RD} (h : rdOk d) (o : Int) {t y z : Int} (h1 : chI d o y ≤ t) (h2 : t < chI d o (y + 1)) (h3 : chI d o z ≤ t) : z ≤ y := by
  by_cases hc : z ≤ y
  · exact hc
  · have := (chI_le h o).2 (show y + 1 ≤ z by omega); omega
/-- daylight saving time is in effect: the latest start is not before the latest end. -/
def onS (st en : RD) (so dof t : Int) : Prop := ∃ y, chI st so y ≤ t ∧ ∀ z, chI en dof z ≤ t → chI en dof z ≤ chI st so y
theorem onS_iff {st en : RD} (hs : rdOk st) (he : rdOk en) {so dof t ya yb : Int} (a1 : chI st so ya ≤ t) (a2 : t < chI st so (ya + 1)) (b1 : chI en dof yb ≤ t) (b2 : t < chI en dof (yb + 1)) :
    onS st en so dof t ↔ chI en dof yb ≤ chI st so ya := by
  refine ⟨fun ⟨y, h1, h2⟩ => ?_, fun h => ⟨ya, a1, fun z hz => ?_⟩⟩
  · have := h2 yb b1
    have := (chI_le hs so).2 (chI_uniq hs so a1 a2 h1)
    omega
  · have := (chI_le he dof).2 (chI_uniq he dof b1 b2 hz)
    omega
/-- between two changes nothing changes. -/
theorem onS_const {st en : RD} (hs : rdOk st) (he : rdOk en) {so dof t u : Int} (htu : t ≤ u) (h1 : ∀ y, chI st so y ≤ u → chI st so y ≤ t) (h2 : ∀ y, chI en dof y ≤ u → chI en dof y ≤ t) : onS st en so dof t ↔ onS st en so dof u := by
  obtain ⟨ya, a1, a2⟩ := chI_ex hs so t
  obtain ⟨yb, b1, b2⟩ := chI_ex he dof t
  have a3 : u < chI st so (ya + 1) := by
    by_cases hc : u < chI st so (ya + 1)
    · exact hc
    · have := h1 (ya + 1) (by omega); omega
  have b3 : u < chI en dof (yb + 1) := by
    by_cases hc : u < chI en dof (yb + 1)
    · exact hc
    · have := h2 (yb + 1) (by omega); omega
  rw [onS_iff hs he a1 a2 b1 b2, onS_iff hs he (by omega) a3 (by omega) b3]
/-- the state repeats after 400 years. -/
theorem onS_cycle {st en : RD} (hs : rdOk st) (he : rdOk en) (so dof t : Int) : onS st en so dof (t + 12622780800) ↔ onS st en so dof t := by
  obtain ⟨ya, a1, a2⟩ := chI_ex hs so t
  obtain ⟨yb, b1, b2⟩ := chI_ex he dof t
  have a3 := chI_per hs so ya
  have a4 := chI_per hs so (ya + 1)
  have b3 := chI_per he dof yb
  have b4 := chI_per he dof (yb + 1)
  rw [onS_iff hs he a1 a2 b1 b2, onS_iff hs he (ya := ya + 400) (yb := yb + 400) (by omega) (by rw [show ya + 400 + 1 = ya + 1 + 400 by omega]; omega) (by omega) (by rw [show yb + 400 + 1 = yb + 1 + 400 by omega]; omega)]
  omega
/-- where the state changes, there is a change. -/
theorem onS_change {st en : RD} (hs : rdOk st) (he : rdOk en) {so dof u : Int} (h : ¬ (onS st en so dof (u - 1) ↔ onS st en so dof u)) : (∃ y, chI st so y = u) ∨ (∃ y, chI en dof y = u) := by
  by_cases h1 : ∃ y, chI st so y = u
  · exact .inl h1
  by_cases h2 : ∃ y, chI en dof y = u
  · exact .inr h2
  refine absurd (onS_const hs he (by omega) (fun y hy => ?_) (fun y hy => ?_)) h
  · have : ¬ chI st so y = u := fun e => h1 ⟨y, e⟩
    omega
  · have : ¬ chI en dof y = u := fun e => h2 ⟨y, e⟩
    omega
/-! ### the years that count -/
theorem cum_pos {y M : Int} (h0 : 1 ≤ M) (h1 : M ≤ 12) : ystart y ≤ days y M 1 ∧ days y M 1 + mdays y M ≤ ystart (y + 1) := by
  have e : days y M 1 = ystart y + cum y (M - 1).toNat := by unfold days yday; omega
  have h2 := cum_bd y (M - 1).toNat
  have h3 : cum y ((M - 1).toNat + 1) = cum y (M - 1).toNat + mdays y M := by
    show cum y (M - 1).toNat + mdays y (((M - 1).toNat : Int) + 1) = _
    rw [show ((M - 1).toNat : Int) + 1 = M by omega]
  have h4 := cum_mono y (show (M - 1).toNat + 1 ≤ 12 by omega)
  rw [cum12] at h4
  have := ystart_succ y
  omega
theorem rdD_bd {d : RD} (h : rdOk d) (y : Int) : ystart y ≤ rdD d y ∧ rdD d y ≤ ystart (y + 1) := by
  obtain ⟨K, D, M, Wk, Wd, T⟩ := d
  obtain ⟨_, _, hk⟩ := h
  have hs := ystart_succ y
  have hl := ylen_leap y
  unfold rdD rday
  simp only at hk ⊢
  rcases hk with ⟨rfl, h1, h2, _⟩ | ⟨rfl, h1, h2, _⟩ | ⟨rfl, _, h2, h3, h4, h5, h6, h7⟩
  · simp only [show ¬ (1 : Int) = 2 by decide, if_false, if_true]
    unfold rdj
    cases hy : leap y
    · rw [hy] at hl
      simp at hl ⊢
      omega
    · rw [hy] at hl
      simp at hl ⊢
      split <;> omega
  · simp only [if_true]
    cases hy : leap y
    · rw [hy] at hl; simp at hl; omega
    · rw [hy] at hl; simp at hl; omega
  · simp only [show ¬ (3 : Int) = 2 by decide, show ¬ (3 : Int) = 1 by decide, if_false]
    have := rdm_bd y M Wk Wd h6 h7 h4 h5
    have := cum_pos (y := y) h2 h3
    omega
theorem chI_bd {d : RD} (h : rdOk d) {o : Int} (ho : -89999 ≤ o ∧ o ≤ 89999) (y : Int) : ystart y * 86400 - 694798 ≤ chI d o y ∧ chI d o y ≤ ystart (y + 1) * 86400 + 694798 := by
  have h1 := rdD_bd h y
  have h2 := h.1
  have h3 := h.2.1
  unfold chI
  omega
theorem ystart_gap {a b : Int} (h : a < b) : ystart a + 365 ≤ ystart b := by
  have := ystart_succ a
  have := ylen_bd a
  have := ystart_mono (show a + 1 ≤ b by omega)
  omega
/-- the latest change before a time of year Y is of the years Y - 2 to Y + 1. -/
theorem chI_win {d : RD} (h : rdOk d) {o t Y y : Int} (ho : -89999 ≤ o ∧ o ≤ 89999) (t0 : ystart Y * 86400 ≤ t) (t1 : t < ystart (Y + 1) * 86400) (h1 : chI d o y ≤ t) (h2 : t < chI d o (y + 1)) : Y - 2 ≤ y ∧ y ≤ Y + 1 := by
  have b1 := chI_bd h ho y
  have b2 := chI_bd h ho (y + 1)
  constructor
  · by_cases hc : Y - 2 ≤ y
    · exact hc
    · have := ystart_gap (show y + 1 + 1 < Y by omega)
      omega
  · by_cases hc : y ≤ Y + 1
    · exact hc
    · have := ystart_gap (show Y + 1 < y by omega)
      omega
/-- a change after a time of year Y, at most so many days later, is of the years Y - 1 to Y + k. -/
theorem chI_after {d : RD} (h : rdOk d) {o t Y y u : Int} (k : Nat) (ho : -89999 ≤ o ∧ o ≤ 89999) (t0 : ystart Y * 86400 ≤ t) (t1 : t < ystart (Y + 1) * 86400) (h1 : t < chI d o y) (h2 : chI d o y ≤ u) (h3 : u ≤ t + 365 * 86400 * (k : Int) - 86400 * 10) : Y - 1 ≤ y ∧ y ≤ Y + 1 + k := by
  have b1 := chI_bd h ho y
  constructor
  · by_cases hc : Y - 1 ≤ y
    · exact hc
    · have := ystart_gap (show y + 1 < Y by omega)
      omega
  · by_cases hc : y ≤ Y + 1 + k
    · exact hc
    · have key : ∀ j : Nat, ystart (Y + 1) + 365 * (j : Int) ≤ ystart (Y + 1 + j) := by
        intro j
        induction j with
        | zero => simp
        | succ j ih =>
          have := ystart_gap (show Y + 1 + (j : Int) < Y + 1 + ((j + 1 : Nat) : Int) by omega)
          omega
      have := key k
      have := ystart_mono (show Y + 1 + (k : Int) ≤ y by omega)
      omega
/-! ### the next change -/
/-- what Next answers: the first time at which the state differs from that a second before, within 64 bits and 400 years. -/
def nextOk (S : Int → Prop) (t n : Int) (ok : Bool) : Prop :=
  (ok = true ∧ t < n ∧ n ≤ 9223372036854775807 ∧ n ≤ t + 12622780800 ∧ ¬ (S (n - 1) ↔ S n) ∧ ∀ u, t < u → u < n → (S (u - 1) ↔ S u))
  ∨ (ok = false ∧ n = 0 ∧ ∀ u, t < u → u ≤ 9223372036854775807 → u ≤ t + 12622780800 → (S (u - 1) ↔ S u))
theorem nextOk_uniq {S : Int → Prop} {t n m : Int} {ok is : Bool} (h1 : nextOk S t n ok) (h2 : nextOk S t m is) : n = m ∧ ok = is := by
  rcases h1 with ⟨rfl, a1, a2, a3, a4, a5⟩ | ⟨rfl, rfl, a1⟩
  · rcases h2 with ⟨rfl, b1, b2, b3, b4, b5⟩ | ⟨rfl, rfl, b1⟩
    · refine ⟨?_, rfl⟩
      rcases Int.lt_trichotomy n m with h | h | h
      · exact absurd (b5 n a1 h) a4
      · exact h
      · exact absurd (a5 m b1 h) b4
    · exact absurd (b1 n a1 a2 a3) a4
  · rcases h2 with ⟨rfl, b1, b2, b3, b4, b5⟩ | ⟨rfl, rfl, b1⟩
    · exact absurd (a1 m b1 b2 b3) b4
    · exact ⟨rfl, rfl⟩
/-- the state of a rule: never on without daylight saving time. -/
def ruleS (hd : Bool) (st en : RD) (so dof t : Int) : Prop := hd = true ∧ onS st en so dof t
theorem ruleS_no {st en : RD} {so dof t : Int} : ¬ ruleS false st en so dof t := fun h => by cases h.1
theorem nextOk_no {st en : RD} {so dof t n : Int} {ok : Bool} (h : nextOk (ruleS false st en so dof) t n ok) : n = 0 ∧ ok = false := by
  rcases h with ⟨_, _, _, _, h, _⟩ | ⟨h1, h2, _⟩
  · exact absurd ⟨fun h => absurd h ruleS_no, fun h => absurd h ruleS_no⟩ h
  · exact ⟨h2, h1⟩
end Go.Proofs.YtdhogpcoegfopaaGreatDoor
