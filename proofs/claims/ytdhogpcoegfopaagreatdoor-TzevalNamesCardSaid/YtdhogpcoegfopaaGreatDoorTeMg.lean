/-
  PLAIN MATHEMATICS of merging the changes of a rule: the two ascending rows of changes, year by year, taken in order of time; the state behind a part of them; the first that changes the state.
-/
import Derived.Test.YtdhogpcoegfopaaGreatDoorTeMath
namespace Go.Proofs.YtdhogpcoegfopaaGreatDoor
open Go.RowKit
set_option linter.unusedVariables false
/-- the state that the changes so far have set. -/
def lastSt (pre : List (Int × Bool)) : Bool := (pre.getLast?.map (·.2)).getD false
theorem lastSt_snoc (pre : List (Int × Bool)) (x : Int × Bool) : lastSt (pre ++ [x]) = x.2 := by simp [lastSt]
theorem lastSt_nil : lastSt [] = false := rfl
/-- what has come in order of time, and the years whose changes are next. -/
inductive Mg (st en : RD) (so dof lo hi : Int) : List (Int × Bool) → Int → Int → Prop
  | nil : Mg st en so dof lo hi [] lo lo
  | a {pre ys ye} : Mg st en so dof lo hi pre ys ye → ys ≤ hi → ye ≤ hi → chI st so ys < chI en dof ye → Mg st en so dof lo hi (pre ++ [(chI st so ys, true)]) (ys + 1) ye
  | ab {pre ys ye} : Mg st en so dof lo hi pre ys ye → ys ≤ hi → ye ≤ hi → chI st so ys = chI en dof ye → Mg st en so dof lo hi (pre ++ [(chI st so ys, true)]) (ys + 1) (ye + 1)
  | b {pre ys ye} : Mg st en so dof lo hi pre ys ye → ys ≤ hi → ye ≤ hi → chI en dof ye < chI st so ys → Mg st en so dof lo hi (pre ++ [(chI en dof ye, false)]) ys (ye + 1)
structure MgI (st en : RD) (so dof lo hi : Int) (pre : List (Int × Bool)) (ys ye : Int) : Prop where
  l1 : lo ≤ ys
  l2 : lo ≤ ye
  h1 : ys ≤ max lo (hi + 1)
  h2 : ye ≤ max lo (hi + 1)
  c1 : lo < ye → chI en dof (ye - 1) < chI st so ys
  c2 : lo < ys → chI st so (ys - 1) < chI en dof ye
  s : lastSt pre = true ↔ lo < ys ∧ (ye = lo ∨ chI en dof (ye - 1) ≤ chI st so (ys - 1))
  m1 : lo < ys → ∃ x ∈ pre, x.1 = chI st so (ys - 1)
  m2 : lo < ye → ∃ x ∈ pre, x.1 = chI en dof (ye - 1)
section
variable {st en : RD} {so dof lo hi : Int} {pre : List (Int × Bool)} {ys ye : Int}
theorem Mg.inv (hs : rdOk st) (he : rdOk en) (h : Mg st en so dof lo hi pre ys ye) : MgI st en so dof lo hi pre ys ye := by
  induction h with
  | nil => exact ⟨by omega, by omega, by omega, by omega, by omega, by omega, by simp [lastSt], by omega, by omega⟩
  | a hm h1 h2 hc ih =>
    rename_i pre ys ye
    have := chI_step hs so ys
    have l1 := ih.l1
    have l2 := ih.l2
    have e : ys + 1 - 1 = ys := by omega
    refine ⟨by omega, by omega, by omega, by omega, fun hl => ?_, fun _ => by rw [e]; exact hc, ?_, fun _ => ⟨(chI st so ys, true), by simp, by rw [e]⟩, fun hl => ?_⟩
    · have := ih.c1 hl; omega
    · rw [lastSt_snoc, e]
      refine ⟨fun _ => ⟨by omega, ?_⟩, fun _ => rfl⟩
      by_cases hl : ye = lo
      · exact .inl hl
      · have := ih.c1 (by omega); exact .inr (by omega)
    · obtain ⟨x, hx, hv⟩ := ih.m2 hl
      exact ⟨x, by simp [hx], hv⟩
  | ab hm h1 h2 hc ih =>
    rename_i pre ys ye
    have := chI_step hs so ys
    have := chI_step he dof ye
    have l1 := ih.l1
    have l2 := ih.l2
    have e : ys + 1 - 1 = ys := by omega
    have e2 : ye + 1 - 1 = ye := by omega
    refine ⟨by omega, by omega, by omega, by omega, fun hl => by rw [e2]; omega, fun _ => by rw [e]; omega, ?_, fun _ => ⟨(chI st so ys, true), by simp, by rw [e]⟩, fun _ => ⟨(chI st so ys, true), by simp, by rw [e2, ← hc]⟩⟩
    rw [lastSt_snoc, e, e2]
    exact ⟨fun _ => ⟨by omega, .inr (by omega)⟩, fun _ => rfl⟩
  | b hm h1 h2 hc ih =>
    rename_i pre ys ye
    have := chI_step he dof ye
    have l1 := ih.l1
    have l2 := ih.l2
    have e2 : ye + 1 - 1 = ye := by omega
    refine ⟨by omega, by omega, by omega, by omega, fun hl => by rw [e2]; omega, fun hl => ?_, ?_, fun hl => ?_, fun _ => ⟨(chI en dof ye, false), by simp, by rw [e2]⟩⟩
    · have := ih.c2 hl; omega
    · rw [lastSt_snoc, e2]
      refine ⟨fun h => (by cases h), fun ⟨h1, h2⟩ => ?_⟩
      have := ih.c2 h1
      omega
    · obtain ⟨x, hx, hv⟩ := ih.m1 hl
      exact ⟨x, by simp [hx], hv⟩
/-- one step back. -/
theorem Mg.back {x : Int × Bool} {y z : Int} (h : Mg st en so dof lo hi (pre ++ [x]) y z) : ∃ ys ye, Mg st en so dof lo hi pre ys ye ∧ x.1 ≤ chI st so ys ∧ x.1 ≤ chI en dof ye ∧
    ((x = (chI st so ys, true) ∧ y = ys + 1 ∧ z = ye ∧ chI st so ys < chI en dof ye) ∨ (x = (chI st so ys, true) ∧ y = ys + 1 ∧ z = ye + 1 ∧ chI st so ys = chI en dof ye) ∨ (x = (chI en dof ye, false) ∧ y = ys ∧ z = ye + 1 ∧ chI en dof ye < chI st so ys)) := by
  generalize hq : pre ++ [x] = q at h
  cases h with
  | nil => simp at hq
  | a hm h1 h2 hc =>
    obtain ⟨rfl, hx⟩ := List.append_inj' hq rfl
    cases hx
    exact ⟨_, _, hm, by simp, by simp; omega, .inl ⟨rfl, rfl, rfl, hc⟩⟩
  | ab hm h1 h2 hc =>
    obtain ⟨rfl, hx⟩ := List.append_inj' hq rfl
    cases hx
    exact ⟨_, _, hm, by simp, by simp; omega, .inr (.inl ⟨rfl, rfl, rfl, hc⟩)⟩
  | b hm h1 h2 hc =>
    obtain ⟨rfl, hx⟩ := List.append_inj' hq rfl
    cases hx
    exact ⟨_, _, hm, by simp; omega, by simp, .inr (.inr ⟨rfl, rfl, rfl, hc⟩)⟩
/-- the state between what has come and what is next. -/
theorem Mg.on (hs : rdOk st) (he : rdOk en) (h : Mg st en so dof lo hi pre ys ye) {u : Int} (hy : lo < ys) (hz : lo < ye) (a1 : chI st so (ys - 1) ≤ u) (a2 : u < chI st so ys) (b1 : chI en dof (ye - 1) ≤ u) (b2 : u < chI en dof ye) :
    onS st en so dof u ↔ lastSt pre = true := by
  have hi := h.inv hs he
  have e1 : ys - 1 + 1 = ys := by omega
  have e2 : ye - 1 + 1 = ye := by omega
  rw [onS_iff hs he a1 (by rw [e1]; exact a2) b1 (by rw [e2]; exact b2), hi.s]
  omega
end
theorem chI_early {d : RD} (h : rdOk d) {o t Y : Int} (ho : -89999 ≤ o ∧ o ≤ 89999) (t0 : ystart Y * 86400 ≤ t) : chI d o (Y - 2) ≤ t := by
  have b := chI_bd h ho (Y - 2)
  have := ystart_gap (show Y - 2 + 1 < Y by omega)
  omega
theorem chI_late {d : RD} (h : rdOk d) {o t Y : Int} (ho : -89999 ≤ o ∧ o ≤ 89999) (t1 : t < ystart (Y + 1) * 86400) : t < chI d o (Y + 2) := by
  have b := chI_bd h ho (Y + 2)
  have := ystart_gap (show Y + 1 < Y + 2 by omega)
  omega
section
variable {st en : RD} {so dof t Y : Int} {pre : List (Int × Bool)}
theorem mg_day (hs : rdOk st) (he : rdOk en) (so0 : -89999 ≤ so ∧ so ≤ 89999) (do0 : -89999 ≤ dof ∧ dof ≤ 89999) (t0 : ystart Y * 86400 ≤ t) {hi y z : Int} {x : Int × Bool}
    (h : Mg st en so dof (Y - 2) hi (pre ++ [x]) y z) (hp : ∀ c ∈ pre, c.1 ≤ t) (hx : t < x.1) : onS st en so dof t ↔ lastSt pre = true := by
  obtain ⟨ys, ye, hm, x1, x2, _⟩ := h.back
  have iv := hm.inv hs he
  have e1 := chI_early hs so0 t0
  have e2 := chI_early he do0 t0
  have l1 : Y - 2 < ys := by
    have := iv.l1
    by_cases hc : ys = Y - 2
    · rw [hc] at x1; omega
    · omega
  have l2 : Y - 2 < ye := by
    have := iv.l2
    by_cases hc : ye = Y - 2
    · rw [hc] at x2; omega
    · omega
  obtain ⟨p, hp1, hp2⟩ := iv.m1 l1
  obtain ⟨q, hq1, hq2⟩ := iv.m2 l2
  have := hp p hp1
  have := hp q hq1
  exact hm.on hs he l1 l2 (by omega) (by omega) (by omega) (by omega)
theorem mg_day_end (hs : rdOk st) (he : rdOk en) (so0 : -89999 ≤ so ∧ so ≤ 89999) (do0 : -89999 ≤ dof ∧ dof ≤ 89999) (t1 : t < ystart (Y + 1) * 86400) {y z : Int}
    (h : Mg st en so dof (Y - 2) (Y + 2) pre y z) (hd : Y + 2 < y ∨ Y + 2 < z) (hp : ∀ c ∈ pre, c.1 ≤ t) : False := by
  have iv := h.inv hs he
  have h1 := iv.h1
  have h2 := iv.h2
  rcases hd with hd | hd
  · obtain ⟨p, hp1, hp2⟩ := iv.m1 (by omega)
    have := hp p hp1
    have := chI_late hs so0 t1
    rw [show y - 1 = Y + 2 by omega] at hp2
    omega
  · obtain ⟨p, hp1, hp2⟩ := iv.m2 (by omega)
    have := hp p hp1
    have := chI_late he do0 t1
    rw [show z - 1 = Y + 2 by omega] at hp2
    omega
/-- no change so far, behind t, has changed the state; none is later than last. -/
inductive Kp (t last : Int) : List (Int × Bool) → Prop
  | nil : Kp t last []
  | snoc {pre x} : Kp t last pre → x.1 ≤ last → (t < x.1 → x.2 = lastSt pre) → Kp t last (pre ++ [x])
theorem Kp.back {last : Int} {x : Int × Bool} (h : Kp t last (pre ++ [x])) : Kp t last pre ∧ x.1 ≤ last ∧ (t < x.1 → x.2 = lastSt pre) := by
  generalize hq : pre ++ [x] = q at h
  cases h with
  | nil => simp at hq
  | snoc h1 h2 h3 =>
    obtain ⟨rfl, hx⟩ := List.append_inj' hq rfl
    cases hx
    exact ⟨h1, h2, h3⟩
theorem Kp.all {last : Int} (h : Kp t last pre) : ∀ c ∈ pre, c.1 ≤ last := by
  induction h with
  | nil => simp
  | snoc h1 h2 h3 ih =>
    intro c hc
    rcases List.mem_append.1 hc with hc | hc
    · exact ih c hc
    · simp at hc; subst hc; exact h2
/-- between what has come and what is next the state is that at t. -/
theorem mg_const (hs : rdOk st) (he : rdOk en) (so0 : -89999 ≤ so ∧ so ≤ 89999) (do0 : -89999 ≤ dof ∧ dof ≤ 89999) (t0 : ystart Y * 86400 ≤ t) {hi last : Int} (hk : Kp t last pre) :
    ∀ ys ye, Mg st en so dof (Y - 2) hi pre ys ye → ∀ u, t ≤ u → u < chI st so ys → u < chI en dof ye →
      (onS st en so dof u ↔ onS st en so dof t) ∧ (onS st en so dof t ↔ lastSt pre = true) := by
  have e1 := chI_early hs so0 t0
  have e2 := chI_early he do0 t0
  induction hk with
  | nil =>
    intro ys ye h u u0 u1 u2
    generalize hq : ([] : List (Int × Bool)) = q at h
    cases h with
    | nil => omega
    | a => simp at hq
    | ab => simp at hq
    | b => simp at hq
  | snoc h1 h2 h3 ih =>
    rename_i pre x
    intro y z h u u0 u1 u2
    have iv := h.inv hs he
    have l1 : Y - 2 < y := by
      have := iv.l1
      by_cases hc : y = Y - 2
      · rw [hc] at u1; omega
      · omega
    have l2 : Y - 2 < z := by
      have := iv.l2
      by_cases hc : z = Y - 2
      · rw [hc] at u2; omega
      · omega
    obtain ⟨ys, ye, hm, x1, x2, hx⟩ := h.back
    have jv := hm.inv hs he
    have hM : chI st so (y - 1) ≤ x.1 ∧ chI en dof (z - 1) ≤ x.1 := by
      rcases hx with ⟨rfl, rfl, rfl, hc⟩ | ⟨rfl, rfl, rfl, hc⟩ | ⟨rfl, rfl, rfl, hc⟩
      · have := jv.c1 l2
        rw [show ys + 1 - 1 = ys by omega]
        exact ⟨Int.le_refl _, by simp only []; omega⟩
      · rw [show ys + 1 - 1 = ys by omega, show ye + 1 - 1 = ye by omega]
        exact ⟨Int.le_refl _, by simp only []; omega⟩
      · have := jv.c2 l1
        rw [show ye + 1 - 1 = ye by omega]
        exact ⟨by simp only []; omega, Int.le_refl _⟩
    by_cases hc : x.1 ≤ t
    · have q1 := h.on hs he (u := u) l1 l2 (by omega) u1 (by omega) u2
      have q2 := h.on hs he (u := t) l1 l2 (by omega) (by omega) (by omega) (by omega)
      exact ⟨q1.trans q2.symm, q2⟩
    · have q0 := (ih ys ye hm t (Int.le_refl _) (by omega) (by omega)).2
      have q2 : onS st en so dof t ↔ lastSt (pre ++ [x]) = true := by rw [lastSt_snoc, h3 (by omega)]; exact q0
      refine ⟨?_, q2⟩
      by_cases hd : u < x.1
      · exact (ih ys ye hm u u0 (by omega) (by omega)).1
      · exact (h.on hs he (u := u) l1 l2 (by omega) u1 (by omega) u2).trans q2.symm
theorem mg_no (hs : rdOk st) (he : rdOk en) (so0 : -89999 ≤ so ∧ so ≤ 89999) (do0 : -89999 ≤ dof ∧ dof ≤ 89999) (t0 : ystart Y * 86400 ≤ t) {hi y z last : Int} {x : Int × Bool}
    (h : Mg st en so dof (Y - 2) hi (pre ++ [x]) y z) (hk : Kp t last pre) (hl : last < x.1) (hm : 9223372036854775807 ≤ last ∨ t + 12622780800 ≤ last) : nextOk (ruleS true st en so dof) t 0 false := by
  obtain ⟨ys, ye, hg, x1, x2, _⟩ := h.back
  have key := mg_const hs he so0 do0 t0 hk ys ye hg
  refine .inr ⟨rfl, rfl, fun u u0 u1 u2 => ?_⟩
  have k1 := (key u (by omega) (by omega) (by omega)).1
  have k2 := (key (u - 1) (by omega) (by omega) (by omega)).1
  simp only [ruleS, true_and]
  exact k2.trans k1.symm
theorem mg_yes (hs : rdOk st) (he : rdOk en) (so0 : -89999 ≤ so ∧ so ≤ 89999) (do0 : -89999 ≤ dof ∧ dof ≤ 89999) (t0 : ystart Y * 86400 ≤ t) {hi y z last : Int} {x : Int × Bool}
    (h : Mg st en so dof (Y - 2) hi (pre ++ [x]) y z) (hk : Kp t last pre) (hx : t < x.1) (hn : x.2 ≠ lastSt pre) (h1 : x.1 ≤ 9223372036854775807) (h2 : x.1 ≤ t + 12622780800) : nextOk (ruleS true st en so dof) t x.1 true := by
  obtain ⟨ys, ye, hg, x1, x2, hd⟩ := h.back
  have e1 := chI_early hs so0 t0
  have e2 := chI_early he do0 t0
  have key := mg_const hs he so0 do0 t0 hk ys ye hg
  have iv := h.inv hs he
  have jv := hg.inv hs he
  have s1 := chI_step hs so ys
  have s2 := chI_step he dof ye
  have l1 : Y - 2 < ys := by
    have := jv.l1
    by_cases hc : ys = Y - 2
    · rw [hc] at x1; omega
    · omega
  have l2 : Y - 2 < ye := by
    have := jv.l2
    by_cases hc : ye = Y - 2
    · rw [hc] at x2; omega
    · omega
  have c1 := jv.c1 l2
  have c2 := jv.c2 l1
  have hM : chI st so (y - 1) ≤ x.1 ∧ chI en dof (z - 1) ≤ x.1 ∧ x.1 < chI st so y ∧ x.1 < chI en dof z ∧ Y - 2 < y ∧ Y - 2 < z := by
    rcases hd with ⟨rfl, rfl, rfl, hc⟩ | ⟨rfl, rfl, rfl, hc⟩ | ⟨rfl, rfl, rfl, hc⟩
    · rw [show ys + 1 - 1 = ys by omega]
      refine ⟨Int.le_refl _, ?_, ?_, ?_, ?_, ?_⟩ <;> (try simp only []) <;> omega
    · rw [show ys + 1 - 1 = ys by omega, show ye + 1 - 1 = ye by omega]
      refine ⟨Int.le_refl _, ?_, ?_, ?_, ?_, ?_⟩ <;> (try simp only []) <;> omega
    · rw [show ye + 1 - 1 = ye by omega]
      refine ⟨?_, Int.le_refl _, ?_, ?_, ?_, ?_⟩ <;> (try simp only []) <;> omega
  have q1 := h.on hs he (u := x.1) hM.2.2.2.2.1 hM.2.2.2.2.2 hM.1 hM.2.2.1 hM.2.1 hM.2.2.2.1
  rw [lastSt_snoc] at q1
  have q0 := (key t (Int.le_refl _) (by omega) (by omega)).2
  refine .inl ⟨rfl, hx, h1, h2, ?_, fun u u0 u1 => ?_⟩
  · have k2 := (key (x.1 - 1) (by omega) (by omega) (by omega)).1
    simp only [ruleS, true_and]
    rw [k2, q0, q1]
    intro hc
    exact hn (Bool.eq_iff_iff.2 hc.symm)
  · have k1 := (key u (by omega) (by omega) (by omega)).1
    have k2 := (key (u - 1) (by omega) (by omega) (by omega)).1
    simp only [ruleS, true_and]
    exact k2.trans k1.symm
theorem mg_next_end (hs : rdOk st) (he : rdOk en) (so0 : -89999 ≤ so ∧ so ≤ 89999) (do0 : -89999 ≤ dof ∧ dof ≤ 89999) (t1 : t < ystart (Y + 1) * 86400) {y z last : Int}
    (h : Mg st en so dof (Y - 2) (Y + 402) pre y z) (hd : Y + 402 < y ∨ Y + 402 < z) (hp : Kp t last pre) (hl : last ≤ t + 12622780800) : False := by
  have iv := h.inv hs he
  have h1 := iv.h1
  have h2 := iv.h2
  have ha := hp.all
  rcases hd with hd | hd
  · obtain ⟨p, hp1, hp2⟩ := iv.m1 (by omega)
    have := ha p hp1
    have := chI_late hs so0 t1
    have := chI_per hs so (Y + 2)
    rw [show y - 1 = Y + 2 + 400 by omega] at hp2
    omega
  · obtain ⟨p, hp1, hp2⟩ := iv.m2 (by omega)
    have := ha p hp1
    have := chI_late he do0 t1
    have := chI_per he dof (Y + 2)
    rw [show z - 1 = Y + 2 + 400 by omega] at hp2
    omega
end
end Go.Proofs.YtdhogpcoegfopaaGreatDoor
