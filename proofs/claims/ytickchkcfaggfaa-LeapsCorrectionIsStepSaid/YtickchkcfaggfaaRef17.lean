/-
  CONTRACTS OF PACKAGE zoneinforef17 (the reference of layer 17) for time sizes 4 and 8, and zoneinforef14.Size. Conditions: at most 100,000 bytes or records.
-/
import Derived.Test.YtickchkcfaggfaaRef1
import Derived.Test.YtickchkcfaggfaaAnyH
import Derived.Test.YtickchkcfaggfaaLpV
import Derived.Test.YtickchkcfaggfaaOwk
import Derived.Deep.RegionHeld3
import Derived.Deep.DeepCutAuto
import Derived.Deep.RegionLaw
namespace Go.Proofs.Ytickchkcfaggfaa
open Go.ChangeShapes Go.WideShapes Go.ChangeAt Go.RowKit
set_option linter.unusedVariables false
set_option maxRecDepth 100000
theorem elLP : ElS Try.prog 23 38 2 16 := ⟨Try.underlying23, .agg #[.int .i64 0, .int .i32 0], by kernel_rfl, rfl⟩
/-- the two cells of the i-th record. -/
theorem Rk.lp {w : World} {A : Option Addr} {n : Nat} {ts : List LP} (h : Rk 2 w A n (lcs ts)) {i : Nat} (hi : i < n) : ∃ ad t, A = some ad ∧ ts[i]? = some t ∧ w.cell? (ad.add (i * 2)) = some (.int .i64 t.1) ∧ w.cell? ⟨(ad.add (i * 2)).block, (ad.add (i * 2)).off + 1, none⟩ = some (.int .i32 t.2) := by
  have hl : ts.length = n := by have := h.len; rw [lcs_len] at this; omega
  obtain ⟨ad, e, hc⟩ := h.2 (by omega)
  have ht : ts[i]? = some (ts[i]'(by omega)) := List.getElem?_eq_getElem (by omega)
  have g := lcs_get ht
  have h1 := hc _ _ g.2
  rw [← addr_add] at h1
  exact ⟨ad, _, e, ht, hc _ _ g.1, h1⟩
namespace r17_
theorem Size14 (wide : Bool) (w : World) : Calls Try.prog 8 #[.bool wide] w fun e w' => e = .returned (.int .i64 (if wide then 8 else 4)) ∧ w = w' := by
  cases wide
  all_goals
    go_enter Try.func8, Try.ntmps8
    go_wp2
    go_ret
    exact ⟨rfl, rfl⟩
theorem lp_ne (t u : LP) (w : World) : (binOp .neq 38 (.agg #[.int .i64 t.1, .int .i32 t.2]) (.agg #[.int .i64 u.1, .int .i32 u.2])).run Try.prog w = .ok (.bool (!decide (t = u))) w := by
  obtain ⟨a, b⟩ := t
  obtain ⟨a', b'⟩ := u
  simp only [Prod.mk.injEq]
  by_cases h1 : a = a' <;> by_cases h2 : b = b' <;> simp [go_sem, h1, h2]
set_option maxHeartbeats 1000000 in
theorem Same (A A' : Option Addr) (n n' c c' : Nat) (l l' : List LP) (w : World) (hn : n ≤ 9223372036854775807) (hn' : n' ≤ 9223372036854775807) (hr : Rk 2 w A n (lcs l)) (hr' : Rk 2 w A' n' (lcs l')) :
    Calls Try.prog 9 #[.slice A n c, .slice A' n' c'] w fun e w' => e = .returned (.bool (decide (l = l'))) ∧ Below w.heap.size w w' := by
  have hl : l.length = n := by have := hr.len; rw [lcs_len] at this; omega
  have hl' : l'.length = n' := by have := hr'.len; rw [lcs_len] at this; omega
  obtain ⟨b, hb⟩ : ∃ b, b = decide (l = l') := ⟨_, rfl⟩
  rw [← hb]
  by_cases hnn : n = n'
  rotate_left
  · have : b = false := by rw [hb]; exact decide_eq_false fun h => hnn (by rw [← hl, ← hl', h])
    subst this
    have hne : ((n : Int) != n') = true := by simp; omega
    clear hb hl hl' hr hr'
    go_enter Try.func9, Try.ntmps9
    go_wp2
    go_ret
    exact ⟨rfl, bl_refl _⟩
  subst hnn
  have HB := hide hb
  have HL := hide hl
  have HL' := hide hl'
  clear hb hl hl'
  go_enter Try.func9, Try.ntmps9
  go_wp2
  go_loopw [5] (fun i wr => ∃ k : Nat, k ≤ n ∧ i = .int .i64 (k : Nat) ∧ Hid (l.take k = l'.take k) ∧ Hid (Below w.heap.size w wr)) (fun i _ => n - (intOf i).toNat)
  case atStart => exact ⟨0, by omega, rfl, hide rfl, hide (bl_refl _)⟩
  case round =>
    obtain ⟨k, hk, rfl, ht, hw⟩ := hrel
    by_cases hlt : k < n
    · obtain ⟨ad, t, e1, x1, f0, f1⟩ := (hr.below hw.out).lp hlt
      obtain ⟨ad', u, e2, x2, g0, g1⟩ := (hr'.below hw.out).lp hlt
      subst e1 e2
      have hq := fun w => lp_ne t u w
      by_cases hxy : t = u
      · have hs := hide (show l.take (k + 1) = l'.take (k + 1) by rw [List.take_add_one, List.take_add_one, ht.out, x1, x2, hxy])
        rw [decide_eq_true hxy] at hq
        clear x1 x2 hxy
        go_wp2
        go_quiet (fail)
        go_wp2
        go_roundw
        case rel => exact ⟨k + 1, by omega, by go_num, hs, hide (bel_drewN hw.out _)⟩
        case measure => simp [intOf]; omega
      · have hne : b = false := by
          rw [HB.out]
          exact decide_eq_false (fun h => by rw [h, x2] at x1; injection x1 with x1; exact hxy x1.symm)
        subst hne
        rw [decide_eq_false hxy] at hq
        clear x1 x2 hxy
        go_wp2
        go_quiet (fail)
        go_wp2
        go_ret
        exact ⟨rfl, bel_drewN hw.out _⟩
    · obtain rfl : k = n := by omega
      have hne : b = true := by
        rw [HB.out]
        refine decide_eq_true ?_
        have := ht.out
        rwa [List.take_of_length_le (by rw [HL.out]; omega), List.take_of_length_le (by rw [HL'.out]; omega)] at this
      subst hne
      go_wp2
      go_ret
      exact ⟨rfl, hw.out⟩
set_option maxHeartbeats 2000000 in
theorem Expiry (A : Option Addr) (n c : Nat) (ts : List LP) (w : World) (hn : n ≤ 100000) (hr : Rk 2 w A n (lcs ts)) :
    Calls Try.prog 20 #[.slice A n c] w fun e w' => e = .returned (.tuple #[.int .i64 (if exL ts then la ts (ts.length - 1) else 0), .bool (exL ts)]) ∧ Below w.heap.size w w' := by
  have hl : ts.length = n := by have := hr.len; rw [lcs_len] at this; omega
  by_cases h2 : 2 ≤ n
  · obtain ⟨ad, t, rfl, ht, f0, f1⟩ := hr.lp (i := n - 1) (by omega)
    obtain ⟨ad', u, e, hu, g0, g1⟩ := hr.lp (i := n - 2) (by omega)
    cases e
    obtain ⟨p, rfl⟩ : ∃ p, n = p + 2 := ⟨n - 2, by omega⟩
    rw [show p + 2 - 1 = p + 1 by omega] at ht f0 f1
    rw [show p + 2 - 2 = p by omega] at hu g0 g1
    have i1 : IntKind.i64.wrap (((p + 2 : Nat) : Int) - 1) = ((p + 1 : Nat) : Int) := by rw [IntKind.wrap_i64]; omega
    have i2 : IntKind.i64.wrap (((p + 2 : Nat) : Int) - 2) = (p : Int) := by rw [IntKind.wrap_i64]; omega
    have hx : exL ts = decide (t.2 = u.2) := by
      unfold exL lr
      rw [hl, decide_eq_true (by omega), Bool.true_and, show p + 2 - 1 = p + 1 by omega, show p + 2 - 2 = p by omega, ht, hu]
      rfl
    have ha : la ts (ts.length - 1) = t.1 := by unfold la; rw [hl, show p + 2 - 1 = p + 1 by omega, ht]; rfl
    rw [hx, ha]
    clear hx ha ht hu hl hr
    obtain ⟨N, hN⟩ : ∃ N : Nat, p + 2 = N := ⟨_, rfl⟩
    obtain ⟨P, hP⟩ : ∃ P : Nat, p + 1 = P := ⟨_, rfl⟩
    rw [hN, hP] at i1
    rw [hN] at i2 h2 hn
    rw [hP] at f0 f1
    have hPN : P < N := by omega
    have hpN : p < N := by omega
    rw [hN]
    clear hN hP
    have hc0 := hide f1
    have hc1 := hide g1
    have d1 : decide ((2 : Int) ≤ (N : Int)) = true := decide_eq_true (by omega)
    have d2 : decide (2 ≤ N) = true := decide_eq_true (by omega)
    by_cases hc : t.2 = u.2
    all_goals
      first | rw [decide_eq_true hc] | rw [decide_eq_false hc]
      have hq : (t.2 == u.2) = decide (t.2 = u.2) := rfl
      first | rw [decide_eq_true hc] at hq | rw [decide_eq_false hc] at hq
      replace hc := hide hc
      clear g0 g1 f1
      go_enter Try.func20, Try.ntmps20
      go_upto_region 2 with fail
      refine wp_region_held_drew (S := fun w' => Hid (w'.cell? ⟨(ad.add (P * 2)).block, (ad.add (P * 2)).off + 1, none⟩ = some (.int .i32 t.2)) ∧ Hid (w'.cell? ⟨(ad.add (p * 2)).block, (ad.add (p * 2)).off + 1, none⟩ = some (.int .i32 u.2)) ∧ Hid (Below w.heap.size w w')) (by kernel_rfl) (⟨hc0, hc1, hide (bl_drew (bl_refl _))⟩) (fun hHeld => ?_)
      refine wpAnyH_takeD (i := 0) (d := some 7) (v := ?_) rfl rfl (by kernel_rfl) (by kernel_rfl) (by kernel_rfl) (fun _ _ _ h => h) (Or.inl ⟨by rfl, ?_⟩) (by assumption) ?_
      rotate_left
      · ((intro w hSw; go_simp) <;> with_reducible rfl)
      try simp only [Act.put, List.setIfInBounds_toArray, List.set_cons_zero, List.set_cons_succ]
      refine wpAnyH_takeD (i := 1) (d := some 8) (v := ?_) rfl rfl (by kernel_rfl) (by kernel_rfl) (by kernel_rfl) (fun _ _ _ h => h) (Or.inl ⟨by rfl, ?_⟩) (by assumption) ?_
      rotate_left
      · ((intro w hSw; go_simp) <;> with_reducible rfl)
      try simp only [Act.put, List.setIfInBounds_toArray, List.set_cons_zero, List.set_cons_succ]
      refine wpAnyH_takeD (i := 2) (d := some 9) (v := ?_) rfl rfl (by kernel_rfl) (by kernel_rfl) (by kernel_rfl) (fun _ _ _ h => h) (Or.inl ⟨by rfl, ?_⟩) (by assumption) ?_
      rotate_left
      · ((intro w hSw; go_simp) <;> with_reducible rfl)
      try simp only [Act.put, List.setIfInBounds_toArray, List.set_cons_zero, List.set_cons_succ]
      refine wpAnyH_takeD (i := 3) (d := some 10) (v := ?_) rfl rfl (by kernel_rfl) (by kernel_rfl) (by kernel_rfl) (fun _ _ _ h => h) (Or.inl ⟨by rfl, ?_⟩) (by assumption) ?_
      rotate_left
      · ((intro w hSw; go_simp) <;> with_reducible rfl)
      try simp only [Act.put, List.setIfInBounds_toArray, List.set_cons_zero, List.set_cons_succ]
      refine wpAnyH_takeD (i := 4) (d := some 11) (v := ?_) rfl rfl (by kernel_rfl) (by kernel_rfl) (by kernel_rfl) (fun _ _ _ h => h) (Or.inl ⟨by rfl, ?_⟩) (by assumption) ?_
      rotate_left
      · ((intro w hSw; go_simp) <;> with_reducible rfl)
      try simp only [Act.put, List.setIfInBounds_toArray, List.set_cons_zero, List.set_cons_succ]
      refine wpAnyH_takeD (i := 5) (d := some 12) (v := ?_) rfl rfl (by kernel_rfl) (by kernel_rfl) (by kernel_rfl) (fun _ _ _ h => h) (Or.inl ⟨by rfl, ?_⟩) (by assumption) ?_
      rotate_left
      · ((intro w hSw; go_simp) <;> with_reducible rfl)
      try simp only [Act.put, List.setIfInBounds_toArray, List.set_cons_zero, List.set_cons_succ]
      refine wpAnyH_takeD (i := 6) (d := some 13) (v := ?_) rfl rfl (by kernel_rfl) (by kernel_rfl) (by kernel_rfl) (fun _ _ _ h => h) (Or.inl ⟨by rfl, ?_⟩) (by assumption) ?_
      rotate_left
      · ((intro w hSw; go_simp) <;> with_reducible rfl)
      try simp only [Act.put, List.setIfInBounds_toArray, List.set_cons_zero, List.set_cons_succ]
      refine wpAnyH_takeD (i := 7) (d := some 14) (v := ?_) rfl rfl (by kernel_rfl) (by kernel_rfl) (by kernel_rfl) (fun _ _ _ h => h) (Or.inl ⟨by rfl, ?_⟩) (by assumption) ?_
      rotate_left
      · ((intro w hSw; go_simp) <;> with_reducible rfl)
      try simp only [Act.put, List.setIfInBounds_toArray, List.set_cons_zero, List.set_cons_succ]
      refine wpAnyH_takeD (i := 8) (d := some 15) (v := ?_) rfl rfl (by kernel_rfl) (by kernel_rfl) (by kernel_rfl) (fun _ _ _ h => h) (Or.inl ⟨by rfl, ?_⟩) (by assumption) ?_
      rotate_left
      · ((intro w hSw; have e0 := hSw.1.out; go_simp) <;> with_reducible rfl)
      try simp only [Act.put, List.setIfInBounds_toArray, List.set_cons_zero, List.set_cons_succ]
      refine wpAnyH_takeD (i := 9) (d := some 16) (v := ?_) rfl rfl (by kernel_rfl) (by kernel_rfl) (by kernel_rfl) (fun _ _ _ h => h) (Or.inl ⟨by rfl, ?_⟩) (by assumption) ?_
      rotate_left
      · ((intro w hSw; go_simp) <;> with_reducible rfl)
      try simp only [Act.put, List.setIfInBounds_toArray, List.set_cons_zero, List.set_cons_succ]
      refine wpAnyH_takeD (i := 10) (d := some 17) (v := ?_) rfl rfl (by kernel_rfl) (by kernel_rfl) (by kernel_rfl) (fun _ _ _ h => h) (Or.inl ⟨by rfl, ?_⟩) (by assumption) ?_
      rotate_left
      · ((intro w hSw; go_simp) <;> with_reducible rfl)
      try simp only [Act.put, List.setIfInBounds_toArray, List.set_cons_zero, List.set_cons_succ]
      refine wpAnyH_takeD (i := 11) (d := some 18) (v := ?_) rfl rfl (by kernel_rfl) (by kernel_rfl) (by kernel_rfl) (fun _ _ _ h => h) (Or.inl ⟨by rfl, ?_⟩) (by assumption) ?_
      rotate_left
      · ((intro w hSw; go_simp) <;> with_reducible rfl)
      try simp only [Act.put, List.setIfInBounds_toArray, List.set_cons_zero, List.set_cons_succ]
      refine wpAnyH_takeD (i := 12) (d := some 19) (v := ?_) rfl rfl (by kernel_rfl) (by kernel_rfl) (by kernel_rfl) (fun _ _ _ h => h) (Or.inl ⟨by rfl, ?_⟩) (by assumption) ?_
      rotate_left
      · ((intro w hSw; go_simp) <;> with_reducible rfl)
      try simp only [Act.put, List.setIfInBounds_toArray, List.set_cons_zero, List.set_cons_succ]
      refine wpAnyH_takeD (i := 13) (d := some 20) (v := ?_) rfl rfl (by kernel_rfl) (by kernel_rfl) (by kernel_rfl) (fun _ _ _ h => h) (Or.inl ⟨by rfl, ?_⟩) (by assumption) ?_
      rotate_left
      · ((intro w hSw; go_simp) <;> with_reducible rfl)
      try simp only [Act.put, List.setIfInBounds_toArray, List.set_cons_zero, List.set_cons_succ]
      refine wpAnyH_takeD (i := 14) (d := some 21) (v := ?_) rfl rfl (by kernel_rfl) (by kernel_rfl) (by kernel_rfl) (fun _ _ _ h => h) (Or.inl ⟨by rfl, ?_⟩) (by assumption) ?_
      rotate_left
      · ((intro w hSw; have e0 := hSw.2.1.out; go_simp) <;> with_reducible rfl)
      try simp only [Act.put, List.setIfInBounds_toArray, List.set_cons_zero, List.set_cons_succ]
      refine wpAnyH_takeD (i := 15) (d := some 22) (v := ?_) rfl rfl (by kernel_rfl) (by kernel_rfl) (by kernel_rfl) (fun _ _ _ h => h) (Or.inl ⟨by rfl, ?_⟩) (by assumption) ?_
      rotate_left
      · ((intro w hSw; go_simp) <;> with_reducible rfl)
      try simp only [Act.put, List.setIfInBounds_toArray, List.set_cons_zero, List.set_cons_succ]
      refine wpAnyH_takeD (i := 16) (d := some 23) (v := ?_) rfl rfl (by kernel_rfl) (by kernel_rfl) (by kernel_rfl) (fun _ _ _ h => h) (Or.inl ⟨by rfl, ?_⟩) (by assumption) ?_
      rotate_left
      · ((intro w hSw; go_simp) <;> with_reducible rfl)
      try simp only [Act.put, List.setIfInBounds_toArray, List.set_cons_zero, List.set_cons_succ]
      refine wpAnyH_done (by kernel_rfl) ?_ _
      go_wp2_with fail
      go_ret2
      exact ⟨rfl, hHeld.2.2.out⟩
  · have hx : exL ts = false := by unfold exL; rw [hl, decide_eq_false h2, Bool.false_and]
    rw [hx]
    have d1 : decide ((2 : Int) ≤ (n : Int)) = false := decide_eq_false (by omega)
    have d2 : decide (2 ≤ n) = false := decide_eq_false (by omega)
    clear hx hl hr
    go_enter Try.func20, Try.ntmps20
    go_upto_region 2 with fail
    refine wp_region_held_drew (S := fun w' => Hid (Below w.heap.size w w')) (by kernel_rfl) (hide (bl_drew (bl_refl _))) (fun hHeld => ?_)
    refine wpAnyH_takeD (i := 0) (d := some 7) (v := ?_) rfl rfl (by kernel_rfl) (by kernel_rfl) (by kernel_rfl) (fun _ _ _ h => h) (Or.inl ⟨by rfl, ?_⟩) (by assumption) ?_
    rotate_left
    · ((intro w hSw; go_simp) <;> with_reducible rfl)
    try simp only [Act.put, List.setIfInBounds_toArray, List.set_cons_zero, List.set_cons_succ]
    refine wpAnyH_takeD (i := 1) (d := some 8) (v := ?_) rfl rfl (by kernel_rfl) (by kernel_rfl) (by kernel_rfl) (fun _ _ _ h => h) (Or.inl ⟨by rfl, ?_⟩) (by assumption) ?_
    rotate_left
    · ((intro w hSw; go_simp) <;> with_reducible rfl)
    try simp only [Act.put, List.setIfInBounds_toArray, List.set_cons_zero, List.set_cons_succ]
    refine wpAnyH_takeD (i := 2) (d := some 9) (v := ?_) rfl rfl (by kernel_rfl) (by kernel_rfl) (by kernel_rfl) (fun _ _ _ h => h) (Or.inl ⟨by rfl, ?_⟩) (by assumption) ?_
    rotate_left
    · ((intro w hSw; go_simp) <;> with_reducible rfl)
    try simp only [Act.put, List.setIfInBounds_toArray, List.set_cons_zero, List.set_cons_succ]
    refine wpAnyH_takeD (i := 3) (d := some 10) rfl rfl (by kernel_rfl) (by kernel_rfl) (by kernel_rfl) (fun _ _ _ h => h) (Or.inr ⟨by rfl, rfl⟩) (by assumption) ?_
    try simp only [Act.put, List.setIfInBounds_toArray, List.set_cons_zero, List.set_cons_succ]
    refine wpAnyH_takeD (i := 4) (d := some 11) rfl rfl (by kernel_rfl) (by kernel_rfl) (by kernel_rfl) (fun _ _ _ h => h) (Or.inr ⟨by rfl, rfl⟩) (by assumption) ?_
    try simp only [Act.put, List.setIfInBounds_toArray, List.set_cons_zero, List.set_cons_succ]
    refine wpAnyH_takeD (i := 5) (d := some 12) rfl rfl (by kernel_rfl) (by kernel_rfl) (by kernel_rfl) (fun _ _ _ h => h) (Or.inr ⟨by rfl, rfl⟩) (by assumption) ?_
    try simp only [Act.put, List.setIfInBounds_toArray, List.set_cons_zero, List.set_cons_succ]
    refine wpAnyH_takeD (i := 6) (d := some 13) rfl rfl (by kernel_rfl) (by kernel_rfl) (by kernel_rfl) (fun _ _ _ h => h) (Or.inr ⟨by rfl, rfl⟩) (by assumption) ?_
    try simp only [Act.put, List.setIfInBounds_toArray, List.set_cons_zero, List.set_cons_succ]
    refine wpAnyH_takeD (i := 7) (d := some 14) rfl rfl (by kernel_rfl) (by kernel_rfl) (by kernel_rfl) (fun _ _ _ h => h) (Or.inr ⟨by rfl, rfl⟩) (by assumption) ?_
    try simp only [Act.put, List.setIfInBounds_toArray, List.set_cons_zero, List.set_cons_succ]
    refine wpAnyH_takeD (i := 8) (d := some 15) rfl rfl (by kernel_rfl) (by kernel_rfl) (by kernel_rfl) (fun _ _ _ h => h) (Or.inr ⟨by rfl, rfl⟩) (by assumption) ?_
    try simp only [Act.put, List.setIfInBounds_toArray, List.set_cons_zero, List.set_cons_succ]
    refine wpAnyH_takeD (i := 9) (d := some 16) rfl rfl (by kernel_rfl) (by kernel_rfl) (by kernel_rfl) (fun _ _ _ h => h) (Or.inr ⟨by rfl, rfl⟩) (by assumption) ?_
    try simp only [Act.put, List.setIfInBounds_toArray, List.set_cons_zero, List.set_cons_succ]
    refine wpAnyH_takeD (i := 10) (d := some 17) rfl rfl (by kernel_rfl) (by kernel_rfl) (by kernel_rfl) (fun _ _ _ h => h) (Or.inr ⟨by rfl, rfl⟩) (by assumption) ?_
    try simp only [Act.put, List.setIfInBounds_toArray, List.set_cons_zero, List.set_cons_succ]
    refine wpAnyH_takeD (i := 11) (d := some 18) rfl rfl (by kernel_rfl) (by kernel_rfl) (by kernel_rfl) (fun _ _ _ h => h) (Or.inr ⟨by rfl, rfl⟩) (by assumption) ?_
    try simp only [Act.put, List.setIfInBounds_toArray, List.set_cons_zero, List.set_cons_succ]
    refine wpAnyH_takeD (i := 12) (d := some 19) rfl rfl (by kernel_rfl) (by kernel_rfl) (by kernel_rfl) (fun _ _ _ h => h) (Or.inr ⟨by rfl, rfl⟩) (by assumption) ?_
    try simp only [Act.put, List.setIfInBounds_toArray, List.set_cons_zero, List.set_cons_succ]
    refine wpAnyH_takeD (i := 13) (d := some 20) rfl rfl (by kernel_rfl) (by kernel_rfl) (by kernel_rfl) (fun _ _ _ h => h) (Or.inr ⟨by rfl, rfl⟩) (by assumption) ?_
    try simp only [Act.put, List.setIfInBounds_toArray, List.set_cons_zero, List.set_cons_succ]
    refine wpAnyH_takeD (i := 14) (d := some 21) rfl rfl (by kernel_rfl) (by kernel_rfl) (by kernel_rfl) (fun _ _ _ h => h) (Or.inr ⟨by rfl, rfl⟩) (by assumption) ?_
    try simp only [Act.put, List.setIfInBounds_toArray, List.set_cons_zero, List.set_cons_succ]
    refine wpAnyH_takeD (i := 15) (d := some 22) rfl rfl (by kernel_rfl) (by kernel_rfl) (by kernel_rfl) (fun _ _ _ h => h) (Or.inr ⟨by rfl, rfl⟩) (by assumption) ?_
    try simp only [Act.put, List.setIfInBounds_toArray, List.set_cons_zero, List.set_cons_succ]
    refine wpAnyH_takeD (i := 16) (d := some 23) (v := ?_) rfl rfl (by kernel_rfl) (by kernel_rfl) (by kernel_rfl) (fun _ _ _ h => h) (Or.inl ⟨by rfl, ?_⟩) (by assumption) ?_
    rotate_left
    · ((intro w hSw; go_simp) <;> with_reducible rfl)
    try simp only [Act.put, List.setIfInBounds_toArray, List.set_cons_zero, List.set_cons_succ]
    refine wpAnyH_done (by kernel_rfl) ?_ _
    go_wp2_with fail
    go_ret2
    exact ⟨rfl, hHeld.out⟩
set_option maxHeartbeats 1000000 in
theorem Correction (A : Option Addr) (n c : Nat) (ts : List LP) (t : Int) (w : World) (hn : n ≤ 100000) (hr : Rk 2 w A n (lcs ts)) (hok : ∀ t ∈ ts, lpOk t) :
    Calls Try.prog 22 #[.slice A n c, .int .i64 t] w fun e w' => e = .returned (.int .i64 (cr ts t)) ∧ Below w.heap.size w w' := by
  have hl : ts.length = n := by have := hr.len; rw [lcs_len] at this; omega
  have HO := hide hok
  obtain ⟨d, hd⟩ : ∃ d, d = cr ts t := ⟨_, rfl⟩
  rw [← hd]
  have HD := hide (show d = crN ts t n by rw [hd]; unfold cr; rw [hl])
  have i0 : IntKind.i64.wrap ((n : Int) - 1) = (n : Int) - 1 := by rw [IntKind.wrap_i64]; omega
  clear hd hl hok
  go_enter Try.func22, Try.ntmps22
  go_wp2
  go_loopw [5] (fun i wr => ∃ (k : Nat) (v : Int), i = .int .i64 v ∧ Hid (v = (k : Int) - 1) ∧ k ≤ n ∧ Hid (d = crN ts t k) ∧ Hid (Below w.heap.size w wr)) (fun i _ => (intOf i + 1).toNat)
  case atStart => exact ⟨n, _, rfl, hide rfl, Nat.le_refl _, HD, hide (bl_refl _)⟩
  case round =>
    obtain ⟨k, v, rfl, hv, hk, hc, hw⟩ := hrel
    cases k with
    | zero =>
      obtain rfl : v = -1 := by have := hv.out; omega
      obtain rfl : d = 0 := hc.out
      go_wp2
      go_ret
      exact ⟨rfl, hw.out⟩
    | succ q =>
      obtain rfl : v = (q : Int) := by have := hv.out; omega
      obtain ⟨ad, u, rfl, hu, f0, f1⟩ := (hr.below hw.out).lp (i := q) (by omega)
      obtain ⟨_, _, z0, z1⟩ := HO.out u (List.mem_of_getElem? hu)
      have hcv : ∀ w : World, (convert 21 3 (.int .i32 u.2)).run Try.prog w = .ok (.int .i64 u.2) w := fun w => by simp [go_sem]; rw [IntKind.wrap_i64]; omega
      have hst : crN ts t (q + 1) = if u.1 ≤ t then u.2 else crN ts t q := by
        show (if la ts q ≤ t then lr ts q else crN ts t q) = _
        unfold la lr
        rw [hu]
        rfl
      have hc2 := hc.out
      rw [hst] at hc2
      by_cases hle : u.1 ≤ t
      · rw [if_pos hle] at hc2
        subst hc2
        clear hst hu hv hc
        go_wp2
        go_ret
        exact ⟨rfl, hw.out⟩
      · rw [if_neg hle] at hc2
        have hc3 := hide hc2
        clear hst hu hv hc hc2
        go_wp2
        go_roundw
        case rel => exact ⟨q, _, by first | rfl | go_num, hide rfl, by omega, hc3, hw⟩
        case measure => first | (simp [intOf]; done) | (simp [intOf]; omega)
set_option maxHeartbeats 2000000 in
theorem Encode (A : Option Addr) (n c : Nat) (ts : List LP) (k : Nat) (w : World) (hk : k = 4 ∨ k = 8) (hn : n ≤ 10000) (hr : Rk 2 w A n (lcs ts)) (hok : ∀ t ∈ ts, lpOk t) :
    Calls Try.prog 14 #[.slice A n c, .int .i64 k] w fun e w' => ∃ A' c', e = .returned (.slice A' (n * (k + 4)) c') ∧ Ow w' w.heap.size 5 A' (n * (k + 4)) c' ((eLP k ts).map (Value.int .u8)) ∧ Below w.heap.size w w' := by
  have hl : ts.length = n := by have := hr.len; rw [lcs_len] at this; omega
  have HL := hide hl
  have HO := hide hok
  have hk8 : k + 4 ≤ 12 := by omega
  have P := hide (fun A n c l' v w h1 h2 h3 h4 h5 => r1_.Append A n c l' k v w (by omega) h1 h2 h3 h4 h5)
  have P4 := hide (fun A n c l' v w h1 h2 h3 h4 h5 => r1_.Append A n c l' 4 v w (by omega) h1 h2 h3 h4 h5)
  clear hl hok hk
  go_enter Try.func14, Try.ntmps14
  go_wp2
  go_loopw [5, 6] (fun o i wr => ∃ (q : Nat) (A' : Option Addr) (c' : Nat), q ≤ n ∧ i = .int .i64 (q : Nat) ∧ o = .slice A' (q * (k + 4)) c' ∧ Hid (Ow wr w.heap.size 5 A' (q * (k + 4)) c' ((eLP k (ts.take q)).map (Value.int .u8))) ∧ Hid (Below w.heap.size w wr)) (fun _ i _ => n - (intOf i).toNat)
  case atStart => exact ⟨0, none, 0, by omega, rfl, by simp, hide (by simpa [eLP] using Ow.nil (Nat.le_refl _) _), hide (bl_refl _)⟩
  case round =>
    obtain ⟨q, A', c', hq, rfl, rfl, ho, hw⟩ := hrel
    by_cases hlt : q < n
    · obtain ⟨ad, u, rfl, hu, f0, f1⟩ := (hr.below hw.out).lp hlt
      obtain ⟨z2, z3, z0, z1⟩ := HO.out _ (List.mem_of_getElem? hu)
      have hst := hide (eLP_step k ts q u hu)
      have u1 := u64_bd u.1
      have u2 := u64_bd u.2
      have hcv : ∀ w : World, (convert 2 46 (.int .i64 u.1)).run Try.prog w = .ok (.int .u64 (u64 u.1)) w := fun w => by simp [go_sem, u64, IntKind.wrap_u64]
      have hcw : ∀ w : World, (convert 21 2 (.int .i32 u.2)).run Try.prog w = .ok (.int .i64 u.2) w := fun w => by simp [go_sem]; rw [IntKind.wrap_i64]; omega
      have hcx : ∀ w : World, (convert 2 46 (.int .i64 u.2)).run Try.prog w = .ok (.int .u64 (u64 u.2)) w := fun w => by simp [go_sem, u64, IntKind.wrap_u64]
      have hkq : q * (k + 4) ≤ 120000 := Nat.le_trans (Nat.mul_le_mul (Nat.le_of_lt hlt) hk8) (by omega)
      have e8 : (q + 1) * (k + 4) = q * (k + 4) + k + 4 := by rw [Nat.add_mul]; omega
      have C := hide (P.out A' (q * (k + 4)) c' (eLP k (ts.take q)) (u64 u.1) wr (by omega) ho.out.nilcap ho.out.rd u1.1 u1.2)
      have hs := hide hw.out.size
      clear ho u1 hu
      generalize q * (k + 4) = kq at *
      go_wp2_with fail
      refine C.out.mono ?_
      rintro e w1 ⟨A2, c2, rfl, o2, h2⟩
      rw [Int.toNat_natCast] at o2
      have g0 := cellE h2 f0
      have g1 := cellE h2 f1
      have o3 := hide (o2.mono hs.out)
      replace hw := hide (bel_next hw.out h2)
      have hs2 := hide hw.out.size
      have C2 := hide (P4.out A2 (kq + k) c2 (eLP k (ts.take q) ++ be k (u64 u.1)) (u64 u.2) w1 (by omega) o3.out.nilcap o3.out.rd u2.1 u2.2)
      clear o2 h2 C f0 f1 o3
      go_wp2_with fail
      refine C2.out.mono ?_
      rintro e w2 ⟨A3, c3, rfl, o2, h2⟩
      rw [show (4 : Int).toNat = 4 from rfl, ← hst.out] at o2
      have o3 := hide (o2.mono hs2.out)
      replace hw := hide (bel_next hw.out h2)
      clear o2 h2 C2 g0 g1
      go_wp2
      go_roundw
      case rel => exact ⟨q + 1, A3, c3, by omega, by go_num, by rw [e8], by rw [e8]; exact o3, hw⟩
      case measure => simp [intOf]; omega
    · obtain rfl : q = n := by omega
      go_wp2
      go_ret
      have := ho.out
      rw [List.take_of_length_le (by rw [HL.out]; omega)] at this
      exact ⟨_, _, rfl, this, hw.out⟩
theorem EncodeK (A : Option Addr) (n c m : Nat) (ts : List LP) (k : Nat) (K : Int) (w : World) (hK : K = (k : Int)) (hk : k = 4 ∨ k = 8) (hn : n ≤ 10000) (hm : m = n * (k + 4)) (hr : Rk 2 w A n (lcs ts)) (hok : ∀ t ∈ ts, lpOk t) :
    Calls Try.prog 14 #[.slice A n c, .int .i64 K] w fun e w' => ∃ A' c', e = .returned (.slice A' m c') ∧ Ow w' w.heap.size 5 A' m c' ((eLP k ts).map (Value.int .u8)) ∧ Below w.heap.size w w' := by
  subst hK hm
  exact Encode A n c ts k w hk hn hr hok
set_option maxHeartbeats 4000000 in
theorem Decode (A : Option Addr) (n c m : Nat) (l : List Int) (k : Nat) (w : World) (hk : k = 4 ∨ k = 8) (hn : n ≤ 100000) (hm : n = m * (k + 4)) (hA : A = none → n = 0 ∧ c = 0) (hc : n ≤ c) (hcm : c ≤ 9223372036854775807) (hr : Rd w A n (l.map (Value.int .u8))) (hl : Bytes l) :
    Calls Try.prog 11 #[.slice A n c, .int .i64 k] w fun e w' => ∃ A' c', e = .returned (.slice A' m c') ∧ Ok 2 w' w.heap.size 38 A' m c' (lcs (dLP k l m)) ∧ Below w.heap.size w w' := by
  have hlen : l.length = n := by have := hr.len; simpa using this
  have HL := hide hlen
  have HB := hide hl
  have HM := hide hm
  have HK := hide hk
  have hk8 : k + 4 ≤ 12 := by omega
  obtain ⟨N, hN⟩ : ∃ N : Nat, N = k + 4 := ⟨_, rfl⟩
  have iN : IntKind.i64.wrap ((k : Int) + 4) = (N : Int) := by rw [IntKind.wrap_i64]; omega
  have hNz : ((N : Int) == 0) = false := by simp; omega
  have hq : (n : Int).tdiv (N : Int) = (m : Int) := by
    rw [hm, ← hN, Int.natCast_mul, Int.mul_tdiv_cancel _ (by omega)]
  have mn : m ≤ n := by rw [hm]; exact Nat.le_mul_of_pos_right m (by omega)
  have I := hide (fun (off : Nat) (w : World) (h1 : Rd w A n (l.map (Value.int .u8))) (h2 : off + k ≤ n) => r1_.Int_yes A n c l off k w (by omega) (by omega) (by omega) (by omega) h1 hl)
  have I4 := hide (fun (off : Nat) (w : World) (h1 : Rd w A n (l.map (Value.int .u8))) (h2 : off + 4 ≤ n) => r1_.Int_yes A n c l off 4 w (by omega) (by omega) (by omega) (by omega) h1 hl)
  have hN1 : 1 ≤ N := by omega
  replace hN := hide hN
  clear hlen hl hm hk
  go_enter Try.func11, Try.ntmps11
  go_wp2
  go_loopw [5, 7] (fun o i wr => ∃ (q : Nat) (A' : Option Addr) (c' : Nat), q ≤ m ∧ i = .int .i64 (q : Nat) ∧ o = .slice A' q c' ∧ Hid (Ok 2 wr w.heap.size 38 A' q c' (lcs (dLP k l q))) ∧ Hid (Below w.heap.size w wr)) (fun _ i _ => m - (intOf i).toNat)
  case atStart => exact ⟨0, none, 0, by omega, rfl, rfl, hide (Ok.nil (Nat.le_refl _) _ _), hide (bl_refl _)⟩
  case round =>
    obtain ⟨q, A', c', hqm, rfl, rfl, ho, hw⟩ := hrel
    by_cases hlt : q < m
    · obtain ⟨P, hP⟩ : ∃ P : Nat, P = q * (k + 4) := ⟨_, rfl⟩
      obtain ⟨P2, hP2⟩ : ∃ P2 : Nat, P2 = P + k := ⟨_, rfl⟩
      have hPn : P2 + 4 ≤ n := by
        have := Nat.mul_le_mul_right (k + 4) (show q + 1 ≤ m by omega)
        rw [Nat.add_mul, Nat.one_mul, ← hP, ← HM.out] at this
        omega
      have i1 : IntKind.i64.wrap ((q : Int) * (N : Int)) = (P : Int) := by rw [← Int.natCast_mul, hN.out, ← hP, IntKind.wrap_i64]; omega
      have i2 : IntKind.i64.wrap ((P : Int) + (k : Int)) = (P2 : Int) := by rw [IntKind.wrap_i64]; omega
      have hst := hide (dLP_step k l q)
      have hok := dL_ok HK.out l HB.out q (by rw [HL.out, ← hP]; omega)
      have hdl : dL k l q = (sgn k (uval (fld l P k)), sgn 4 (uval (fld l P2 4))) := by unfold dL; rw [hP2, hP]
      have C := hide (I.out P wr (hr.below hw.out) (by omega))
      have C4 := hide (fun wr h => I4.out P2 wr h (by omega))
      rw [Int.toNat_natCast, Int.toNat_natCast] at C
      simp only [Int.toNat_natCast, show (4 : Int).toNat = 4 from rfl] at C4
      rw [hdl] at hst hok
      generalize sgn k (uval (fld l P k)) = x at *
      generalize sgn 4 (uval (fld l P2 4)) = y at *
      obtain ⟨⟨z0, z1, z2, z3⟩, _⟩ := hok
      dsimp only at z0 z1 z2 z3
      have hcv : ∀ w : World, (convert 2 21 (.int .i64 y)).run Try.prog w = .ok (.int .i32 y) w := fun w => by simp [go_sem]; rw [IntKind.wrap_i32]; omega
      have hrw := hide (hr.below hw.out)
      clear hdl hP hP2 hA
      go_wp2_with fail
      refine C.out.mono ?_
      rintro e w1 ⟨rfl, rfl⟩
      go_wp2_with fail
      refine (C4.out _ hrw.out).mono ?_
      rintro e w1 ⟨rfl, rfl⟩
      have hoL := hide ((ho.out.alloc (.cells #[.int .i64 x, .int .i32 y] 38)))
      have hwL := hide ((bl_alloc hw.out (.cells #[.int .i64 x, .int .i32 y] 38)))
      have hrL := hide (show Rk 2 (wr.alloc (.cells #[.int .i64 x, .int .i32 y] 38)) (some ⟨wr.heap.size, 0, none⟩) 1 (lc (x, y)) from (Ok.lit 2 wr 38 (lc (x, y)) 1 rfl (by simp [maxLen])).rd)
      have h1L := hide (lcs_cells [(x, y)])
      rw [lcs_one] at h1L
      have x1 := hide (show q + 1 ≤ maxLen by simp [maxLen]; omega)
      have x2 := hide (show (q + 1) * 16 ≤ 140737488355328 by omega)
      clear C C4 hrw i1 i2
      go_wp2_with (at_builtin; refine apK elLP (by decide) hoL.out hwL.out (Nat.le_refl _) hrL.out (.tmp 41) (.tmp 46) rfl rfl rfl rfl (fun h => by cases h) h1L.out x1.out x2.out ?_; intro A9 c9 w9 ho9 h9 _; replace ho9 := hide ho9; replace h9 := hide h9)
      have ho10 := hide (show Ok 2 w9 w.heap.size 38 A9 (q + 1) c9 (lcs (dLP k l (q + 1))) by rw [hst.out, lcs_app, lcs_one]; exact ho9.out)
      clear ho9
      go_roundw
      case rel => exact ⟨q + 1, A9, c9, by omega, by go_num, rfl, ho10, h9⟩
      case measure => simp [intOf]; omega
    · obtain rfl : q = m := by omega
      go_wp2
      go_ret
      exact ⟨_, _, rfl, ho.out, hw.out⟩
set_option maxHeartbeats 8000000 in
theorem Valid (A : Option Addr) (n c : Nat) (ts : List LP) (v : Int) (four : Bool) (w : World) (hv0 : 1 ≤ v) (hv1 : v ≤ 4) (hf : decide (v = 4) = four) (hn : n ≤ 100000) (hr : Rk 2 w A n (lcs ts)) (hok : ∀ t ∈ ts, lpOk t) :
    Calls Try.prog 16 #[.slice A n c, .int .i64 v] w fun e w' => e = .returned (.bool (vL ts four)) ∧ Below w.heap.size w w' := by
  have hl : ts.length = n := by have := hr.len; rw [lcs_len] at this; omega
  have HO := hide hok
  have HL := hide hl
  obtain ⟨r, hrr⟩ : ∃ r, r = vL ts four := ⟨_, rfl⟩
  rw [← hrr]
  have Hno := hide (fun i (hi : i < n) (h : okL ts four i = false) => (show r = false by rw [hrr]; exact vL_no (by rw [hl]; exact hi) h))
  have Hyes := hide (fun (h : ∀ i, i < n → okL ts four i = true) => (show r = true by rw [hrr]; exact vL_of (by rw [hl]; exact h)))
  have V : (v < 4 ∧ four = false) ∨ (v = 4 ∧ four = true) := by
    by_cases h : v = 4
    · exact .inr ⟨h, by rw [← hf]; exact decide_eq_true h⟩
    · exact .inl ⟨by omega, by rw [← hf]; exact decide_eq_false h⟩
  replace V := hide V
  clear hok hl hrr hf hv0 hv1
  go_enter Try.func16, Try.ntmps16
  go_wp2
  go_loopw [5] (fun i wr => ∃ k : Nat, k ≤ n ∧ i = .int .i64 (k : Nat) ∧ Hid (∀ j, j < k → okL ts four j = true) ∧ Hid (∀ j, k = j + 1 → 0 ≤ la ts j) ∧ Hid (Below w.heap.size w wr)) (fun i _ => n - (intOf i).toNat)
  case atStart => exact ⟨0, by omega, rfl, hide (fun j h => by omega), hide (fun j h => by omega), hide (bl_refl _)⟩
  case round =>
    obtain ⟨k, hk, rfl, hal, hpos, hw⟩ := hrel
    by_cases hlt : k < n
    · obtain ⟨ad, ⟨a, x⟩, rfl, ht, f0, f1⟩ := (hr.below hw.out).lp hlt
      obtain ⟨z2, z3, z0, z1⟩ := HO.out _ (List.mem_of_getElem? ht)
      dsimp only at f0 f1 z0 z1 z2 z3
      have hla : la ts k = a := by unfold la; rw [ht]; rfl
      have hlr : lr ts k = x := by unfold lr; rw [ht]; rfl
      have hcv : ∀ w : World, (convert 21 3 (.int .i32 x)).run Try.prog w = .ok (.int .i64 x) w := fun w => by simp [go_sem]; rw [IntKind.wrap_i64]; omega
      cases k with
      | zero =>
        have hok0 : okL ts four 0 = (decide (0 ≤ a) && (four || decide (x = 1) || decide (x = -1))) := by unfold okL; rw [hla, hlr]
        have hla0 := hide hla
        have ez : ad.add (0 * 2) = ad := by simp [Addr.add]
        rw [ez] at f0 f1
        clear ez hla hlr ht hal hpos
        have hnx := hide (fun (h : okL ts four 0 = true) => (show (∀ j, j < 0 + 1 → okL ts four j = true) from fun j hj => by rw [show j = 0 by omega]; exact h))
        by_cases ha : a < 0
        · obtain rfl : r = false := Hno.out 0 hlt (by rw [hok0, decide_eq_false (by omega)]; rfl)
          clear hok0
          go_wp2
          go_ret
          exact ⟨rfl, hw.out⟩
        · have hpos := hide (show ∀ j, 1 = j + 1 → 0 ≤ la ts j from fun j hj => by rw [show j = 0 by omega, hla0.out]; omega)
          have d0 : decide (a < 0) = false := decide_eq_false ha
          have e0 : decide (0 ≤ a) = true := decide_eq_true (by omega)
          rcases V.out with ⟨hv, hfo⟩ | ⟨rfl, hfo⟩
          · have dv : decide (v < 4) = true := decide_eq_true hv
            by_cases h1 : x = 1
            · subst h1
              have hall := hnx.out (by rw [hok0]; rw [e0, hfo]; rfl)
              clear hok0 hnx
              go_wp2
              go_roundw
              case rel => exact ⟨1, by omega, by go_num, hide hall, hpos, hw⟩
              case measure => first | (simp [intOf]; done) | (simp [intOf]; omega)
            · by_cases h2 : x = -1
              · subst h2
                have hall := hnx.out (by rw [hok0]; rw [e0, hfo]; rfl)
                clear hok0 hnx
                go_wp2
                go_roundw
                case rel => exact ⟨1, by omega, by go_num, hide hall, hpos, hw⟩
                case measure => first | (simp [intOf]; done) | (simp [intOf]; omega)
              · obtain rfl : r = false := Hno.out 0 hlt (by rw [hok0, hfo, decide_eq_false h1, decide_eq_false h2, e0]; rfl)
                have n1 : (x == 1) = false := by simpa using h1
                have n2 : (x == -1) = false := by simpa using h2
                have n3 : decide (x = 1) = false := decide_eq_false h1
                have n4 : decide (x = -1) = false := decide_eq_false h2
                have n5 : (x != 1) = true := by simp [h1]
                have n6 : (x != -1) = true := by simp [h2]
                clear hok0 hnx
                go_wp2
                go_ret
                exact ⟨rfl, hw.out⟩
          · have hall := hnx.out (by rw [hok0]; rw [e0, hfo]; rfl)
            clear hok0 hnx
            go_wp2
            go_roundw
            case rel => exact ⟨1, by omega, by go_num, hide hall, hpos, hw⟩
            case measure => first | (simp [intOf]; done) | (simp [intOf]; omega)
      | succ j =>
        obtain ⟨_, ⟨b, y⟩, e1, hu, g0, g1⟩ := (hr.below hw.out).lp (i := j) (by omega)
        cases e1
        obtain ⟨_, _, z4, z5⟩ := HO.out _ (List.mem_of_getElem? hu)
        dsimp only at g0 g1 z4 z5
        have hlb : la ts j = b := by unfold la; rw [hu]; rfl
        have hly : lr ts j = y := by unfold lr; rw [hu]; rfl
        have hb0 : 0 ≤ b := by rw [← hlb]; exact hpos.out j rfl
        have hcw : ∀ w : World, (convert 21 3 (.int .i32 y)).run Try.prog w = .ok (.int .i64 y) w := fun w => by simp [go_sem]; rw [IntKind.wrap_i64]; omega
        obtain ⟨M, hM⟩ : ∃ M : Nat, n = M + 1 := ⟨n - 1, by omega⟩
        obtain ⟨d, hd⟩ : ∃ d, d = x - y := ⟨_, rfl⟩
        have hoks : okL ts four (j + 1) = (decide (b + 2419199 ≤ a) && (decide (d = 1) || decide (d = -1) || (decide (d = 0) && four && decide (j + 1 = M)))) := by
          show (decide (la ts j + 2419199 ≤ la ts (j + 1)) && (decide (lr ts (j + 1) - lr ts j = 1) || decide (lr ts (j + 1) - lr ts j = -1) || (decide (lr ts (j + 1) - lr ts j = 0) && four && decide (j + 2 = ts.length)))) = _
          rw [hla, hlr, hlb, hly, hd]
          have : decide (j + 2 = ts.length) = decide (j + 1 = M) := by
            by_cases h : j + 1 = M
            · rw [decide_eq_true h, decide_eq_true (by rw [HL.out]; omega)]
            · rw [decide_eq_false h, decide_eq_false (by rw [HL.out]; omega)]
          rw [this]
        have hpa := hide (show 0 ≤ a → ∀ q, j + 1 + 1 = q + 1 → 0 ≤ la ts q from fun h0 q hq => by rw [show q = j + 1 by omega, hla]; exact h0)
        have hal2 := hide (show okL ts four (j + 1) = true → ∀ q, q < j + 1 + 1 → okL ts four q = true from fun h0 q hq => by
          by_cases h : q = j + 1
          · rw [h]; exact h0
          · exact hal.out q (by omega))
        have iD : IntKind.i64.wrap (x - y) = d := by rw [hd, IntKind.wrap_i64]; omega
        have iN : IntKind.i64.wrap ((n : Int) - 1) = (M : Int) := by rw [IntKind.wrap_i64]; omega
        clear hla hlr hlb hly ht hu hal hpos hd
        replace hM := hide hM
        obtain ⟨K, hK⟩ : ∃ K : Nat, j + 1 = K := ⟨_, rfl⟩
        rw [hK] at hoks hpa hal2 f0 f1 hlt hk ⊢
        have iK : IntKind.i64.wrap ((K : Int) - 1) = (j : Int) := by rw [IntKind.wrap_i64]; omega
        have hjn : j < n := by omega
        have hKz : ((K : Int) == 0) = false := by simp; omega
        have hK1 : 1 ≤ K := by omega
        replace hK := hide hK
        have hf0 := hide f0
        have hg0 := hide g0
        by_cases c1 : a < b
        · obtain rfl : r = false := Hno.out K hlt (by rw [hoks, decide_eq_false (by omega)]; rfl)
          have d1 : decide (a < b) = true := decide_eq_true c1
          clear hoks
          go_upto_region 10 with fail
          refine wp_region_held_drew (S := fun w' => Hid (w'.cell? (ad.add (K * 2)) = some (.int .i64 a)) ∧ Hid (w'.cell? (ad.add (j * 2)) = some (.int .i64 b)) ∧ Hid (Below w.heap.size w w')) (by kernel_rfl) (⟨hf0, hg0, hide (bl_drew hw.out)⟩) (fun hHeld => ?_)
          refine wpAnyH_takeD (i := 0) (d := some 54) (v := ?_) rfl rfl (by kernel_rfl) (by kernel_rfl) (by kernel_rfl) (fun _ _ _ h => h) (Or.inl ⟨by rfl, ?_⟩) (by assumption) ?_
          rotate_left
          · ((intro w hSw; go_simp) <;> with_reducible rfl)
          try simp only [Act.put, List.setIfInBounds_toArray, List.set_cons_zero, List.set_cons_succ]
          refine wpAnyH_takeD (i := 1) (d := some 55) (v := ?_) rfl rfl (by kernel_rfl) (by kernel_rfl) (by kernel_rfl) (fun _ _ _ h => h) (Or.inl ⟨by rfl, ?_⟩) (by assumption) ?_
          rotate_left
          · ((intro w hSw; go_simp) <;> with_reducible rfl)
          try simp only [Act.put, List.setIfInBounds_toArray, List.set_cons_zero, List.set_cons_succ]
          refine wpAnyH_takeD (i := 2) (d := some 56) (v := ?_) rfl rfl (by kernel_rfl) (by kernel_rfl) (by kernel_rfl) (fun _ _ _ h => h) (Or.inl ⟨by rfl, ?_⟩) (by assumption) ?_
          rotate_left
          · ((intro w hSw; go_simp) <;> with_reducible rfl)
          try simp only [Act.put, List.setIfInBounds_toArray, List.set_cons_zero, List.set_cons_succ]
          refine wpAnyH_takeD (i := 3) (d := some 57) (v := ?_) rfl rfl (by kernel_rfl) (by kernel_rfl) (by kernel_rfl) (fun _ _ _ h => h) (Or.inl ⟨by rfl, ?_⟩) (by assumption) ?_
          rotate_left
          · ((intro w hSw; go_simp) <;> with_reducible rfl)
          try simp only [Act.put, List.setIfInBounds_toArray, List.set_cons_zero, List.set_cons_succ]
          refine wpAnyH_takeD (i := 4) (d := some 58) (v := ?_) rfl rfl (by kernel_rfl) (by kernel_rfl) (by kernel_rfl) (fun _ _ _ h => h) (Or.inl ⟨by rfl, ?_⟩) (by assumption) ?_
          rotate_left
          · ((intro w hSw; have e0 := hSw.1.out; go_simp) <;> with_reducible rfl)
          try simp only [Act.put, List.setIfInBounds_toArray, List.set_cons_zero, List.set_cons_succ]
          refine wpAnyH_takeD (i := 5) (d := some 59) (v := ?_) rfl rfl (by kernel_rfl) (by kernel_rfl) (by kernel_rfl) (fun _ _ _ h => h) (Or.inl ⟨by rfl, ?_⟩) (by assumption) ?_
          rotate_left
          · ((intro w hSw; go_simp) <;> with_reducible rfl)
          try simp only [Act.put, List.setIfInBounds_toArray, List.set_cons_zero, List.set_cons_succ]
          refine wpAnyH_takeD (i := 6) (d := some 60) (v := ?_) rfl rfl (by kernel_rfl) (by kernel_rfl) (by kernel_rfl) (fun _ _ _ h => h) (Or.inl ⟨by rfl, ?_⟩) (by assumption) ?_
          rotate_left
          · ((intro w hSw; go_simp) <;> with_reducible rfl)
          try simp only [Act.put, List.setIfInBounds_toArray, List.set_cons_zero, List.set_cons_succ]
          refine wpAnyH_takeD (i := 7) (d := some 61) (v := ?_) rfl rfl (by kernel_rfl) (by kernel_rfl) (by kernel_rfl) (fun _ _ _ h => h) (Or.inl ⟨by rfl, ?_⟩) (by assumption) ?_
          rotate_left
          · ((intro w hSw; go_simp) <;> with_reducible rfl)
          try simp only [Act.put, List.setIfInBounds_toArray, List.set_cons_zero, List.set_cons_succ]
          refine wpAnyH_takeD (i := 8) (d := some 62) (v := ?_) rfl rfl (by kernel_rfl) (by kernel_rfl) (by kernel_rfl) (fun _ _ _ h => h) (Or.inl ⟨by rfl, ?_⟩) (by assumption) ?_
          rotate_left
          · ((intro w hSw; go_simp) <;> with_reducible rfl)
          try simp only [Act.put, List.setIfInBounds_toArray, List.set_cons_zero, List.set_cons_succ]
          refine wpAnyH_takeD (i := 9) (d := some 63) (v := ?_) rfl rfl (by kernel_rfl) (by kernel_rfl) (by kernel_rfl) (fun _ _ _ h => h) (Or.inl ⟨by rfl, ?_⟩) (by assumption) ?_
          rotate_left
          · ((intro w hSw; go_simp) <;> with_reducible rfl)
          try simp only [Act.put, List.setIfInBounds_toArray, List.set_cons_zero, List.set_cons_succ]
          refine wpAnyH_takeD (i := 10) (d := some 64) (v := ?_) rfl rfl (by kernel_rfl) (by kernel_rfl) (by kernel_rfl) (fun _ _ _ h => h) (Or.inl ⟨by rfl, ?_⟩) (by assumption) ?_
          rotate_left
          · ((intro w hSw; have e0 := hSw.2.1.out; go_simp) <;> with_reducible rfl)
          try simp only [Act.put, List.setIfInBounds_toArray, List.set_cons_zero, List.set_cons_succ]
          refine wpAnyH_takeD (i := 11) (d := some 65) (v := ?_) rfl rfl (by kernel_rfl) (by kernel_rfl) (by kernel_rfl) (fun _ _ _ h => h) (Or.inl ⟨by rfl, ?_⟩) (by assumption) ?_
          rotate_left
          · ((intro w hSw; go_simp) <;> with_reducible rfl)
          try simp only [Act.put, List.setIfInBounds_toArray, List.set_cons_zero, List.set_cons_succ]
          refine wpAnyH_takeD (i := 12) (d := some 66) (v := ?_) rfl rfl (by kernel_rfl) (by kernel_rfl) (by kernel_rfl) (fun _ _ _ h => h) (Or.inl ⟨by rfl, ?_⟩) (by assumption) ?_
          rotate_left
          · ((intro w hSw; go_simp) <;> with_reducible rfl)
          try simp only [Act.put, List.setIfInBounds_toArray, List.set_cons_zero, List.set_cons_succ]
          refine wpAnyH_takeD (i := 13) (d := some 67) rfl rfl (by kernel_rfl) (by kernel_rfl) (by kernel_rfl) (fun _ _ _ h => h) (Or.inr ⟨by rfl, rfl⟩) (by assumption) ?_
          try simp only [Act.put, List.setIfInBounds_toArray, List.set_cons_zero, List.set_cons_succ]
          refine wpAnyH_takeD (i := 14) (d := some 68) rfl rfl (by kernel_rfl) (by kernel_rfl) (by kernel_rfl) (fun _ _ _ h => h) (Or.inr ⟨by rfl, rfl⟩) (by assumption) ?_
          try simp only [Act.put, List.setIfInBounds_toArray, List.set_cons_zero, List.set_cons_succ]
          refine wpAnyH_takeD (i := 15) (d := some 69) rfl rfl (by kernel_rfl) (by kernel_rfl) (by kernel_rfl) (fun _ _ _ h => h) (Or.inr ⟨by rfl, rfl⟩) (by assumption) ?_
          try simp only [Act.put, List.setIfInBounds_toArray, List.set_cons_zero, List.set_cons_succ]
          refine wpAnyH_takeD (i := 16) (d := some 70) rfl rfl (by kernel_rfl) (by kernel_rfl) (by kernel_rfl) (fun _ _ _ h => h) (Or.inr ⟨by rfl, rfl⟩) (by assumption) ?_
          try simp only [Act.put, List.setIfInBounds_toArray, List.set_cons_zero, List.set_cons_succ]
          refine wpAnyH_takeD (i := 17) (d := some 71) rfl rfl (by kernel_rfl) (by kernel_rfl) (by kernel_rfl) (fun _ _ _ h => h) (Or.inr ⟨by rfl, rfl⟩) (by assumption) ?_
          try simp only [Act.put, List.setIfInBounds_toArray, List.set_cons_zero, List.set_cons_succ]
          refine wpAnyH_takeD (i := 18) (d := some 72) rfl rfl (by kernel_rfl) (by kernel_rfl) (by kernel_rfl) (fun _ _ _ h => h) (Or.inr ⟨by rfl, rfl⟩) (by assumption) ?_
          try simp only [Act.put, List.setIfInBounds_toArray, List.set_cons_zero, List.set_cons_succ]
          refine wpAnyH_takeD (i := 19) (d := some 73) rfl rfl (by kernel_rfl) (by kernel_rfl) (by kernel_rfl) (fun _ _ _ h => h) (Or.inr ⟨by rfl, rfl⟩) (by assumption) ?_
          try simp only [Act.put, List.setIfInBounds_toArray, List.set_cons_zero, List.set_cons_succ]
          refine wpAnyH_takeD (i := 20) (d := some 74) rfl rfl (by kernel_rfl) (by kernel_rfl) (by kernel_rfl) (fun _ _ _ h => h) (Or.inr ⟨by rfl, rfl⟩) (by assumption) ?_
          try simp only [Act.put, List.setIfInBounds_toArray, List.set_cons_zero, List.set_cons_succ]
          refine wpAnyH_takeD (i := 21) (d := some 75) rfl rfl (by kernel_rfl) (by kernel_rfl) (by kernel_rfl) (fun _ _ _ h => h) (Or.inr ⟨by rfl, rfl⟩) (by assumption) ?_
          try simp only [Act.put, List.setIfInBounds_toArray, List.set_cons_zero, List.set_cons_succ]
          refine wpAnyH_takeD (i := 22) (d := some 76) rfl rfl (by kernel_rfl) (by kernel_rfl) (by kernel_rfl) (fun _ _ _ h => h) (Or.inr ⟨by rfl, rfl⟩) (by assumption) ?_
          try simp only [Act.put, List.setIfInBounds_toArray, List.set_cons_zero, List.set_cons_succ]
          refine wpAnyH_takeD (i := 23) (d := some 77) rfl rfl (by kernel_rfl) (by kernel_rfl) (by kernel_rfl) (fun _ _ _ h => h) (Or.inr ⟨by rfl, rfl⟩) (by assumption) ?_
          try simp only [Act.put, List.setIfInBounds_toArray, List.set_cons_zero, List.set_cons_succ]
          refine wpAnyH_takeD (i := 24) (d := some 78) rfl rfl (by kernel_rfl) (by kernel_rfl) (by kernel_rfl) (fun _ _ _ h => h) (Or.inr ⟨by rfl, rfl⟩) (by assumption) ?_
          try simp only [Act.put, List.setIfInBounds_toArray, List.set_cons_zero, List.set_cons_succ]
          refine wpAnyH_takeD (i := 25) (d := some 79) rfl rfl (by kernel_rfl) (by kernel_rfl) (by kernel_rfl) (fun _ _ _ h => h) (Or.inr ⟨by rfl, rfl⟩) (by assumption) ?_
          try simp only [Act.put, List.setIfInBounds_toArray, List.set_cons_zero, List.set_cons_succ]
          refine wpAnyH_takeD (i := 26) (d := some 80) (v := ?_) rfl rfl (by kernel_rfl) (by kernel_rfl) (by kernel_rfl) (fun _ _ _ h => h) (Or.inl ⟨by rfl, ?_⟩) (by assumption) ?_
          rotate_left
          · ((intro w hSw; go_simp) <;> with_reducible rfl)
          try simp only [Act.put, List.setIfInBounds_toArray, List.set_cons_zero, List.set_cons_succ]
          refine wpAnyH_done (by kernel_rfl) ?_ _
          go_wp2_with fail
          go_ret
          exact ⟨rfl, hHeld.2.2.out⟩
        · have d1 : decide (a < b) = false := decide_eq_false c1
          have iS : IntKind.i64.wrap (a - b) = a - b := by rw [IntKind.wrap_i64]; omega
          have ha0 : 0 ≤ a := by omega
          by_cases c2 : a - b < 2419199
          · obtain rfl : r = false := Hno.out K hlt (by rw [hoks, decide_eq_false (by omega)]; rfl)
            have d2 : decide (a - b < 2419199) = true := decide_eq_true c2
            clear hoks
            go_upto_region 10 with fail
            refine wp_region_held_drew (S := fun w' => Hid (w'.cell? (ad.add (K * 2)) = some (.int .i64 a)) ∧ Hid (w'.cell? (ad.add (j * 2)) = some (.int .i64 b)) ∧ Hid (Below w.heap.size w w')) (by kernel_rfl) (⟨hf0, hg0, hide (bl_drew hw.out)⟩) (fun hHeld => ?_)
            refine wpAnyH_takeD (i := 0) (d := some 54) (v := ?_) rfl rfl (by kernel_rfl) (by kernel_rfl) (by kernel_rfl) (fun _ _ _ h => h) (Or.inl ⟨by rfl, ?_⟩) (by assumption) ?_
            rotate_left
            · ((intro w hSw; go_simp) <;> with_reducible rfl)
            try simp only [Act.put, List.setIfInBounds_toArray, List.set_cons_zero, List.set_cons_succ]
            refine wpAnyH_takeD (i := 1) (d := some 55) (v := ?_) rfl rfl (by kernel_rfl) (by kernel_rfl) (by kernel_rfl) (fun _ _ _ h => h) (Or.inl ⟨by rfl, ?_⟩) (by assumption) ?_
            rotate_left
            · ((intro w hSw; go_simp) <;> with_reducible rfl)
            try simp only [Act.put, List.setIfInBounds_toArray, List.set_cons_zero, List.set_cons_succ]
            refine wpAnyH_takeD (i := 2) (d := some 56) (v := ?_) rfl rfl (by kernel_rfl) (by kernel_rfl) (by kernel_rfl) (fun _ _ _ h => h) (Or.inl ⟨by rfl, ?_⟩) (by assumption) ?_
            rotate_left
            · ((intro w hSw; go_simp) <;> with_reducible rfl)
            try simp only [Act.put, List.setIfInBounds_toArray, List.set_cons_zero, List.set_cons_succ]
            refine wpAnyH_takeD (i := 3) (d := some 57) (v := ?_) rfl rfl (by kernel_rfl) (by kernel_rfl) (by kernel_rfl) (fun _ _ _ h => h) (Or.inl ⟨by rfl, ?_⟩) (by assumption) ?_
            rotate_left
            · ((intro w hSw; go_simp) <;> with_reducible rfl)
            try simp only [Act.put, List.setIfInBounds_toArray, List.set_cons_zero, List.set_cons_succ]
            refine wpAnyH_takeD (i := 4) (d := some 58) (v := ?_) rfl rfl (by kernel_rfl) (by kernel_rfl) (by kernel_rfl) (fun _ _ _ h => h) (Or.inl ⟨by rfl, ?_⟩) (by assumption) ?_
            rotate_left
            · ((intro w hSw; have e0 := hSw.1.out; go_simp) <;> with_reducible rfl)
            try simp only [Act.put, List.setIfInBounds_toArray, List.set_cons_zero, List.set_cons_succ]
            refine wpAnyH_takeD (i := 5) (d := some 59) (v := ?_) rfl rfl (by kernel_rfl) (by kernel_rfl) (by kernel_rfl) (fun _ _ _ h => h) (Or.inl ⟨by rfl, ?_⟩) (by assumption) ?_
            rotate_left
            · ((intro w hSw; go_simp) <;> with_reducible rfl)
            try simp only [Act.put, List.setIfInBounds_toArray, List.set_cons_zero, List.set_cons_succ]
            refine wpAnyH_takeD (i := 6) (d := some 60) (v := ?_) rfl rfl (by kernel_rfl) (by kernel_rfl) (by kernel_rfl) (fun _ _ _ h => h) (Or.inl ⟨by rfl, ?_⟩) (by assumption) ?_
            rotate_left
            · ((intro w hSw; go_simp) <;> with_reducible rfl)
            try simp only [Act.put, List.setIfInBounds_toArray, List.set_cons_zero, List.set_cons_succ]
            refine wpAnyH_takeD (i := 7) (d := some 61) (v := ?_) rfl rfl (by kernel_rfl) (by kernel_rfl) (by kernel_rfl) (fun _ _ _ h => h) (Or.inl ⟨by rfl, ?_⟩) (by assumption) ?_
            rotate_left
            · ((intro w hSw; go_simp) <;> with_reducible rfl)
            try simp only [Act.put, List.setIfInBounds_toArray, List.set_cons_zero, List.set_cons_succ]
            refine wpAnyH_takeD (i := 8) (d := some 62) (v := ?_) rfl rfl (by kernel_rfl) (by kernel_rfl) (by kernel_rfl) (fun _ _ _ h => h) (Or.inl ⟨by rfl, ?_⟩) (by assumption) ?_
            rotate_left
            · ((intro w hSw; go_simp) <;> with_reducible rfl)
            try simp only [Act.put, List.setIfInBounds_toArray, List.set_cons_zero, List.set_cons_succ]
            refine wpAnyH_takeD (i := 9) (d := some 63) (v := ?_) rfl rfl (by kernel_rfl) (by kernel_rfl) (by kernel_rfl) (fun _ _ _ h => h) (Or.inl ⟨by rfl, ?_⟩) (by assumption) ?_
            rotate_left
            · ((intro w hSw; go_simp) <;> with_reducible rfl)
            try simp only [Act.put, List.setIfInBounds_toArray, List.set_cons_zero, List.set_cons_succ]
            refine wpAnyH_takeD (i := 10) (d := some 64) (v := ?_) rfl rfl (by kernel_rfl) (by kernel_rfl) (by kernel_rfl) (fun _ _ _ h => h) (Or.inl ⟨by rfl, ?_⟩) (by assumption) ?_
            rotate_left
            · ((intro w hSw; have e0 := hSw.2.1.out; go_simp) <;> with_reducible rfl)
            try simp only [Act.put, List.setIfInBounds_toArray, List.set_cons_zero, List.set_cons_succ]
            refine wpAnyH_takeD (i := 11) (d := some 65) (v := ?_) rfl rfl (by kernel_rfl) (by kernel_rfl) (by kernel_rfl) (fun _ _ _ h => h) (Or.inl ⟨by rfl, ?_⟩) (by assumption) ?_
            rotate_left
            · ((intro w hSw; go_simp) <;> with_reducible rfl)
            try simp only [Act.put, List.setIfInBounds_toArray, List.set_cons_zero, List.set_cons_succ]
            refine wpAnyH_takeD (i := 12) (d := some 66) (v := ?_) rfl rfl (by kernel_rfl) (by kernel_rfl) (by kernel_rfl) (fun _ _ _ h => h) (Or.inl ⟨by rfl, ?_⟩) (by assumption) ?_
            rotate_left
            · ((intro w hSw; go_simp) <;> with_reducible rfl)
            try simp only [Act.put, List.setIfInBounds_toArray, List.set_cons_zero, List.set_cons_succ]
            refine wpAnyH_takeD (i := 13) (d := some 67) (v := ?_) rfl rfl (by kernel_rfl) (by kernel_rfl) (by kernel_rfl) (fun _ _ _ h => h) (Or.inl ⟨by rfl, ?_⟩) (by assumption) ?_
            rotate_left
            · ((intro w hSw; go_simp) <;> with_reducible rfl)
            try simp only [Act.put, List.setIfInBounds_toArray, List.set_cons_zero, List.set_cons_succ]
            refine wpAnyH_takeD (i := 14) (d := some 68) (v := ?_) rfl rfl (by kernel_rfl) (by kernel_rfl) (by kernel_rfl) (fun _ _ _ h => h) (Or.inl ⟨by rfl, ?_⟩) (by assumption) ?_
            rotate_left
            · ((intro w hSw; go_simp) <;> with_reducible rfl)
            try simp only [Act.put, List.setIfInBounds_toArray, List.set_cons_zero, List.set_cons_succ]
            refine wpAnyH_takeD (i := 15) (d := some 69) (v := ?_) rfl rfl (by kernel_rfl) (by kernel_rfl) (by kernel_rfl) (fun _ _ _ h => h) (Or.inl ⟨by rfl, ?_⟩) (by assumption) ?_
            rotate_left
            · ((intro w hSw; go_simp) <;> with_reducible rfl)
            try simp only [Act.put, List.setIfInBounds_toArray, List.set_cons_zero, List.set_cons_succ]
            refine wpAnyH_takeD (i := 16) (d := some 70) (v := ?_) rfl rfl (by kernel_rfl) (by kernel_rfl) (by kernel_rfl) (fun _ _ _ h => h) (Or.inl ⟨by rfl, ?_⟩) (by assumption) ?_
            rotate_left
            · ((intro w hSw; go_simp) <;> with_reducible rfl)
            try simp only [Act.put, List.setIfInBounds_toArray, List.set_cons_zero, List.set_cons_succ]
            refine wpAnyH_takeD (i := 17) (d := some 71) (v := ?_) rfl rfl (by kernel_rfl) (by kernel_rfl) (by kernel_rfl) (fun _ _ _ h => h) (Or.inl ⟨by rfl, ?_⟩) (by assumption) ?_
            rotate_left
            · ((intro w hSw; have e0 := hSw.1.out; go_simp) <;> with_reducible rfl)
            try simp only [Act.put, List.setIfInBounds_toArray, List.set_cons_zero, List.set_cons_succ]
            refine wpAnyH_takeD (i := 18) (d := some 72) (v := ?_) rfl rfl (by kernel_rfl) (by kernel_rfl) (by kernel_rfl) (fun _ _ _ h => h) (Or.inl ⟨by rfl, ?_⟩) (by assumption) ?_
            rotate_left
            · ((intro w hSw; go_simp) <;> with_reducible rfl)
            try simp only [Act.put, List.setIfInBounds_toArray, List.set_cons_zero, List.set_cons_succ]
            refine wpAnyH_takeD (i := 19) (d := some 73) (v := ?_) rfl rfl (by kernel_rfl) (by kernel_rfl) (by kernel_rfl) (fun _ _ _ h => h) (Or.inl ⟨by rfl, ?_⟩) (by assumption) ?_
            rotate_left
            · ((intro w hSw; go_simp) <;> with_reducible rfl)
            try simp only [Act.put, List.setIfInBounds_toArray, List.set_cons_zero, List.set_cons_succ]
            refine wpAnyH_takeD (i := 20) (d := some 74) (v := ?_) rfl rfl (by kernel_rfl) (by kernel_rfl) (by kernel_rfl) (fun _ _ _ h => h) (Or.inl ⟨by rfl, ?_⟩) (by assumption) ?_
            rotate_left
            · ((intro w hSw; go_simp) <;> with_reducible rfl)
            try simp only [Act.put, List.setIfInBounds_toArray, List.set_cons_zero, List.set_cons_succ]
            refine wpAnyH_takeD (i := 21) (d := some 75) (v := ?_) rfl rfl (by kernel_rfl) (by kernel_rfl) (by kernel_rfl) (fun _ _ _ h => h) (Or.inl ⟨by rfl, ?_⟩) (by assumption) ?_
            rotate_left
            · ((intro w hSw; go_simp) <;> with_reducible rfl)
            try simp only [Act.put, List.setIfInBounds_toArray, List.set_cons_zero, List.set_cons_succ]
            refine wpAnyH_takeD (i := 22) (d := some 76) (v := ?_) rfl rfl (by kernel_rfl) (by kernel_rfl) (by kernel_rfl) (fun _ _ _ h => h) (Or.inl ⟨by rfl, ?_⟩) (by assumption) ?_
            rotate_left
            · ((intro w hSw; go_simp) <;> with_reducible rfl)
            try simp only [Act.put, List.setIfInBounds_toArray, List.set_cons_zero, List.set_cons_succ]
            refine wpAnyH_takeD (i := 23) (d := some 77) (v := ?_) rfl rfl (by kernel_rfl) (by kernel_rfl) (by kernel_rfl) (fun _ _ _ h => h) (Or.inl ⟨by rfl, ?_⟩) (by assumption) ?_
            rotate_left
            · ((intro w hSw; have e0 := hSw.2.1.out; go_simp) <;> with_reducible rfl)
            try simp only [Act.put, List.setIfInBounds_toArray, List.set_cons_zero, List.set_cons_succ]
            refine wpAnyH_takeD (i := 24) (d := some 78) (v := ?_) rfl rfl (by kernel_rfl) (by kernel_rfl) (by kernel_rfl) (fun _ _ _ h => h) (Or.inl ⟨by rfl, ?_⟩) (by assumption) ?_
            rotate_left
            · ((intro w hSw; go_simp) <;> with_reducible rfl)
            try simp only [Act.put, List.setIfInBounds_toArray, List.set_cons_zero, List.set_cons_succ]
            refine wpAnyH_takeD (i := 25) (d := some 79) (v := ?_) rfl rfl (by kernel_rfl) (by kernel_rfl) (by kernel_rfl) (fun _ _ _ h => h) (Or.inl ⟨by rfl, ?_⟩) (by assumption) ?_
            rotate_left
            · ((intro w hSw; go_simp) <;> with_reducible rfl)
            try simp only [Act.put, List.setIfInBounds_toArray, List.set_cons_zero, List.set_cons_succ]
            refine wpAnyH_takeD (i := 26) (d := some 80) (v := ?_) rfl rfl (by kernel_rfl) (by kernel_rfl) (by kernel_rfl) (fun _ _ _ h => h) (Or.inl ⟨by rfl, ?_⟩) (by assumption) ?_
            rotate_left
            · ((intro w hSw; go_simp) <;> with_reducible rfl)
            try simp only [Act.put, List.setIfInBounds_toArray, List.set_cons_zero, List.set_cons_succ]
            refine wpAnyH_done (by kernel_rfl) ?_ _
            go_wp2_with fail
            go_ret
            exact ⟨rfl, hHeld.2.2.out⟩
          · have d2 : decide (a - b < 2419199) = false := decide_eq_false c2
            have e0 : decide (b + 2419199 ≤ a) = true := decide_eq_true (by omega)
            rw [e0, Bool.true_and] at hoks
            replace hpa := hide (hpa.out ha0)
            have hmK : ((K : Int) == (M : Int)) = decide (K = M) := by
              by_cases h : K = M
              · subst h; simp
              · rw [decide_eq_false h]; simp; omega
            obtain ⟨lst, hlst⟩ : ∃ q, q = decide (K = M) := ⟨_, rfl⟩
            rw [← hlst] at hoks hmK
            clear hlst
            go_upto_region 10 with fail
            refine wp_region_held_drew (S := fun w' => Hid (w'.cell? (ad.add (K * 2)) = some (.int .i64 a)) ∧ Hid (w'.cell? (ad.add (j * 2)) = some (.int .i64 b)) ∧ Hid (Below w.heap.size w w')) (by kernel_rfl) (⟨hf0, hg0, hide (bl_drew hw.out)⟩) (fun hHeld => ?_)
            refine wpAnyH_takeD (i := 0) (d := some 54) (v := ?_) rfl rfl (by kernel_rfl) (by kernel_rfl) (by kernel_rfl) (fun _ _ _ h => h) (Or.inl ⟨by rfl, ?_⟩) (by assumption) ?_
            rotate_left
            · ((intro w hSw; go_simp) <;> with_reducible rfl)
            try simp only [Act.put, List.setIfInBounds_toArray, List.set_cons_zero, List.set_cons_succ]
            refine wpAnyH_takeD (i := 1) (d := some 55) (v := ?_) rfl rfl (by kernel_rfl) (by kernel_rfl) (by kernel_rfl) (fun _ _ _ h => h) (Or.inl ⟨by rfl, ?_⟩) (by assumption) ?_
            rotate_left
            · ((intro w hSw; go_simp) <;> with_reducible rfl)
            try simp only [Act.put, List.setIfInBounds_toArray, List.set_cons_zero, List.set_cons_succ]
            refine wpAnyH_takeD (i := 2) (d := some 56) (v := ?_) rfl rfl (by kernel_rfl) (by kernel_rfl) (by kernel_rfl) (fun _ _ _ h => h) (Or.inl ⟨by rfl, ?_⟩) (by assumption) ?_
            rotate_left
            · ((intro w hSw; go_simp) <;> with_reducible rfl)
            try simp only [Act.put, List.setIfInBounds_toArray, List.set_cons_zero, List.set_cons_succ]
            refine wpAnyH_takeD (i := 3) (d := some 57) (v := ?_) rfl rfl (by kernel_rfl) (by kernel_rfl) (by kernel_rfl) (fun _ _ _ h => h) (Or.inl ⟨by rfl, ?_⟩) (by assumption) ?_
            rotate_left
            · ((intro w hSw; go_simp) <;> with_reducible rfl)
            try simp only [Act.put, List.setIfInBounds_toArray, List.set_cons_zero, List.set_cons_succ]
            refine wpAnyH_takeD (i := 4) (d := some 58) (v := ?_) rfl rfl (by kernel_rfl) (by kernel_rfl) (by kernel_rfl) (fun _ _ _ h => h) (Or.inl ⟨by rfl, ?_⟩) (by assumption) ?_
            rotate_left
            · ((intro w hSw; have e0 := hSw.1.out; go_simp) <;> with_reducible rfl)
            try simp only [Act.put, List.setIfInBounds_toArray, List.set_cons_zero, List.set_cons_succ]
            refine wpAnyH_takeD (i := 5) (d := some 59) (v := ?_) rfl rfl (by kernel_rfl) (by kernel_rfl) (by kernel_rfl) (fun _ _ _ h => h) (Or.inl ⟨by rfl, ?_⟩) (by assumption) ?_
            rotate_left
            · ((intro w hSw; go_simp) <;> with_reducible rfl)
            try simp only [Act.put, List.setIfInBounds_toArray, List.set_cons_zero, List.set_cons_succ]
            refine wpAnyH_takeD (i := 6) (d := some 60) (v := ?_) rfl rfl (by kernel_rfl) (by kernel_rfl) (by kernel_rfl) (fun _ _ _ h => h) (Or.inl ⟨by rfl, ?_⟩) (by assumption) ?_
            rotate_left
            · ((intro w hSw; go_simp) <;> with_reducible rfl)
            try simp only [Act.put, List.setIfInBounds_toArray, List.set_cons_zero, List.set_cons_succ]
            refine wpAnyH_takeD (i := 7) (d := some 61) (v := ?_) rfl rfl (by kernel_rfl) (by kernel_rfl) (by kernel_rfl) (fun _ _ _ h => h) (Or.inl ⟨by rfl, ?_⟩) (by assumption) ?_
            rotate_left
            · ((intro w hSw; go_simp) <;> with_reducible rfl)
            try simp only [Act.put, List.setIfInBounds_toArray, List.set_cons_zero, List.set_cons_succ]
            refine wpAnyH_takeD (i := 8) (d := some 62) (v := ?_) rfl rfl (by kernel_rfl) (by kernel_rfl) (by kernel_rfl) (fun _ _ _ h => h) (Or.inl ⟨by rfl, ?_⟩) (by assumption) ?_
            rotate_left
            · ((intro w hSw; go_simp) <;> with_reducible rfl)
            try simp only [Act.put, List.setIfInBounds_toArray, List.set_cons_zero, List.set_cons_succ]
            refine wpAnyH_takeD (i := 9) (d := some 63) (v := ?_) rfl rfl (by kernel_rfl) (by kernel_rfl) (by kernel_rfl) (fun _ _ _ h => h) (Or.inl ⟨by rfl, ?_⟩) (by assumption) ?_
            rotate_left
            · ((intro w hSw; go_simp) <;> with_reducible rfl)
            try simp only [Act.put, List.setIfInBounds_toArray, List.set_cons_zero, List.set_cons_succ]
            refine wpAnyH_takeD (i := 10) (d := some 64) (v := ?_) rfl rfl (by kernel_rfl) (by kernel_rfl) (by kernel_rfl) (fun _ _ _ h => h) (Or.inl ⟨by rfl, ?_⟩) (by assumption) ?_
            rotate_left
            · ((intro w hSw; have e0 := hSw.2.1.out; go_simp) <;> with_reducible rfl)
            try simp only [Act.put, List.setIfInBounds_toArray, List.set_cons_zero, List.set_cons_succ]
            refine wpAnyH_takeD (i := 11) (d := some 65) (v := ?_) rfl rfl (by kernel_rfl) (by kernel_rfl) (by kernel_rfl) (fun _ _ _ h => h) (Or.inl ⟨by rfl, ?_⟩) (by assumption) ?_
            rotate_left
            · ((intro w hSw; go_simp) <;> with_reducible rfl)
            try simp only [Act.put, List.setIfInBounds_toArray, List.set_cons_zero, List.set_cons_succ]
            refine wpAnyH_takeD (i := 12) (d := some 66) (v := ?_) rfl rfl (by kernel_rfl) (by kernel_rfl) (by kernel_rfl) (fun _ _ _ h => h) (Or.inl ⟨by rfl, ?_⟩) (by assumption) ?_
            rotate_left
            · ((intro w hSw; go_simp) <;> with_reducible rfl)
            try simp only [Act.put, List.setIfInBounds_toArray, List.set_cons_zero, List.set_cons_succ]
            refine wpAnyH_takeD (i := 13) (d := some 67) (v := ?_) rfl rfl (by kernel_rfl) (by kernel_rfl) (by kernel_rfl) (fun _ _ _ h => h) (Or.inl ⟨by rfl, ?_⟩) (by assumption) ?_
            rotate_left
            · ((intro w hSw; go_simp) <;> with_reducible rfl)
            try simp only [Act.put, List.setIfInBounds_toArray, List.set_cons_zero, List.set_cons_succ]
            refine wpAnyH_takeD (i := 14) (d := some 68) (v := ?_) rfl rfl (by kernel_rfl) (by kernel_rfl) (by kernel_rfl) (fun _ _ _ h => h) (Or.inl ⟨by rfl, ?_⟩) (by assumption) ?_
            rotate_left
            · ((intro w hSw; go_simp) <;> with_reducible rfl)
            try simp only [Act.put, List.setIfInBounds_toArray, List.set_cons_zero, List.set_cons_succ]
            refine wpAnyH_takeD (i := 15) (d := some 69) (v := ?_) rfl rfl (by kernel_rfl) (by kernel_rfl) (by kernel_rfl) (fun _ _ _ h => h) (Or.inl ⟨by rfl, ?_⟩) (by assumption) ?_
            rotate_left
            · ((intro w hSw; go_simp) <;> with_reducible rfl)
            try simp only [Act.put, List.setIfInBounds_toArray, List.set_cons_zero, List.set_cons_succ]
            refine wpAnyH_takeD (i := 16) (d := some 70) (v := ?_) rfl rfl (by kernel_rfl) (by kernel_rfl) (by kernel_rfl) (fun _ _ _ h => h) (Or.inl ⟨by rfl, ?_⟩) (by assumption) ?_
            rotate_left
            · ((intro w hSw; go_simp) <;> with_reducible rfl)
            try simp only [Act.put, List.setIfInBounds_toArray, List.set_cons_zero, List.set_cons_succ]
            refine wpAnyH_takeD (i := 17) (d := some 71) (v := ?_) rfl rfl (by kernel_rfl) (by kernel_rfl) (by kernel_rfl) (fun _ _ _ h => h) (Or.inl ⟨by rfl, ?_⟩) (by assumption) ?_
            rotate_left
            · ((intro w hSw; have e0 := hSw.1.out; go_simp) <;> with_reducible rfl)
            try simp only [Act.put, List.setIfInBounds_toArray, List.set_cons_zero, List.set_cons_succ]
            refine wpAnyH_takeD (i := 18) (d := some 72) (v := ?_) rfl rfl (by kernel_rfl) (by kernel_rfl) (by kernel_rfl) (fun _ _ _ h => h) (Or.inl ⟨by rfl, ?_⟩) (by assumption) ?_
            rotate_left
            · ((intro w hSw; go_simp) <;> with_reducible rfl)
            try simp only [Act.put, List.setIfInBounds_toArray, List.set_cons_zero, List.set_cons_succ]
            refine wpAnyH_takeD (i := 19) (d := some 73) (v := ?_) rfl rfl (by kernel_rfl) (by kernel_rfl) (by kernel_rfl) (fun _ _ _ h => h) (Or.inl ⟨by rfl, ?_⟩) (by assumption) ?_
            rotate_left
            · ((intro w hSw; go_simp) <;> with_reducible rfl)
            try simp only [Act.put, List.setIfInBounds_toArray, List.set_cons_zero, List.set_cons_succ]
            refine wpAnyH_takeD (i := 20) (d := some 74) (v := ?_) rfl rfl (by kernel_rfl) (by kernel_rfl) (by kernel_rfl) (fun _ _ _ h => h) (Or.inl ⟨by rfl, ?_⟩) (by assumption) ?_
            rotate_left
            · ((intro w hSw; go_simp) <;> with_reducible rfl)
            try simp only [Act.put, List.setIfInBounds_toArray, List.set_cons_zero, List.set_cons_succ]
            refine wpAnyH_takeD (i := 21) (d := some 75) (v := ?_) rfl rfl (by kernel_rfl) (by kernel_rfl) (by kernel_rfl) (fun _ _ _ h => h) (Or.inl ⟨by rfl, ?_⟩) (by assumption) ?_
            rotate_left
            · ((intro w hSw; go_simp) <;> with_reducible rfl)
            try simp only [Act.put, List.setIfInBounds_toArray, List.set_cons_zero, List.set_cons_succ]
            refine wpAnyH_takeD (i := 22) (d := some 76) (v := ?_) rfl rfl (by kernel_rfl) (by kernel_rfl) (by kernel_rfl) (fun _ _ _ h => h) (Or.inl ⟨by rfl, ?_⟩) (by assumption) ?_
            rotate_left
            · ((intro w hSw; go_simp) <;> with_reducible rfl)
            try simp only [Act.put, List.setIfInBounds_toArray, List.set_cons_zero, List.set_cons_succ]
            refine wpAnyH_takeD (i := 23) (d := some 77) (v := ?_) rfl rfl (by kernel_rfl) (by kernel_rfl) (by kernel_rfl) (fun _ _ _ h => h) (Or.inl ⟨by rfl, ?_⟩) (by assumption) ?_
            rotate_left
            · ((intro w hSw; have e0 := hSw.2.1.out; go_simp) <;> with_reducible rfl)
            try simp only [Act.put, List.setIfInBounds_toArray, List.set_cons_zero, List.set_cons_succ]
            refine wpAnyH_takeD (i := 24) (d := some 78) (v := ?_) rfl rfl (by kernel_rfl) (by kernel_rfl) (by kernel_rfl) (fun _ _ _ h => h) (Or.inl ⟨by rfl, ?_⟩) (by assumption) ?_
            rotate_left
            · ((intro w hSw; go_simp) <;> with_reducible rfl)
            try simp only [Act.put, List.setIfInBounds_toArray, List.set_cons_zero, List.set_cons_succ]
            refine wpAnyH_takeD (i := 25) (d := some 79) (v := ?_) rfl rfl (by kernel_rfl) (by kernel_rfl) (by kernel_rfl) (fun _ _ _ h => h) (Or.inl ⟨by rfl, ?_⟩) (by assumption) ?_
            rotate_left
            · ((intro w hSw; go_simp) <;> with_reducible rfl)
            try simp only [Act.put, List.setIfInBounds_toArray, List.set_cons_zero, List.set_cons_succ]
            refine wpAnyH_takeD (i := 26) (d := some 80) (v := ?_) rfl rfl (by kernel_rfl) (by kernel_rfl) (by kernel_rfl) (fun _ _ _ h => h) (Or.inl ⟨by rfl, ?_⟩) (by assumption) ?_
            rotate_left
            · ((intro w hSw; go_simp) <;> with_reducible rfl)
            try simp only [Act.put, List.setIfInBounds_toArray, List.set_cons_zero, List.set_cons_succ]
            refine wpAnyH_done (by kernel_rfl) ?_ _
            clear f0 g0 hf0 hg0
            by_cases t1 : d = 1
            · subst t1
              have hall := hide (hal2.out (by rw [hoks]; rfl))
              clear hoks hal2
              go_wp2
              go_roundw
              case rel => exact ⟨K + 1, by omega, by go_num, hall, hpa, hide hHeld.2.2.out⟩
              case measure => first | (simp [intOf]; done) | (simp [intOf]; omega)
            · by_cases t2 : d = -1
              · subst t2
                have hall := hide (hal2.out (by rw [hoks]; rfl))
                clear hoks hal2
                go_wp2
                go_roundw
                case rel => exact ⟨K + 1, by omega, by go_num, hall, hpa, hide hHeld.2.2.out⟩
                case measure => first | (simp [intOf]; done) | (simp [intOf]; omega)
              · by_cases t3 : d = 0
                · subst t3
                  rcases V.out with ⟨hv, rfl⟩ | ⟨rfl, rfl⟩
                  · have dv : decide (v < 4) = true := decide_eq_true hv
                    obtain rfl : r = false := Hno.out K hlt (by rw [hoks]; rfl)
                    clear hoks
                    go_wp2
                    go_ret
                    exact ⟨rfl, hHeld.2.2.out⟩
                  · cases lst
                    · obtain rfl : r = false := Hno.out K hlt (by rw [hoks]; rfl)
                      clear hoks
                      go_wp2
                      go_ret
                      exact ⟨rfl, hHeld.2.2.out⟩
                    · have hall := hide (hal2.out (by rw [hoks]; rfl))
                      clear hoks hal2
                      go_wp2
                      go_roundw
                      case rel => exact ⟨K + 1, by omega, by go_num, hall, hpa, hide hHeld.2.2.out⟩
                      case measure => first | (simp [intOf]; done) | (simp [intOf]; omega)
                · have q1 : (d == 1) = false := by simpa using t1
                  have q2 : (d == -1) = false := by simpa using t2
                  have q3 : (d == 0) = false := by simpa using t3
                  have q4 : decide (d = 1) = false := decide_eq_false t1
                  have q5 : decide (d = -1) = false := decide_eq_false t2
                  have q6 : decide (d = 0) = false := decide_eq_false t3
                  have q7 : (d != 1) = true := by simp [t1]
                  have q8 : (d != -1) = true := by simp [t2]
                  have q9 : (d != 0) = true := by simp [t3]
                  obtain rfl : r = false := Hno.out K hlt (by rw [hoks]; rw [q4, q5, q6]; rfl)
                  clear hoks
                  go_wp2
                  go_ret
                  exact ⟨rfl, hHeld.2.2.out⟩
    · obtain rfl : k = n := by omega
      obtain rfl : r = true := Hyes.out (fun i hi => hal.out i hi)
      go_wp2
      go_ret
      exact ⟨rfl, hw.out⟩
set_option maxHeartbeats 2000000 in
theorem NeedsV4 (A : Option Addr) (n c : Nat) (ts : List LP) (w : World) (hn : n ≤ 100000) (hr : Rk 2 w A n (lcs ts)) (hok : ∀ t ∈ ts, lpOk t) :
    Calls Try.prog 18 #[.slice A n c] w fun e w' => e = .returned (.bool (!vL ts false && vL ts true)) ∧ Below w.heap.size w w' := by
  have C3 := hide (fun w h => Valid A n c ts 3 false w (by decide) (by decide) rfl hn h hok)
  have C4 := hide (fun w h => Valid A n c ts 4 true w (by decide) (by decide) rfl hn h hok)
  generalize vL ts false = a at *
  generalize vL ts true = b at *
  replace hr := hide hr
  clear hok
  cases a <;> cases b
  all_goals
    go_enter Try.func18, Try.ntmps18
    go_wp2_with (go_at_call 16; first | (with_reducible refine (C3.out _ hr.out).mono ?_; rintro e w1 ⟨rfl, h1⟩) | (refine (C4.out _ (hr.out.below h1)).mono ?_; rintro e w2 ⟨rfl, h2⟩))
    go_ret
    first
      | exact ⟨rfl, h1⟩
      | exact ⟨rfl, bel_next h1 h2⟩
theorem DecodeK (A : Option Addr) (n c m : Nat) (l : List Int) (k : Nat) (K : Int) (w : World) (hK : K = (k : Int)) (hk : k = 4 ∨ k = 8) (hn : n ≤ 100000) (hm : n = m * (k + 4)) (hA : A = none → n = 0 ∧ c = 0) (hc : n ≤ c) (hcm : c ≤ 9223372036854775807) (hr : Rd w A n (l.map (Value.int .u8))) (hl : Bytes l) :
    Calls Try.prog 11 #[.slice A n c, .int .i64 K] w fun e w' => ∃ A' c', e = .returned (.slice A' m c') ∧ Ok 2 w' w.heap.size 38 A' m c' (lcs (dLP k l m)) ∧ Below w.heap.size w w' := by
  subst hK
  exact Decode A n c m l k w hk hn hm hA hc hcm hr hl
end r17_
end Go.Proofs.Ytickchkcfaggfaa
