/-
  CONTRACTS OF PACKAGE zoneinforef18 (the reference of layer 18). Conditions: at most 100,000 bytes or indicators.
-/
import Derived.Test.YtgbojkbhkjameaaSame1
import Derived.Test.YtgbojkbhkjameaaBlM
import Derived.Test.YtgbojkbhkjameaaBase2
import Derived.Deep.RegionHeld3
import Derived.Deep.DeepCutAuto
import Derived.Deep.RegionLaw
namespace Go.Proofs.Ytgbojkbhkjameaa
open Go.ChangeShapes Go.WideShapes Go.ChangeAt Go.RowKit
set_option linter.unusedVariables false
set_option maxRecDepth 100000
theorem elBo_ : ElT Try.prog 26 4 (.bool false) 1 := ⟨Try.underlying26, by kernel_rfl, rfl⟩
theorem elBy_ : ElT Try.prog 23 5 (.int .u8 0) 1 := ⟨Try.underlying23, by kernel_rfl, rfl⟩
theorem rx_at {w : World} {A : Option Addr} {n : Nat} {xs : List Int} (h : Rd w A n (xs.map (Value.int .u8))) {i : Nat} (hi : i < n) : ∃ ad x, A = some ad ∧ xs[i]? = some x ∧ w.cell? (ad.add i) = some (.int .u8 x) := by
  obtain ⟨ad, v, h1, h2, h3⟩ := h.at_ hi
  rw [List.getElem?_map] at h2
  cases hx : xs[i]? with
  | none => rw [hx] at h2; simp at h2
  | some x => rw [hx] at h2; simp at h2; subst h2; exact ⟨ad, x, h1, rfl, h3⟩
namespace r18_
set_option maxHeartbeats 1000000 in
theorem Same (A A' : Option Addr) (n n' c c' : Nat) (l l' : List Bool) (w : World) (hn : n ≤ 9223372036854775807) (hn' : n' ≤ 9223372036854775807) (hr : Rd w A n (bls l)) (hr' : Rd w A' n' (bls l')) :
    Calls Try.prog 29 #[.slice A n c, .slice A' n' c'] w fun e w' => e = .returned (.bool (decide (l = l'))) ∧ Below w.heap.size w w' := by
  have hl : l.length = n := by have := hr.len; simpa using this
  have hl' : l'.length = n' := by have := hr'.len; simpa using this
  obtain ⟨b, hb⟩ : ∃ b, b = decide (l = l') := ⟨_, rfl⟩
  rw [← hb]
  by_cases hnn : n = n'
  rotate_left
  · have : b = false := by rw [hb]; exact decide_eq_false fun h => hnn (by rw [← hl, ← hl', h])
    subst this
    have hne : ((n : Int) != n') = true := by simp; omega
    clear hb hl hl' hr hr'
    go_enter Try.func29, Try.ntmps29
    go_wp2
    go_ret
    exact ⟨rfl, bl_refl _⟩
  subst hnn
  have HB := hide hb
  have HL := hide hl
  have HL' := hide hl'
  clear hb hl hl'
  go_enter Try.func29, Try.ntmps29
  go_wp2
  go_loopw [5] (fun i wr => ∃ k : Nat, k ≤ n ∧ i = .int .i64 (k : Nat) ∧ Hid (l.take k = l'.take k) ∧ Hid (Below w.heap.size w wr)) (fun i _ => n - (intOf i).toNat)
  case atStart => exact ⟨0, by omega, rfl, hide rfl, hide (bl_refl _)⟩
  case round =>
    obtain ⟨k, hk, rfl, ht, hw⟩ := hrel
    by_cases hlt : k < n
    · obtain ⟨ad, t, e1, x1, f0⟩ := rb_at (hr.below hw.out) hlt
      obtain ⟨ad', u, e2, x2, g0⟩ := rb_at (hr'.below hw.out) hlt
      subst e1 e2
      by_cases hxy : t = u
      · have hs := hide (show l.take (k + 1) = l'.take (k + 1) by rw [List.take_add_one, List.take_add_one, ht.out, x1, x2, hxy])
        clear x1 x2
        subst hxy
        cases t
        all_goals
          go_wp2
          go_quiet (fail)
          go_wp2
          go_roundw
          case rel => exact ⟨k + 1, by omega, by go_num, hs, hide (bel_drewN hw.out _)⟩
          case measure => simp [intOf]; omega
      · have hne : b = false := by
          rw [HB.out]
          exact decide_eq_false (fun h => by rw [h, x2] at x1; injection x1 with x1; exact hxy x1.symm)
        subst hne
        clear x1 x2
        rcases (show (t = true ∧ u = false) ∨ (t = false ∧ u = true) by cases t <;> cases u <;> simp_all) with ⟨rfl, rfl⟩ | ⟨rfl, rfl⟩
        all_goals
          clear hxy
          go_wp2
          go_quiet (fail)
          go_wp2
          go_ret
          exact ⟨rfl, bel_drewN hw.out _⟩
    · obtain rfl : k = n := by omega
      have hne : b = true := by
        rw [HB.out]
        refine decide_eq_true ?_
        have := ht.out
        rwa [List.take_of_length_le (by rw [HL.out]; omega), List.take_of_length_le (by rw [HL'.out]; omega)] at this
      subst hne
      go_wp2
      go_ret
      exact ⟨rfl, hw.out⟩
set_option maxHeartbeats 1000000 in
theorem Consistent (A A' : Option Addr) (n n' c c' : Nat) (s u : List Bool) (w : World) (hn : n ≤ 100000) (hn' : n' ≤ 100000) (hr : Rd w A n (bls s)) (hr' : Rd w A' n' (bls u)) :
    Calls Try.prog 43 #[.slice A n c, .slice A' n' c'] w fun e w' => e = .returned (.bool (cn s u)) ∧ w = w' := by
  have hl : s.length = n := by have := hr.len; simpa using this
  have hl' : u.length = n' := by have := hr'.len; simpa using this
  obtain ⟨b, hb⟩ : ∃ b, b = cn s u := ⟨_, rfl⟩
  rw [← hb]
  have HB := hide hb
  have HL := hide hl
  have HL' := hide hl'
  clear hb hl hl'
  go_enter Try.func43, Try.ntmps43
  go_wp2
  go_loop [5] (fun i => ∃ k : Nat, k ≤ n' ∧ i = .int .i64 (k : Nat) ∧ Hid (cnN s u k = true)) (fun i => n' - (intOf i).toNat)
  case atStart => exact ⟨0, by omega, rfl, hide rfl⟩
  case round =>
    obtain ⟨k, hk, rfl, hc⟩ := hrel
    by_cases hlt : k < n'
    · have hkn : (k : Int) < (n' : Int) := by omega
      obtain ⟨ad', y, e2, hy, g0⟩ := rb_at hr' hlt
      subst e2
      have hby := bg_at hy
      by_cases hks : k < n
      · have dk : decide ((k : Int) < (n : Int)) = true := by simpa using hks
        have dk2 : (k : Int) < (n : Int) := by omega
        obtain ⟨ad, x, e1, hx, f0⟩ := rb_at hr hks
        subst e1
        have hbx := bg_at hx
        have hst := cnN_step s u k
        rw [hc.out, hby, hbx, Bool.true_and] at hst
        have hno := hide (fun (h1 : y = true) (h2 : x = false) => show b = false by rw [HB.out]; exact cn_no (by rw [HL'.out]; exact hlt) (hby.trans h1) (hbx.trans h2))
        replace hst := hide hst
        clear hx hy hbx hby
        cases y
        · clear hno
          go_wp2
          go_round
          case rel => exact ⟨k + 1, by omega, by go_num, by rw [hst.out]; exact hide rfl⟩
          case measure => simp [intOf]; omega
        · cases x
          · obtain rfl := hno.out rfl rfl
            go_wp2
            go_ret
            exact ⟨rfl, rfl⟩
          · clear hno
            go_wp2
            go_round
            case rel => exact ⟨k + 1, by omega, by go_num, by rw [hst.out]; exact hide rfl⟩
            case measure => simp [intOf]; omega
      · have dk : decide ((k : Int) < (n : Int)) = false := by simp; omega
        have hbx : bg s k = false := bg_out (by rw [HL.out]; omega)
        have hst := cnN_step s u k
        rw [hc.out, hby, hbx, Bool.true_and, Bool.or_false] at hst
        have hno := hide (fun (h1 : y = true) => show b = false by rw [HB.out]; exact cn_no (by rw [HL'.out]; exact hlt) (hby.trans h1) hbx)
        replace hst := hide hst
        clear hy hbx hby
        cases y
        · clear hno
          go_wp2
          go_round
          case rel => exact ⟨k + 1, by omega, by go_num, by rw [hst.out]; exact hide rfl⟩
          case measure => simp [intOf]; omega
        · obtain rfl := hno.out rfl
          go_wp2
          go_ret
          exact ⟨rfl, rfl⟩
    · obtain rfl : k = n' := by omega
      obtain rfl : b = true := by rw [HB.out]; unfold cn; rw [HL'.out]; exact hc.out
      go_wp2
      go_ret
      exact ⟨rfl, rfl⟩
end r18_
end Go.Proofs.Ytgbojkbhkjameaa
