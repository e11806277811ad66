/-
  CONTRACT OF zoneinforef01.Same (it imports less than Ref1: for seats that hold nothing else of layer 1). No conditions beyond the bound.
-/
import Derived.Test.YtgbojkbhkjameaaRows
import Derived.Test.YtgbojkbhkjameaaBase2
import Derived.BigQuiet
namespace Go.Proofs.Ytgbojkbhkjameaa
open Go.ChangeShapes Go.WideShapes Go.ChangeAt Go.RowKit
set_option linter.unusedVariables false
namespace r1_
/-- two slices that read the same numbers are the same. -/
theorem Same (A A' : Option Addr) (n c n' c' : Nat) (l : List Int) (w : World) (hn : n ≤ 9223372036854775807) (hr : Rd w A n (l.map (Value.int .u8))) (hr' : Rd w A' n' (l.map (Value.int .u8))) :
    Calls Try.prog 26 #[.slice A n c, .slice A' n' c'] w fun e w' => e = .returned (.bool true) ∧ Below w.heap.size w w' := by
  obtain rfl : n' = n := by rw [← hr.len, ← hr'.len]
  go_enter Try.func26, Try.ntmps26
  go_wp2
  go_loopw [5] (fun i wr => ∃ k : Nat, k ≤ n' ∧ i = .int .i64 (k : Nat) ∧ Below w.heap.size w wr) (fun i _ => n' - (intOf i).toNat)
  case atStart => exact ⟨0, by omega, rfl, Below.refl _ _⟩
  case round =>
    obtain ⟨k, hk, rfl, hb⟩ := hrel
    by_cases hlt : k < n'
    · obtain ⟨ad, rfl, hc⟩ := (hr.below hb).int hlt
      obtain ⟨ad', rfl, hc'⟩ := (hr'.below hb).int hlt
      go_wp2
      go_quiet (fail)
      go_wp2
      go_roundw
      case rel => exact ⟨k + 1, by omega, by go_num, bel_drewN hb _⟩
      case measure => simp [intOf]; omega
    · go_wp2
      go_ret
      exact ⟨rfl, hb⟩
/-- two slices of one length: the same exactly if they read the same numbers. -/
theorem Same2 (A A' : Option Addr) (n c c' : Nat) (l l' : List Int) (w : World) (hn : n ≤ 9223372036854775807) (hr : Rd w A n (l.map (Value.int .u8))) (hr' : Rd w A' n (l'.map (Value.int .u8))) :
    Calls Try.prog 26 #[.slice A n c, .slice A' n c'] w fun e w' => e = .returned (.bool (decide (l = l'))) ∧ ∃ q, w' = w.drewN q := by
  have hl : l.length = n := by have := hr.len; simpa using this
  have hl' : l'.length = n := by have := hr'.len; simpa using this
  obtain ⟨b, hb⟩ : ∃ b, b = decide (l = l') := ⟨_, rfl⟩
  rw [← hb]
  have HB := hide hb
  have HL := hide hl
  have HL' := hide hl'
  clear hb hl hl'
  go_enter Try.func26, Try.ntmps26
  go_wp2
  go_loopw [5] (fun i wr => ∃ k q : Nat, k ≤ n ∧ i = .int .i64 (k : Nat) ∧ Hid (l.take k = l'.take k) ∧ Hid (wr = w.drewN q)) (fun i _ => n - (intOf i).toNat)
  case atStart => exact ⟨0, 0, by omega, rfl, hide rfl, hide (by simp [World.drewN_zero])⟩
  case round =>
    obtain ⟨k, q, hk, rfl, ht, hw⟩ := hrel
    by_cases hlt : k < n
    · obtain ⟨ad, e1, hc⟩ := (show Rd wr A n (l.map (Value.int .u8)) by rw [hw.out]; exact hr.drewN q).int hlt
      obtain ⟨ad', e2, hc'⟩ := (show Rd wr A' n (l'.map (Value.int .u8)) by rw [hw.out]; exact hr'.drewN q).int hlt
      subst e1 e2
      have x1 : l[k]? = some (l[k]?.getD 0) := by rw [List.getElem?_eq_getElem (by rw [HL.out]; exact hlt)]; rfl
      have x2 : l'[k]? = some (l'[k]?.getD 0) := by rw [List.getElem?_eq_getElem (by rw [HL'.out]; exact hlt)]; rfl
      generalize l[k]?.getD 0 = x at *
      generalize l'[k]?.getD 0 = y at *
      by_cases hxy : x = y
      · subst hxy
        have hs := hide (show l.take (k + 1) = l'.take (k + 1) by rw [List.take_add_one, List.take_add_one, ht.out, x1, x2])
        clear x1 x2
        go_wp2
        go_quiet (fail)
        go_wp2
        go_roundw
        case rel => exact ⟨k + 1, _, by omega, by go_num, hs, hide (by rw [hw.out, World.drewN_drewN])⟩
        case measure => simp [intOf]; omega
      · have hn : (x != y) = true := by simpa using hxy
        have hne : b = false := by
          rw [HB.out]
          exact decide_eq_false (fun h => by rw [h, x2] at x1; injection x1 with x1; exact hxy x1.symm)
        subst hne
        clear x1 x2
        go_wp2
        go_quiet (fail)
        go_wp2
        go_ret
        exact ⟨rfl, _, by rw [hw.out, World.drewN_drewN]⟩
    · obtain rfl : k = n := by omega
      have hne : b = true := by
        rw [HB.out]
        refine decide_eq_true ?_
        have := ht.out
        rwa [List.take_of_length_le (by rw [HL.out]; omega), List.take_of_length_le (by rw [HL'.out]; omega)] at this
      subst hne
      go_wp2
      go_ret
      exact ⟨rfl, _, hw.out⟩
/-- two slices: the same exactly if they read the same numbers. -/
theorem SameG (A A' : Option Addr) (n n' c c' : Nat) (l l' : List Int) (w : World) (hn : n ≤ 9223372036854775807) (hn' : n' ≤ 9223372036854775807) (hr : Rd w A n (l.map (Value.int .u8))) (hr' : Rd w A' n' (l'.map (Value.int .u8))) :
    Calls Try.prog 26 #[.slice A n c, .slice A' n' c'] w fun e w' => e = .returned (.bool (decide (l = l'))) ∧ Below w.heap.size w w' := by
  by_cases h : n = n'
  · subst h
    refine (Same2 A A' n c c' l l' w hn hr hr').mono ?_
    rintro e w' ⟨rfl, q, rfl⟩
    exact ⟨rfl, bel_drewN (bl_refl _) _⟩
  · have hl : l.length = n := by have := hr.len; simpa using this
    have hl' : l'.length = n' := by have := hr'.len; simpa using this
    rw [show decide (l = l') = false from decide_eq_false fun e => h (by rw [← hl, ← hl', e])]
    have hne : ((n : Int) != n') = true := by simp; omega
    clear hl hl' hr hr'
    go_enter Try.func26, Try.ntmps26
    go_wp2
    go_ret
    exact ⟨rfl, bl_refl _⟩
end r1_
end Go.Proofs.Ytgbojkbhkjameaa
