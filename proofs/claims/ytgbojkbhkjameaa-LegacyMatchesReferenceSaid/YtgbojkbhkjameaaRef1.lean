/-
  CONTRACTS OF PACKAGE zoneinforef01 (the reference of layer 1) for widths 1, 4 and 8.
-/
import Derived.Test.YtgbojkbhkjameaaBe
import Derived.Test.YtgbojkbhkjameaaSame1
namespace Go.Proofs.Ytgbojkbhkjameaa
open Go.ChangeShapes Go.WideShapes Go.ChangeAt Go.RowKit
set_option linter.unusedVariables false
namespace r1_
def halfV (n : Int) : Int := if n = 1 then 128 else if n = 4 then 2147483648 else 9223372036854775808
theorem half (n : Int) (w : World) (h : n = 1 ∨ n = 4 ∨ n = 8) : Calls Try.prog 50 #[.int .i64 n] w fun e w' => e = .returned (.int .u64 (halfV n)) ∧ w = w' := by
  obtain ⟨j, rfl⟩ : ∃ j : Nat, n = j := ⟨n.toNat, by omega⟩
  have hj : 1 ≤ j ∧ j ≤ 8 := by omega
  obtain ⟨hj1, hj2⟩ := hj
  have e : halfV j = 128 * 256 ^ (j - 1) := by
    rcases (show j = 1 ∨ j = 4 ∨ j = 8 by omega) with rfl | rfl | rfl <;> simp [halfV]
  rw [e]
  clear h e
  go_enter Try.func50, Try.ntmps50
  go_wp2
  go_loop [3, 4] (fun p i => ∃ k : Nat, 1 ≤ k ∧ k ≤ j ∧ i = .int .i64 k ∧ p = .int .u64 (128 * 256 ^ (k - 1))) (fun _ i => j - (intOf i).toNat)
  case atStart => exact ⟨1, by omega, by omega, rfl, rfl⟩
  case round =>
    obtain ⟨k, hk1, hk2, rfl, rfl⟩ := hrel
    have hb : k < j → 0 ≤ (256 : Int) ^ (k - 1) ∧ (256 : Int) ^ (k - 1) ≤ 281474976710656 := by
      intro hkj
      match k, hk1, (show k ≤ 7 by omega) with
      | 1, _, _ => decide
      | 2, _, _ => decide
      | 3, _, _ => decide
      | 4, _, _ => decide
      | 5, _, _ => decide
      | 6, _, _ => decide
      | 7, _, _ => decide
    have hs : 128 * (256 : Int) ^ (k + 1 - 1) = 128 * 256 ^ (k - 1) * 256 := by
      obtain ⟨m, rfl⟩ : ∃ m, k = m + 1 := ⟨k - 1, by omega⟩
      simp only [Nat.add_sub_cancel]
      rw [Int.pow_succ]
      omega
    have Hs := hide hs; clear hs
    generalize hq : (256 : Int) ^ (k - 1) = q at *
    have Hq := hide hq; clear hq
    by_cases hlt : k < j
    · obtain ⟨q0, q1⟩ := hb hlt
      clear hb
      go_wp2
      go_round
      case rel => exact ⟨k + 1, by omega, by omega, by go_num, by rw [Hs.out]⟩
      case measure => simp [intOf]; omega
    · obtain rfl : k = j := by omega
      clear hb
      go_wp2
      go_ret
      exact ⟨reti (by rw [Hq.out]), rfl⟩
theorem halfV_bd (k : Int) (h : k = 1 ∨ k = 4 ∨ k = 8) : 128 ≤ halfV k ∧ halfV k ≤ 9223372036854775808 := by
  rcases h with rfl | rfl | rfl <;> simp [halfV]
theorem Fits (v k : Int) (w : World) (h : k = 1 ∨ k = 4 ∨ k = 8) (hv0 : -9223372036854775808 ≤ v) (hv1 : v < 9223372036854775808) :
    Calls Try.prog 38 #[.int .i64 v, .int .i64 k] w fun e w' => e = .returned (.bool (fitsB k v)) ∧ w = w' := by
  rcases h with rfl | rfl | rfl
  · go_enter Try.func38, Try.ntmps38
    go_wp2_with (go_at_call 50; refine (half 1 _ (by omega)).mono ?_; rintro e w' ⟨rfl, rfl⟩; rw [show halfV 1 = 128 from rfl])
    all_goals go_ret
    all_goals exact ⟨retb (by rw [Bool.eq_iff_iff]; simp [fitsB]; try omega), rfl⟩
  · go_enter Try.func38, Try.ntmps38
    go_wp2_with (go_at_call 50; refine (half 4 _ (by omega)).mono ?_; rintro e w' ⟨rfl, rfl⟩; rw [show halfV 4 = 2147483648 from rfl])
    all_goals go_ret
    all_goals exact ⟨retb (by rw [Bool.eq_iff_iff]; simp [fitsB]; try omega), rfl⟩
  · go_enter Try.func38, Try.ntmps38
    go_wp2
    go_ret
    exact ⟨retb (by simp [fitsB]), rfl⟩
end r1_
end Go.Proofs.Ytgbojkbhkjameaa
