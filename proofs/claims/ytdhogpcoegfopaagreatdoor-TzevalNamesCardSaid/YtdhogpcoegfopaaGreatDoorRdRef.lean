/-
  CONTRACTS OF PACKAGE zoneinforef06 (the reference of layer 6).
-/
import Derived.Test.YtdhogpcoegfopaaGreatDoorCvRef
import Derived.Test.YtdhogpcoegfopaaGreatDoorRdMath
namespace Go.Proofs.YtdhogpcoegfopaaGreatDoor
open Go.ChangeShapes Go.WideShapes Go.ChangeAt Go.RowKit
set_option linter.unusedVariables false
set_option maxRecDepth 100000
/-- a rule day as a value. -/
def vrd (K D M Wk Wd T : Int) : Value := .agg #[.int .i64 K, .int .i64 D, .int .i64 M, .int .i64 Wk, .int .i64 Wd, .int .i64 T]
theorem cells6 {w : World} {g : Nat} {a b c d e f : Value} (h : Bx w g [a, b, c, d, e, f]) : w.cell? ⟨g, 0, none⟩ = some a ∧ w.cell? ⟨g, 1, none⟩ = some b ∧ w.cell? ⟨g, 2, none⟩ = some c ∧ w.cell? ⟨g, 3, none⟩ = some d ∧ w.cell? ⟨g, 4, none⟩ = some e ∧ w.cell? ⟨g, 5, none⟩ = some f :=
  ⟨h.2.1 0 _ rfl, h.2.1 1 _ rfl, h.2.1 2 _ rfl, h.2.1 3 _ rfl, h.2.1 4 _ rfl, h.2.1 5 _ rfl⟩
theorem flip6 {P : Program} {f : FuncId} {a : Array Value} {w : World} {x : Ending} (h : Calls P f a w fun e w' => e = x ∧ w = w') : Calls P f a w fun e w' => e = x ∧ w' = w := h.mono fun _ _ h => ⟨h.1, h.2.symm⟩
namespace r6_
set_option maxHeartbeats 4000000 in
theorem Valid (K D M Wk Wd T : Int) (w : World) : Calls Tryz.prog 20 #[vrd K D M Wk Wd T] w fun e w' => e = .returned (.bool (decide (RdOk K D M Wk Wd T))) ∧ Below w.heap.size w w' := by
  unfold vrd
  go_enter Tryz.func20, Tryz.ntmps20
  go_wp2
  all_goals go_ret
  all_goals
    refine ⟨retb ?_, bl_new _ _⟩
    rw [Bool.eq_iff_iff, decide_eq_true_iff]
    unfold RdOk
    simp_all
    try omega
theorem ystart_bd {y : Int} (h0 : -200000000001 ≤ y) (h1 : y ≤ 200000000001) : -80000000000000 ≤ ystart y ∧ ystart y ≤ 80000000000000 := by unfold ystart; omega
set_option maxHeartbeats 4000000 in
theorem Day_zero (D M Wk Wd T y : Int) (w : World) (h0 : -200000000001 ≤ y) (h1 : y ≤ 200000000001) (hk : 0 ≤ D) (hk' : D ≤ 366) :
    Calls Tryz.prog 46 #[vrd 2 D M Wk Wd T, .int .i64 y] w fun e w' => e = .returned (.int .i64 (ystart y + D)) ∧ Below w.heap.size w w' := by
  have hb := ystart_bd h0 h1
  have C := hide (fun w => r4_.Days y 1 1 w (by omega) (by omega) (by omega) (by omega) (by omega) (by omega))
  rw [days_first] at C
  generalize ystart y = s at *
  obtain ⟨b0, b1⟩ := hb
  unfold vrd
  go_enter Tryz.func46, Tryz.ntmps46
  go_wp2_with fail
  refine (C.out _).mono ?_
  rintro e w1 ⟨rfl, rfl⟩
  go_wp2
  go_ret
  exact ⟨rfl, bl_new _ _⟩
set_option maxHeartbeats 4000000 in
theorem Day_julian (D M Wk Wd T y : Int) (w : World) (h0 : -200000000001 ≤ y) (h1 : y ≤ 200000000001) (hk : 1 ≤ D) (hk' : D ≤ 365) :
    Calls Tryz.prog 46 #[vrd 1 D M Wk Wd T, .int .i64 y] w fun e w' => e = .returned (.int .i64 (rdj y D)) ∧ Below w.heap.size w w' := by
  obtain ⟨k, hk11, hc1, hc2⟩ := julian hk hk'
  have hj := julian_day (y := y) hk11 hc1 hc2
  have hb := hide (bl_new w (.cells #[.int .i64 1, .int .i64 D, .int .i64 M, .int .i64 Wk, .int .i64 Wd, .int .i64 T] 23))
  have C := hide (fun w => r4_.Days y 1 1 w (by omega) (by omega) (by omega) (by omega) (by omega) (by omega))
  have C2 := hide (fun w => r4_.Days y ((k : Int) + 1) (D - cum 2001 k) w (by omega) (by omega) (by omega) (by omega) (by have := hj.2.2.2.1; omega) (by have := hj.2.2.2.2; have := mdays_bd y ((k : Int) + 1); omega))
  have Mo := hide (fun m w => r4_.MonthDays 2001 m w (by omega) (by omega))
  rw [hj.1] at C2
  have Hc1 := hide hc1
  have Hc2 := hide hc2
  have F0 := hide (show D - cum 2001 0 = D by simp [cum])
  clear hj hc1 hc2
  generalize days y 1 1 = s at *
  generalize rdj y D = res at *
  unfold vrd
  go_enter Tryz.func46, Tryz.ntmps46
  go_wp2_with fail
  refine (C.out _).mono ?_
  rintro e w1 ⟨rfl, rfl⟩
  go_wp2_with fail
  go_loop [6, 7] (fun m d => ∃ (i : Nat) (v : Int), i ≤ k ∧ m = .int .i64 ((i : Int) + 1) ∧ d = .int .i64 v ∧ Hid (v = D - cum 2001 i)) (fun m _ => k + 2 - (intOf m).toNat)
  case atStart => exact ⟨0, _, by omega, rfl, rfl, hide F0.out.symm⟩
  case round =>
    obtain ⟨i, v, hi, rfl, rfl, hv⟩ := hrel
    have hvv := hv.out
    have M1 := hide (Mo.out ((i : Int) + 1))
    have b2 := mdays_bd 2001 ((i : Int) + 1)
    have b1 := cum_bd 2001 i
    have hcs : cum 2001 (i + 1) = cum 2001 i + mdays 2001 ((i : Int) + 1) := rfl
    have g1 := Hc1.out
    have g2 := Hc2.out
    by_cases hlt : i < k
    · have hcm := cum_mono 2001 (show i + 1 ≤ k by omega)
      have hge : mdays 2001 ((i : Int) + 1) < v := by omega
      have hun := hide (show v - mdays 2001 ((i : Int) + 1) = D - cum 2001 (i + 1) by omega)
      have hub : v ≤ 366 := by omega
      clear hvv hcs g1 g2 hcm b1
      generalize mdays 2001 ((i : Int) + 1) = x at *
      obtain ⟨b2, b3⟩ := b2
      go_wp2_with (go_at_call 61; refine (M1.out _).mono ?_; rintro e w' ⟨rfl, rfl⟩)
      go_round
      case rel => exact ⟨i + 1, _, by omega, by go_num, rfl, hun⟩
      case measure => simp [intOf]; omega
    · obtain rfl : i = k := by omega
      have hle : v ≤ mdays 2001 ((i : Int) + 1) := by omega
      rw [← hvv] at C2
      clear hvv hcs g1 g2 b1
      generalize mdays 2001 ((i : Int) + 1) = x at *
      go_wp2_with (first
        | (go_at_call 61; refine (M1.out _).mono ?_; rintro e w' ⟨rfl, rfl⟩)
        | (go_at_call 62; refine (C2.out _).mono ?_; rintro e w' ⟨rfl, rfl⟩))
      go_ret
      exact ⟨rfl, hb.out⟩
end r6_
end Go.Proofs.YtdhogpcoegfopaaGreatDoor
