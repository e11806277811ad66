/-
  THE WALKS OF THE LAWS OF LAYER 5 (zoneinfolaw05): DatetimeYears. No conditions beyond the tables'.
-/
import Derived.Test.YtbfdjlgpmfhdoaaDoorDtW
namespace Go.Proofs.YtbfdjlgpmfhdoaaDoor
open Go.ChangeShapes Go.WideShapes Go.ChangeAt Go.RowKit
set_option linter.unusedVariables false
namespace l5_
set_option maxRecDepth 100000 in
set_option maxHeartbeats 4000000 in
theorem years (a0 : Int) (w : World) (hT : Tb w) (w0 : (Lit.int .i64 a0).wf = true) :
    Calls Tryd.prog 6 #[.int .i64 a0] w fun e w' => e = .returned (.bool true) ∧ Below w.heap.size w w' := by
  obtain ⟨p0, q0⟩ := wf_i64 w0
  have hb := hide (Below.refl w.heap.size w)
  have HT := hide hT
  clear hT w0
  by_cases h1 : 4611686018427387904 < a0
  · -- too far
    go_enter Tryd.func6, Tryd.ntmps6
    go_wp2_with fail
    refine (awake _ HT.out).mono ?_
    rintro e w1 ⟨rfl, h1⟩
    replace HT := hide (HT.out.below h1)
    replace hb := hide (bel_next hb.out h1)
    clear h1
    go_wp2_with fail
    refine (awake _ HT.out).mono ?_
    rintro e w1 ⟨rfl, h1⟩
    replace HT := hide (HT.out.below h1)
    replace hb := hide (bel_next hb.out h1)
    clear h1
    go_wp2
    go_ret
    exact ⟨rfl, hb.out⟩
  by_cases h2 : a0 < -4611686018427387904
  · -- too far
    go_enter Tryd.func6, Tryd.ntmps6
    go_wp2_with fail
    refine (awake _ HT.out).mono ?_
    rintro e w1 ⟨rfl, h1⟩
    replace HT := hide (HT.out.below h1)
    replace hb := hide (bel_next hb.out h1)
    clear h1
    go_wp2_with fail
    refine (awake _ HT.out).mono ?_
    rintro e w1 ⟨rfl, h1⟩
    replace HT := hide (HT.out.below h1)
    replace hb := hide (bel_next hb.out h1)
    clear h1
    go_wp2
    go_ret
    exact ⟨rfl, hb.out⟩
  obtain ⟨y, mo, d, hd⟩ := IsDate.ex (a0 / 86400)
  have hy := hd.year
  have hyb : -549755813888 ≤ y ∧ y ≤ 549755813888 := by
    constructor
    · rcases Int.lt_or_le y (-549755813888) with h | h
      · have := ystart_lt h; unfold ystart at this hy; omega
      · exact h
    · rcases Int.lt_or_le 549755813888 y with h | h
      · have := ystart_mono (show 549755813889 ≤ y by omega); unfold ystart at this hy; omega
      · exact h
  obtain ⟨y0, y1⟩ := hyb
  obtain ⟨s, hs⟩ : ∃ s, Hid (ystart y = s) := ⟨_, rfl⟩
  obtain ⟨e, he⟩ : ∃ e, Hid (ystart (y + 1) = e) := ⟨_, rfl⟩
  have hse : s + 365 ≤ e ∧ e ≤ s + 366 := by
    have h1 := ystart_succ y
    have h2 := ylen_bd y
    rw [← hs.out, ← he.out]
    omega
  rw [hs.out, he.out] at hy
  have hsb : -60000000000000 ≤ s ∧ s ≤ 60000000000000 := by omega
  have D1 := hide (fun w => r4_.Days y 1 1 w (by omega) (by omega) (by omega) (by omega) (by omega) (by omega))
  have D2 := hide (fun w => r4_.Days (y + 1) 1 1 w (by omega) (by omega) (by omega) (by omega) (by omega) (by omega))
  rw [days_first, hs.out] at D1
  rw [days_first, he.out] at D2
  have jan : ∀ z : Int, IsDate (ystart z) z 1 1 := fun z => ⟨⟨by omega, by omega, by omega, by have := mdays_bd z 1; omega⟩, days_first z⟩
  have dec : IsDate (ystart (y + 1) - 1) y 12 31 := ⟨⟨by omega, by omega, by omega, by simp [mdays]⟩, days_last y⟩
  have Y0 := hide (fun w hT => dt_.YearOf a0 y mo d w hT p0 q0 hd)
  have Y1 := hide (fun w hT => dt_.YearOf (s * 86400) y 1 1 w hT (by omega) (by omega) (by rw [Int.mul_ediv_cancel _ (by decide), ← hs.out]; exact jan y))
  have Y2 := hide (fun w hT => dt_.YearOf (e * 86400) (y + 1) 1 1 w hT (by omega) (by omega) (by rw [Int.mul_ediv_cancel _ (by decide), ← he.out]; exact jan (y + 1)))
  have Y3 := hide (fun w hT => dt_.YearOf (e * 86400 - 1) y 12 31 w hT (by omega) (by omega) (by rw [show (e * 86400 - 1) / 86400 = e - 1 by omega, ← he.out]; exact dec))
  clear jan dec hd
  have n1 : decide (549755813888 < y) = false := by simp; omega
  have n2 : decide (y < -549755813888) = false := by simp; omega
  have t1 : s * 86400 ≤ a0 := by omega
  have t2 : a0 < e * 86400 := by omega
  clear hy
  go_enter Tryd.func6, Tryd.ntmps6
  go_wp2_with fail
  refine (awake _ HT.out).mono ?_
  rintro e w1 ⟨rfl, h1⟩
  replace HT := hide (HT.out.below h1)
  replace hb := hide (bel_next hb.out h1)
  clear h1
  go_wp2_with fail
  refine (Y0.out _ HT.out).mono ?_
  rintro e w1 ⟨rfl, h1⟩
  replace HT := hide (HT.out.below h1)
  replace hb := hide (bel_next hb.out h1)
  clear h1
  go_wp2_with fail
  refine (D1.out _).mono ?_
  rintro e w2 ⟨rfl, rfl⟩
  go_wp2_with fail
  refine (D2.out _).mono ?_
  rintro e w2 ⟨rfl, rfl⟩
  go_wp2_with fail
  refine (Y1.out _ HT.out).mono ?_
  rintro e w1 ⟨rfl, h1⟩
  replace HT := hide (HT.out.below h1)
  replace hb := hide (bel_next hb.out h1)
  clear h1
  go_wp2_with fail
  refine (Y2.out _ HT.out).mono ?_
  rintro e w1 ⟨rfl, h1⟩
  replace HT := hide (HT.out.below h1)
  replace hb := hide (bel_next hb.out h1)
  clear h1
  go_wp2_with fail
  refine (Y3.out _ HT.out).mono ?_
  rintro e w1 ⟨rfl, h1⟩
  replace HT := hide (HT.out.below h1)
  replace hb := hide (bel_next hb.out h1)
  clear h1
  go_wp2
  go_ret
  exact ⟨rfl, hb.out⟩
end l5_
end Go.Proofs.YtbfdjlgpmfhdoaaDoor
