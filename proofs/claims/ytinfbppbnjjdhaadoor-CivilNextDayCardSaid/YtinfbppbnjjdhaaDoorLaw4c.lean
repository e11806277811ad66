/-
  THE WALKS OF THE LAWS OF LAYER 4 (zoneinfolaw04): CivilNextDay. No conditions beyond the table's.
-/
import Derived.Test.YtinfbppbnjjdhaaDoorLaw4
namespace Go.Proofs.YtinfbppbnjjdhaaDoor
open Go.ChangeShapes Go.WideShapes Go.ChangeAt Go.RowKit
set_option linter.unusedVariables false
namespace l4_
set_option maxRecDepth 100000 in
set_option maxHeartbeats 4000000 in
theorem nextDay (a0 a1 a2 : Int) (w : World) (hT : Tb w) (w0 : (Lit.int .i64 a0).wf = true) (w1 : (Lit.int .i64 a1).wf = true) (w2 : (Lit.int .i64 a2).wf = true) :
    Calls Tryd.prog 5 #[.int .i64 a0, .int .i64 a1, .int .i64 a2] w fun e w' => e = .returned (.bool true) ∧ Below w.heap.size w w' := by
  obtain ⟨p0, q0⟩ := wf_i64 w0
  obtain ⟨p1, q1⟩ := wf_i64 w1
  obtain ⟨p2, q2⟩ := wf_i64 w2
  have hb := hide (Below.refl w.heap.size w)
  have HT := hide hT
  clear hT w0 w1 w2
  by_cases hv : Vd a0 a1 a2
  case neg =>
    have hv := hide hv
    go_enter Tryd.func5, Tryd.ntmps5
    go_wp2_with fail
    refine (awake _ HT.out).mono ?_
    rintro e w1 ⟨rfl, h1⟩
    replace HT := hide (HT.out.below h1)
    replace hb := hide (bel_next hb.out h1)
    clear h1
    go_wp2_with fail
    refine (r4_.Valid_no _ _ _ _ hv.out).mono ?_
    rintro e w2 ⟨rfl, rfl⟩
    go_wp2_with fail
    refine (awake _ HT.out).mono ?_
    rintro e w1 ⟨rfl, h1⟩
    replace HT := hide (HT.out.below h1)
    replace hb := hide (bel_next hb.out h1)
    clear h1
    go_wp2
    go_ret
    exact ⟨rfl, hb.out⟩
  by_cases hy : 1099511627776 ≤ a0
  · have hv := hide hv
    go_enter Tryd.func5, Tryd.ntmps5
    go_wp2_with fail
    refine (awake _ HT.out).mono ?_
    rintro e w1 ⟨rfl, h1⟩
    replace HT := hide (HT.out.below h1)
    replace hb := hide (bel_next hb.out h1)
    clear h1
    go_wp2_with fail
    refine (r4_.Valid_yes _ _ _ _ hv.out).mono ?_
    rintro e w2 ⟨rfl, rfl⟩
    go_wp2_with fail
    refine (awake _ HT.out).mono ?_
    rintro e w1 ⟨rfl, h1⟩
    replace HT := hide (HT.out.below h1)
    replace hb := hide (bel_next hb.out h1)
    clear h1
    go_wp2
    go_ret
    exact ⟨rfl, hb.out⟩
  obtain ⟨v0, v1⟩ := vd_b hv
  obtain ⟨v2, v3, v4, v5⟩ := vd_c hv
  have hd := IsDate.of hv.2.2
  have hn1 := hide hv.day.1
  have hvj := vd_jan (a0 + 1) (by omega) (by omega)
  have hmd := mdays_bd a0 a1
  have hnn : days a0 a1 a2 + 1 ≤ hiDay := by
    have h1 := hd.year.2
    have h2 := ystart_mono (show a0 + 1 ≤ 1099511627776 by omega)
    have h3 := ystart_succ 1099511627776
    have h4 := ylen_bd 1099511627776
    unfold hiDay
    rw [show (1099511627777 : Int) = 1099511627776 + 1 by rfl]
    omega
  have lo1 := lo_bd2
  have hi1 := hi_bd2
  have hl0 := hn1.out
  have hcase : ∃ Y M D : Int, Hid (IsDate (days a0 a1 a2 + 1) Y M D) ∧ ((a2 + 1 ≤ mdays a0 a1 ∧ Y = a0 ∧ M = a1 ∧ D = a2 + 1) ∨ (mdays a0 a1 < a2 + 1 ∧ a1 + 1 ≤ 12 ∧ Y = a0 ∧ M = a1 + 1 ∧ D = 1) ∨ (mdays a0 a1 < a2 + 1 ∧ 12 < a1 + 1 ∧ Y = a0 + 1 ∧ M = 1 ∧ D = 1)) := by
    by_cases c1 : a2 + 1 ≤ mdays a0 a1
    · exact ⟨_, _, _, hide (hd.nextDay c1), .inl ⟨c1, rfl, rfl, rfl⟩⟩
    · by_cases c2 : a1 + 1 ≤ 12
      · exact ⟨_, _, _, hide (hd.nextMonth (by omega) c2), .inr (.inl ⟨by omega, c2, rfl, rfl, rfl⟩)⟩
      · exact ⟨_, _, _, hide (hd.nextYear (by omega) (by omega)), .inr (.inr ⟨by omega, by omega, rfl, rfl, rfl⟩)⟩
  obtain ⟨Y, M, D, hdd, hc⟩ := hcase
  replace hv := hide hv
  obtain ⟨n, hn⟩ : ∃ n, Hid (n = days a0 a1 a2) := ⟨_, rfl⟩
  rw [← hn.out] at hnn hdd hl0
  clear hd hvj hn1
  obtain ⟨k, hk⟩ : ∃ k, Hid (k = mdays a0 a1) := ⟨_, rfl⟩
  rw [← hk.out] at hc hmd
  have hm0 : 0 ≤ (n + 4) % 7 := by omega
  obtain ⟨hmd, hmd'⟩ := hmd
  rcases hc with ⟨c1, rfl, rfl, rfl⟩ | ⟨c1, c2, rfl, rfl, rfl⟩ | ⟨c1, c2, rfl, rfl, rfl⟩
  all_goals
    go_enter Tryd.func5, Tryd.ntmps5
    go_wp2_with fail
    refine (awake _ HT.out).mono ?_
    rintro e w1 ⟨rfl, h1⟩
    replace HT := hide (HT.out.below h1)
    replace hb := hide (bel_next hb.out h1)
    clear h1
    go_wp2_with fail
    refine (r4_.Valid_yes _ _ _ _ hv.out).mono ?_
    rintro e w2 ⟨rfl, rfl⟩
    go_wp2_with fail
    refine (cv_.Days_is n HT.out hv.out hn.out.symm).mono ?_
    rintro e w1 ⟨rfl, h1⟩
    replace HT := hide (HT.out.below h1)
    replace hb := hide (bel_next hb.out h1)
    clear h1
    go_wp2_with fail
    refine (cv_.Date _ _ _ _ _ HT.out (by omega) hnn hdd.out).mono ?_
    rintro e w1 ⟨rfl, h1⟩
    replace HT := hide (HT.out.below h1)
    replace hb := hide (bel_next hb.out h1)
    clear h1
    go_wp2_with fail
    refine (cv_.MonthDays_is k HT.out v0 v1 v2 v3 hk.out.symm).mono ?_
    rintro e w1 ⟨rfl, h1⟩
    replace HT := hide (HT.out.below h1)
    replace hb := hide (bel_next hb.out h1)
    clear h1
    go_wp2_with fail
    refine (cv_.Weekday _ _ HT.out (by omega) hnn).mono ?_
    rintro e w1 ⟨rfl, h1⟩
    replace HT := hide (HT.out.below h1)
    replace hb := hide (bel_next hb.out h1)
    clear h1
    go_wp2_with fail
    refine (cv_.Weekday _ _ HT.out hl0 (by omega)).mono ?_
    rintro e w1 ⟨rfl, h1⟩
    replace HT := hide (HT.out.below h1)
    replace hb := hide (bel_next hb.out h1)
    clear h1
    go_wp2
    go_ret
    exact ⟨retb (by simp <;> omega), hb.out⟩
end l4_
end Go.Proofs.YtinfbppbnjjdhaaDoor
