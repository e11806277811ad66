/-
  THE WALKS OF THE LAWS OF LAYER 4 (zoneinfolaw04): CivilCycles. No conditions beyond the table's.
-/
import Derived.Test.YtinfbppbnjjdhaaDoorLaw4
namespace Go.Proofs.YtinfbppbnjjdhaaDoor
open Go.ChangeShapes Go.WideShapes Go.ChangeAt Go.RowKit
set_option linter.unusedVariables false
namespace l4_
set_option maxRecDepth 100000 in
set_option maxHeartbeats 4000000 in
theorem cycles (a0 a1 a2 : Int) (w : World) (hT : Tb w) (w0 : (Lit.int .i64 a0).wf = true) (w1 : (Lit.int .i64 a1).wf = true) (w2 : (Lit.int .i64 a2).wf = true) :
    Calls Tryd.prog 6 #[.int .i64 a0, .int .i64 a1, .int .i64 a2] w fun e w' => e = .returned (.bool true) ∧ Below w.heap.size w w' := by
  obtain ⟨p0, q0⟩ := wf_i64 w0
  obtain ⟨p1, q1⟩ := wf_i64 w1
  obtain ⟨p2, q2⟩ := wf_i64 w2
  have hb := hide (Below.refl w.heap.size w)
  have HT := hide hT
  clear hT w0 w1 w2
  by_cases hv : Vd a0 a1 a2
  case neg =>
    replace hv := hide hv
    go_enter Tryd.func6, Tryd.ntmps6
    go_wp2_with fail
    refine (awake _ HT.out).mono ?_
    rintro e w1 ⟨rfl, h1⟩
    replace HT := hide (HT.out.below h1)
    replace hb := hide (bel_next hb.out h1)
    clear h1
    go_wp2_with fail
    refine (r4_.Valid_no _ _ _ _ hv.out).mono ?_
    rintro e w2 ⟨rfl, rfl⟩
    go_wp2_with fail
    refine (awake _ HT.out).mono ?_
    rintro e w1 ⟨rfl, h1⟩
    replace HT := hide (HT.out.below h1)
    replace hb := hide (bel_next hb.out h1)
    clear h1
    go_wp2
    go_ret
    exact ⟨rfl, hb.out⟩
  by_cases hy : 1099511627376 ≤ a0
  · replace hv := hide hv
    go_enter Tryd.func6, Tryd.ntmps6
    go_wp2_with fail
    refine (awake _ HT.out).mono ?_
    rintro e w1 ⟨rfl, h1⟩
    replace HT := hide (HT.out.below h1)
    replace hb := hide (bel_next hb.out h1)
    clear h1
    go_wp2_with fail
    refine (r4_.Valid_yes _ _ _ _ hv.out).mono ?_
    rintro e w2 ⟨rfl, rfl⟩
    go_wp2_with fail
    refine (awake _ HT.out).mono ?_
    rintro e w1 ⟨rfl, h1⟩
    replace HT := hide (HT.out.below h1)
    replace hb := hide (bel_next hb.out h1)
    clear h1
    go_wp2
    go_ret
    exact ⟨rfl, hb.out⟩
  obtain ⟨v0, v1⟩ := vd_b hv
  obtain ⟨v2, v3, v4, v5⟩ := vd_c hv
  have V1 := hide (vd_jan (a0 + 1) (by omega) (by omega))
  have V0 := hide (vd_jan a0 (by omega) (by omega))
  have hv4 : Vd (a0 + 400) a1 a2 := by
    obtain ⟨_, _, h3, h4, h5, h6⟩ := hv
    refine ⟨by omega, by omega, h3, h4, h5, ?_⟩
    have := mdays_per a0 1 a1
    rw [show a0 + 400 = a0 + 400 * 1 by omega, this]
    exact h6
  have Vp := hide (days_per a0 a1 a2)
  have hd4 := hv4.day
  rw [Vp.out] at hd4
  have hd0 := hv.day
  have hyd := yday_bd hv.2.2
  have hys := ystart_succ a0
  have hyl := ylen_bd a0
  have V4 := hide hv4
  replace hv := hide hv
  have lo1 := lo_bd2
  have hi1 := hi_bd2
  have hlp : (leap a0 = true ↔ ylen a0 = 366) := by unfold ylen; cases leap a0 <;> simp
  obtain ⟨n, hn⟩ : ∃ n, Hid (days a0 a1 a2 = n) := ⟨_, rfl⟩
  obtain ⟨s, hs⟩ : ∃ s, Hid (days a0 1 1 = s) := ⟨_, rfl⟩
  obtain ⟨yd, hyd0⟩ : ∃ yd, Hid (yday a0 a1 a2 = yd) := ⟨_, rfl⟩
  obtain ⟨len, hlen⟩ : ∃ len, Hid (ylen a0 = len) := ⟨_, rfl⟩
  have hs1 := hide (show days (a0 + 1) 1 1 = s + len by rw [days_first, hys, ← hs.out, ← hlen.out, days_first])
  have hyn : yd = n - s := by
    rw [← hn.out, ← hs.out, ← hyd0.out, days_first]
    unfold days
    omega
  have Vn := hide (show days (a0 + 400) a1 a2 = n + 146097 by rw [Vp.out, hn.out])
  have hsl : loDay ≤ s ∧ s + len - 1 ≤ hiDay := by
    have h1 := V0.out.day
    have h2 := V1.out.day
    rw [hs.out] at h1
    rw [hs1.out] at h2
    omega
  rw [hn.out] at hd0 hd4
  rw [hyd0.out, hlen.out] at hyd
  rw [hlen.out] at hyl hlp
  clear hys hv4
  have M := hide (fun (k : Int) (w : World) (hT : Tb w) (h2 : 1 ≤ k) (h3 : k ≤ 12) => cv_.MonthDays a0 k w hT v0 v1 h2 h3)
  have hc12 := hide (show cum a0 12 = len by rw [cum12, hlen.out])
  obtain ⟨hd0, hd0'⟩ := hd0
  obtain ⟨hd4, hd4'⟩ := hd4
  obtain ⟨hyd, hyd'⟩ := hyd
  obtain ⟨hyl, hyl'⟩ := hyl
  obtain ⟨hsl, hsl'⟩ := hsl
  have hlv : (len = 366 ∧ leap a0 = true) ∨ (len = 365 ∧ leap a0 = false) := by
    rcases hb : leap a0
    · rw [hb] at hlp
      simp at hlp
      exact .inr ⟨by omega, rfl⟩
    · rw [hb] at hlp
      simp at hlp
      exact .inl ⟨hlp, rfl⟩
  clear hlp
  have Hlv := hide hlv
  clear hlv
  go_enter Tryd.func6, Tryd.ntmps6
  go_wp2_with fail
  refine (awake _ HT.out).mono ?_
  rintro e w1 ⟨rfl, h1⟩
  replace HT := hide (HT.out.below h1)
  replace hb := hide (bel_next hb.out h1)
  clear h1
  go_wp2_with fail
  refine (r4_.Valid_yes _ _ _ _ hv.out).mono ?_
  rintro e w2 ⟨rfl, rfl⟩
  go_wp2_with fail
  refine (cv_.Days_is n HT.out hv.out hn.out).mono ?_
  rintro e w1 ⟨rfl, h1⟩
  replace HT := hide (HT.out.below h1)
  replace hb := hide (bel_next hb.out h1)
  clear h1
  go_wp2_with fail
  refine (cv_.Days_is (s + len) HT.out V1.out hs1.out).mono ?_
  rintro e w1 ⟨rfl, h1⟩
  replace HT := hide (HT.out.below h1)
  replace hb := hide (bel_next hb.out h1)
  clear h1
  go_wp2_with fail
  refine (cv_.Days_is s HT.out V0.out hs.out).mono ?_
  rintro e w1 ⟨rfl, h1⟩
  replace HT := hide (HT.out.below h1)
  replace hb := hide (bel_next hb.out h1)
  clear h1
  go_wp2_with fail
  go_loopw [9, 10] (fun sum k wr => ∃ (j : Nat) (v : Int), j ≤ 12 ∧ k = .int .i64 ((j : Int) + 1) ∧ sum = .int .i64 v ∧ Hid (v = cum a0 j) ∧ Hid (Tb wr) ∧ Hid (Below w.heap.size w wr)) (fun _ k _ => 13 - (intOf k).toNat)
  case atStart => exact ⟨0, 0, by omega, rfl, rfl, hide rfl, HT, hb⟩
  case round =>
    obtain ⟨j, v, hj, rfl, rfl, hv0, HT, hb⟩ := hrel
    by_cases hlt : j < 12
    · have b1 := cum_bd a0 j
      have b2 := mdays_bd a0 ((j : Int) + 1)
      have b3 := hide (show v + mdays a0 ((j : Int) + 1) = cum a0 (j + 1) by rw [hv0.out]; rfl)
      rw [← hv0.out] at b1
      have M1 := hide (fun w hT => M.out ((j : Int) + 1) w hT (by omega) (by omega))
      generalize mdays a0 ((j : Int) + 1) = x at *
      obtain ⟨b1, b1'⟩ := b1
      obtain ⟨b2, b2'⟩ := b2
      go_wp2_with fail
      refine (M1.out _ HT.out).mono ?_
      rintro e w1 ⟨rfl, h1⟩
      replace HT := hide (HT.out.below h1)
      replace hb := hide (bel_next hb.out h1)
      clear h1
      go_wp2
      go_roundw
      case rel => exact ⟨j + 1, _, by omega, by go_num, rfl, b3, HT, hb⟩
      case measure => simp [intOf]; omega
    · obtain rfl : j = 12 := by omega
      have hvl : v = len := by rw [hv0.out, hc12.out]
      subst hvl
      have hsub : s + v - s = v := by omega
      have hw7 : (n + 146097 + 4) % 7 = (n + 4) % 7 := by omega
      have Hw7 := hide hw7
      clear hw7
      have L := hide (fun (b : Bool) (hb : leap a0 = b) (w : World) (hT : Tb w) => cv_.IsLeap_is b hT v0 v1 hb)
      rcases Hlv.out with ⟨hl, hb2⟩ | ⟨hl, hb2⟩
      all_goals
        replace L := hide (L.out _ hb2)
        clear hb2
        subst hl
        go_wp2_with fail
        refine (cv_.Days_is (n + 146097) HT.out V4.out Vn.out).mono ?_
        rintro e w1 ⟨rfl, h1⟩
        replace HT := hide (HT.out.below h1)
        replace hb := hide (bel_next hb.out h1)
        clear h1
        go_wp2_with fail
        refine (cv_.Weekday_is ((n + 4) % 7) HT.out (by omega) (by omega) Hw7.out).mono ?_
        rintro e w1 ⟨rfl, h1⟩
        replace HT := hide (HT.out.below h1)
        replace hb := hide (bel_next hb.out h1)
        clear h1
        go_wp2_with fail
        refine (cv_.Weekday _ _ HT.out hd0 (by omega)).mono ?_
        rintro e w1 ⟨rfl, h1⟩
        replace HT := hide (HT.out.below h1)
        replace hb := hide (bel_next hb.out h1)
        clear h1
        go_wp2_with fail
        refine (L.out _ HT.out).mono ?_
        rintro e w1 ⟨rfl, h1⟩
        replace HT := hide (HT.out.below h1)
        replace hb := hide (bel_next hb.out h1)
        clear h1
        go_wp2_with fail
        refine (L.out _ HT.out).mono ?_
        rintro e w1 ⟨rfl, h1⟩
        replace HT := hide (HT.out.below h1)
        replace hb := hide (bel_next hb.out h1)
        clear h1
        go_wp2_with fail
        refine (cv_.YearDay_is yd HT.out hv.out hyd0.out).mono ?_
        rintro e w1 ⟨rfl, h1⟩
        replace HT := hide (HT.out.below h1)
        replace hb := hide (bel_next hb.out h1)
        clear h1
        go_wp2_with fail
        refine (cv_.Days_is s HT.out V0.out hs.out).mono ?_
        rintro e w1 ⟨rfl, h1⟩
        replace HT := hide (HT.out.below h1)
        replace hb := hide (bel_next hb.out h1)
        clear h1
        go_wp2_with fail
        refine (cv_.YearDay_is yd HT.out hv.out hyd0.out).mono ?_
        rintro e w1 ⟨rfl, h1⟩
        replace HT := hide (HT.out.below h1)
        replace hb := hide (bel_next hb.out h1)
        clear h1
        go_wp2
        go_ret
        exact ⟨retb (by simp <;> omega), hb.out⟩
end l4_
end Go.Proofs.YtinfbppbnjjdhaaDoor
