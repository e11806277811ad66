/-
  THE WALKS OF THE LAWS OF LAYER 4 (zoneinfolaw04): CivilMonotone. No conditions beyond the table's.
-/
import Derived.Test.YtinfbppbnjjdhaaDoorLaw4
namespace Go.Proofs.YtinfbppbnjjdhaaDoor
open Go.ChangeShapes Go.WideShapes Go.ChangeAt Go.RowKit
set_option linter.unusedVariables false
theorem yday_lt {y m d p q : Int} (h : DateOk y m d) (h' : DateOk y p q) (hm : m < p) : yday y m d < yday y p q := by
  obtain ⟨h1, h2, h3, h4⟩ := h
  obtain ⟨h5, h6, h7, h8⟩ := h'
  have hc := cum_mono y (show (m - 1).toNat + 1 ≤ (p - 1).toNat by omega)
  have e : (((m - 1).toNat : Nat) : Int) + 1 = m := by omega
  simp only [cum, e] at hc
  unfold yday
  omega
namespace l4_
set_option maxRecDepth 100000 in
set_option maxHeartbeats 4000000 in
theorem monotone (a0 a1 a2 a3 a4 : Int) (w : World) (hT : Tb w) (w0 : (Lit.int .i64 a0).wf = true) (w1 : (Lit.int .i64 a1).wf = true) (w2 : (Lit.int .i64 a2).wf = true) (w3 : (Lit.int .i64 a3).wf = true) (w4 : (Lit.int .i64 a4).wf = true) :
    Calls Tryd.prog 7 #[.int .i64 a0, .int .i64 a1, .int .i64 a2, .int .i64 a3, .int .i64 a4] w fun e w' => e = .returned (.bool true) ∧ Below w.heap.size w w' := by
  obtain ⟨p0, q0⟩ := wf_i64 w0
  obtain ⟨p1, q1⟩ := wf_i64 w1
  obtain ⟨p2, q2⟩ := wf_i64 w2
  obtain ⟨p3, q3⟩ := wf_i64 w3
  obtain ⟨p4, q4⟩ := wf_i64 w4
  have hb := hide (Below.refl w.heap.size w)
  have HT := hide hT
  clear hT w0 w1 w2 w3 w4
  by_cases hv : Vd a0 a1 a2
  case neg =>
    replace hv := hide hv
    go_enter Tryd.func7, Tryd.ntmps7
    go_wp2_with fail
    refine (awake _ HT.out).mono ?_
    rintro e w1 ⟨rfl, h1⟩
    replace HT := hide (HT.out.below h1)
    replace hb := hide (bel_next hb.out h1)
    clear h1
    go_wp2_with fail
    refine (r4_.Valid_no _ _ _ _ hv.out).mono ?_
    rintro e w2 ⟨rfl, rfl⟩
    go_wp2_with fail
    refine (awake _ HT.out).mono ?_
    rintro e w1 ⟨rfl, h1⟩
    replace HT := hide (HT.out.below h1)
    replace hb := hide (bel_next hb.out h1)
    clear h1
    go_wp2
    go_ret
    exact ⟨rfl, hb.out⟩
  by_cases hu : Vd a0 a3 a4
  case neg =>
    replace hv := hide hv
    replace hu := hide hu
    go_enter Tryd.func7, Tryd.ntmps7
    go_wp2_with fail
    refine (awake _ HT.out).mono ?_
    rintro e w1 ⟨rfl, h1⟩
    replace HT := hide (HT.out.below h1)
    replace hb := hide (bel_next hb.out h1)
    clear h1
    go_wp2_with fail
    refine (r4_.Valid_yes _ _ _ _ hv.out).mono ?_
    rintro e w2 ⟨rfl, rfl⟩
    go_wp2_with fail
    refine (r4_.Valid_no _ _ _ _ hu.out).mono ?_
    rintro e w2 ⟨rfl, rfl⟩
    go_wp2_with fail
    refine (awake _ HT.out).mono ?_
    rintro e w1 ⟨rfl, h1⟩
    replace HT := hide (HT.out.below h1)
    replace hb := hide (bel_next hb.out h1)
    clear h1
    go_wp2
    go_ret
    exact ⟨rfl, hb.out⟩
  by_cases hy : 1099511627776 ≤ a0
  · replace hv := hide hv
    replace hu := hide hu
    go_enter Tryd.func7, Tryd.ntmps7
    go_wp2_with fail
    refine (awake _ HT.out).mono ?_
    rintro e w1 ⟨rfl, h1⟩
    replace HT := hide (HT.out.below h1)
    replace hb := hide (bel_next hb.out h1)
    clear h1
    go_wp2_with fail
    refine (r4_.Valid_yes _ _ _ _ hv.out).mono ?_
    rintro e w2 ⟨rfl, rfl⟩
    go_wp2_with fail
    refine (r4_.Valid_yes _ _ _ _ hu.out).mono ?_
    rintro e w2 ⟨rfl, rfl⟩
    go_wp2_with fail
    refine (awake _ HT.out).mono ?_
    rintro e w1 ⟨rfl, h1⟩
    replace HT := hide (HT.out.below h1)
    replace hb := hide (bel_next hb.out h1)
    clear h1
    go_wp2
    go_ret
    exact ⟨rfl, hb.out⟩
  obtain ⟨v0, v1⟩ := vd_b hv
  obtain ⟨v2, v3, v4, v5⟩ := vd_c hv
  obtain ⟨u2, u3, u4, u5⟩ := vd_c hu
  have V1 := hide (vd_jan (a0 + 1) (by omega) (by omega))
  have hyd := yday_bd hv.2.2
  have hyu := yday_bd hu.2.2
  have hys := ystart_succ a0
  have hyl := ylen_bd a0
  have hlt1 := fun h => yday_lt hv.2.2 hu.2.2 h
  have hlt2 := fun h => yday_lt hu.2.2 hv.2.2 h
  have heq : a1 = a3 → yday a0 a3 a4 - yday a0 a1 a2 = a4 - a2 := by
    rintro rfl
    unfold yday
    omega
  have d1 : days a0 a1 a2 = ystart a0 + yday a0 a1 a2 := rfl
  have d2 : days a0 a3 a4 = ystart a0 + yday a0 a3 a4 := rfl
  have d3 : days (a0 + 1) 1 1 = ystart a0 + ylen a0 := by rw [days_first, hys]
  have hsb : -1000000000000000 ≤ ystart a0 ∧ ystart a0 ≤ 1000000000000000 := by
    have h1 := ystart_mono v0
    have h2 := ystart_mono v1
    have h3 := lo_bd2
    have h4 := hi_bd2
    have h5 := ystart_succ 1099511627776
    have h6 := ylen_bd 1099511627776
    unfold loDay at h3
    unfold hiDay at h4
    rw [show (1099511627777 : Int) = 1099511627776 + 1 by rfl] at h4
    omega
  replace hv := hide hv
  replace hu := hide hu
  obtain ⟨s, hs⟩ : ∃ s, Hid (ystart a0 = s) := ⟨_, rfl⟩
  obtain ⟨x, hx⟩ : ∃ x, Hid (yday a0 a1 a2 = x) := ⟨_, rfl⟩
  obtain ⟨z, hz⟩ : ∃ z, Hid (yday a0 a3 a4 = z) := ⟨_, rfl⟩
  obtain ⟨len, hlen⟩ : ∃ len, Hid (ylen a0 = len) := ⟨_, rfl⟩
  rw [hx.out, hz.out] at hlt1 hlt2 heq
  rw [hx.out, hlen.out] at hyd
  rw [hz.out, hlen.out] at hyu
  rw [hlen.out] at hyl
  rw [hs.out] at hsb
  rw [hs.out, hx.out] at d1
  rw [hs.out, hz.out] at d2
  rw [hs.out, hlen.out] at d3
  replace d1 := hide d1
  replace d2 := hide d2
  replace d3 := hide d3
  clear hys
  obtain ⟨hyd, hyd'⟩ := hyd
  obtain ⟨hyu, hyu'⟩ := hyu
  obtain ⟨hyl, hyl'⟩ := hyl
  obtain ⟨hsb, hsb'⟩ := hsb
  have hc : (a1 < a3 ∧ x < z) ∨ (a3 < a1 ∧ z < x) ∨ (a1 = a3 ∧ a2 < a4 ∧ x < z) ∨ (a1 = a3 ∧ a4 ≤ a2 ∧ z ≤ x) := by
    rcases Int.lt_trichotomy a1 a3 with h | h | h
    · exact .inl ⟨h, hlt1 h⟩
    · have := heq h
      by_cases h2 : a2 < a4
      · exact .inr (.inr (.inl ⟨h, h2, by omega⟩))
      · exact .inr (.inr (.inr ⟨h, by omega, by omega⟩))
    · exact .inr (.inl ⟨h, hlt2 h⟩)
  clear hlt1 hlt2 heq
  rcases hc with ⟨c1, c2⟩ | ⟨c1, c2⟩ | ⟨rfl, c1, c2⟩ | ⟨rfl, c1, c2⟩
  all_goals
    go_enter Tryd.func7, Tryd.ntmps7
    go_wp2_with fail
    refine (awake _ HT.out).mono ?_
    rintro e w1 ⟨rfl, h1⟩
    replace HT := hide (HT.out.below h1)
    replace hb := hide (bel_next hb.out h1)
    clear h1
    go_wp2_with fail
    refine (r4_.Valid_yes _ _ _ _ hv.out).mono ?_
    rintro e w2 ⟨rfl, rfl⟩
    go_wp2_with fail
    refine (r4_.Valid_yes _ _ _ _ hu.out).mono ?_
    rintro e w2 ⟨rfl, rfl⟩
    go_wp2_with fail
    refine (cv_.Days_is (s + x) HT.out hv.out d1.out).mono ?_
    rintro e w1 ⟨rfl, h1⟩
    replace HT := hide (HT.out.below h1)
    replace hb := hide (bel_next hb.out h1)
    clear h1
    go_wp2_with fail
    refine (cv_.Days_is (s + z) HT.out hu.out d2.out).mono ?_
    rintro e w1 ⟨rfl, h1⟩
    replace HT := hide (HT.out.below h1)
    replace hb := hide (bel_next hb.out h1)
    clear h1
    go_wp2_with fail
    refine (cv_.YearDay_is z HT.out hu.out hz.out).mono ?_
    rintro e w1 ⟨rfl, h1⟩
    replace HT := hide (HT.out.below h1)
    replace hb := hide (bel_next hb.out h1)
    clear h1
    go_wp2_with fail
    refine (cv_.YearDay_is x HT.out hv.out hx.out).mono ?_
    rintro e w1 ⟨rfl, h1⟩
    replace HT := hide (HT.out.below h1)
    replace hb := hide (bel_next hb.out h1)
    clear h1
    go_wp2_with fail
    refine (cv_.Days_is (s + len) HT.out V1.out d3.out).mono ?_
    rintro e w1 ⟨rfl, h1⟩
    replace HT := hide (HT.out.below h1)
    replace hb := hide (bel_next hb.out h1)
    clear h1
    go_wp2
    go_ret
    exact ⟨retb (by simp <;> omega), hb.out⟩
end l4_
end Go.Proofs.YtinfbppbnjjdhaaDoor
