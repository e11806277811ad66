/-
  CONTRACTS OF PACKAGE hms, of the code that landed at bbb9e53. Conditions: a string of at most 1,000,000 bytes; for Format a duration in range, and the table of powers of ten that strconv reads.
-/
import Derived.Test.YtjeclakdgmjbjaaGreatDoorTabP
import Derived.Test.YtjeclakdgmjbjaaGreatDoorHn
import Derived.Test.YtjeclakdgmjbjaaGreatDoorRng
import Derived.Deep.RegionHeld3
namespace Go.Proofs.YtjeclakdgmjbjaaGreatDoor
open Go.ChangeShapes Go.WideShapes Go.ChangeAt Go.RowKit
set_option linter.unusedVariables false
theorem hh_d2 {v : Int} (h0 : 0 ≤ v) (h1 : v ≤ 59) : (v < 10 → d2 v = 48 :: hh v) ∧ (10 ≤ v → d2 v = hh v) := by
  constructor
  · intro h
    unfold d2 hh
    rw [if_neg (by omega), if_neg (by omega), show v / 10 = 0 by omega]
    rfl
  · intro h
    unfold d2 hh
    rw [if_neg (by omega), if_pos h, show v / 10 % 10 = v / 10 by omega]
    rfl
theorem hh_len {v : Int} (h0 : 0 ≤ v) (h1 : v ≤ 167) : (hh v).length ≤ 3 := (hh_val h0 h1).2.2.1
namespace hm_
theorem formatField (v : Int) (w : World) (hT : Tp w) (h0 : 0 ≤ v) (h1 : v ≤ 59) : Calls Tryz.prog 68 #[.int .i64 v] w fun e w' => e = .returned (.string (mkS (58 :: d2 v))) ∧ Below w.heap.size w w' := by
  have I := hide (fun w hT => Itoa_ v w hT h0 (by omega))
  obtain ⟨X, hX⟩ : ∃ X, X = mkS (hh v) := ⟨_, rfl⟩
  have bX := hide (show byt X = hh v by rw [hX, byt_mk])
  have sX : X.size ≤ 3 := by rw [← len_byt, bX.out]; exact hh_len h0 (by omega)
  rw [← hX] at I
  clear hX
  have D := hide (hh_d2 h0 h1)
  by_cases hv : v < 10
  · go_enter Tryz.func68, Tryz.ntmps68
    go_wp2_with fail
    refine (I.out _ hT).mono ?_
    rintro e w1 ⟨rfl, hb⟩
    go_wp2
    go_ret
    exact ⟨retS2 (by rw [← byt_inj, byt_append, bX.out, byt_mk, D.out.1 hv]; rfl), hb⟩
  · go_enter Tryz.func68, Tryz.ntmps68
    go_wp2_with fail
    refine (I.out _ hT).mono ?_
    rintro e w1 ⟨rfl, hb⟩
    go_wp2
    go_ret
    exact ⟨retS2 (by rw [← byt_inj, byt_append, bX.out, byt_mk, D.out.2 (by omega)]; rfl), hb⟩
set_option maxHeartbeats 2000000 in
theorem Format (x : Int) (w : World) (hT : Tp w) (h0 : -604800 < x) (h1 : x < 604800) : Calls Tryz.prog 44 #[.int .i64 x] w fun e w' => e = .returned (.string (mkS (hmsFmt x))) ∧ Below w.heap.size w w' := by
  have HT := hide hT
  clear hT
  obtain ⟨r, hr⟩ : ∃ r, r = hmsFmt x := ⟨_, rfl⟩
  rw [← hr]
  obtain ⟨neg, y, hneg⟩ : ∃ (neg : Bool) (y : Int), (neg = true ∧ x = -y ∧ 0 < y) ∨ (neg = false ∧ x = y ∧ 0 ≤ y) := by
    by_cases h : x < 0
    · exact ⟨true, -x, .inl ⟨rfl, by omega, by omega⟩⟩
    · exact ⟨false, x, .inr ⟨rfl, rfl, by omega⟩⟩
  have y0 : 0 ≤ y := by omega
  have y1 : y < 604800 := by omega
  have hr2 : r = (if neg then [45] else []) ++ hmsAbs y := by
    rcases hneg with ⟨rfl, rfl, hy⟩ | ⟨rfl, rfl, hy⟩
    · rw [hr]; unfold hmsFmt; rw [if_pos (by omega), Int.neg_neg]; rfl
    · rw [hr]; unfold hmsFmt; rw [if_neg (by omega)]; rfl
  clear hr
  obtain ⟨H, hH⟩ : ∃ H, H = y / 3600 := ⟨_, rfl⟩
  obtain ⟨Q, hQ⟩ : ∃ Q, Q = y / 60 := ⟨_, rfl⟩
  obtain ⟨M, hM⟩ : ∃ M, M = Q % 60 := ⟨_, rfl⟩
  obtain ⟨C, hC⟩ : ∃ C, C = y % 60 := ⟨_, rfl⟩
  have eH : y.tdiv 3600 = H := by rw [Int.tdiv_eq_ediv_of_nonneg y0, hH]
  have eQ : y.tdiv 60 = Q := by rw [Int.tdiv_eq_ediv_of_nonneg y0, hQ]
  have eM : Q.tmod 60 = M := by rw [Int.tmod_eq_emod_of_nonneg (by omega), hM]
  have eC : y.tmod 60 = C := by rw [Int.tmod_eq_emod_of_nonneg y0, hC]
  have H0 : 0 ≤ H := by omega
  have H1 : H ≤ 167 := by omega
  have M0 : 0 ≤ M := by omega
  have M1 : M ≤ 59 := by omega
  have C0 : 0 ≤ C := by omega
  have C1 : C ≤ 59 := by omega
  have Q0 : 0 ≤ Q := by omega
  have Q1 : Q ≤ 10080 := by omega
  have hr3 : r = (if neg then [45] else []) ++ (hh H ++ ((if M = 0 ∧ C = 0 then [] else 58 :: d2 M) ++ (if C = 0 then [] else 58 :: d2 C))) := by
    rw [hr2]
    unfold hmsAbs
    rw [hH, ← hQ, ← hM, ← hC]
    congr 3
    · by_cases h : M = 0 ∧ C = 0
      · rw [if_pos h, if_neg (by omega)]
      · rw [if_neg h, if_pos (by omega)]
    · by_cases h : C = 0
      · rw [if_pos h, if_neg (by omega)]
      · rw [if_neg h, if_pos (by omega)]
  clear hr2 hH hQ hM hC
  have I := hide (fun w hT => Itoa_ H w hT H0 H1)
  have FM := hide (fun w hT => formatField M w hT M0 M1)
  have FC := hide (fun w hT => formatField C w hT C0 C1)
  obtain ⟨X, hX⟩ : ∃ X, X = mkS (hh H) := ⟨_, rfl⟩
  obtain ⟨Y, hY⟩ : ∃ Y, Y = mkS (58 :: d2 M) := ⟨_, rfl⟩
  obtain ⟨Z, hZ⟩ : ∃ Z, Z = mkS (58 :: d2 C) := ⟨_, rfl⟩
  rw [← hX] at I
  rw [← hY] at FM
  rw [← hZ] at FC
  have bX := hide (show byt X = hh H by rw [hX, byt_mk])
  have bY := hide (show byt Y = 58 :: d2 M by rw [hY, byt_mk])
  have bZ := hide (show byt Z = 58 :: d2 C by rw [hZ, byt_mk])
  have sX := sz_byt bX (hh_len H0 H1)
  have sY : Y.size ≤ 3 := sz_byt bY (Nat.le_refl _)
  have sZ : Z.size ≤ 3 := sz_byt bZ (Nat.le_refl _)
  have hb := hide (Below.refl w.heap.size w)
  replace hr3 := hide hr3
  clear hX hY hZ
  rcases hneg with ⟨rfl, rfl, hy⟩ | ⟨rfl, rfl, hy⟩
  all_goals
    rcases (show (M = 0 ∧ C = 0) ∨ ((M != 0) = true ∧ C = 0) ∨ (M = 0 ∧ (C != 0) = true) ∨ ((M != 0) = true ∧ (C != 0) = true) by by_cases a : M = 0 <;> by_cases b : C = 0 <;> simp [a, b]) with ⟨rfl, rfl⟩ | ⟨m0, rfl⟩ | ⟨rfl, c0⟩ | ⟨m0, c0⟩
    all_goals
      go_enter Tryz.func44, Tryz.ntmps44
      go_wp2_with (first
        | (go_at_call 67; with_reducible refine (I.out _ (HT.out.below hb.out)).mono ?_; rintro e w1 ⟨rfl, h1⟩; replace hb := hide (bel_next hb.out h1); clear h1)
        | (go_at_call 68; with_reducible refine (FM.out _ (HT.out.below hb.out)).mono ?_; rintro e w1 ⟨rfl, h1⟩; replace hb := hide (bel_next hb.out h1); clear h1)
        | (go_at_call 68; with_reducible refine (FC.out _ (HT.out.below hb.out)).mono ?_; rintro e w1 ⟨rfl, h1⟩; replace hb := hide (bel_next hb.out h1); clear h1))
      go_ret
      refine ⟨retS2 ?_, hb.out⟩
      rw [← byt_inj, byt_mk, hr3.out]
      simp only [byt_append, bX.out, bY.out, bZ.out]
      try rfl
      all_goals (try simp_all [byt1])
end hm_
end Go.Proofs.YtjeclakdgmjbjaaGreatDoor
