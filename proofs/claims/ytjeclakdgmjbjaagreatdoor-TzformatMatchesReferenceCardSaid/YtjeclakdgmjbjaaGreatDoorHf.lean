/-
  PLAIN MATHEMATICS of formatted durations (layer 8), and CONTRACTS OF zoneinforef08's Format and InRange.
-/
import Derived.Test.YtjeclakdgmjbjaaGreatDoorHm
namespace Go.Proofs.YtjeclakdgmjbjaaGreatDoor
open Go.ChangeShapes Go.WideShapes Go.ChangeAt Go.RowKit
set_option linter.unusedVariables false
set_option maxRecDepth 100000
/-- the digit of a number. -/
def dg (x : Int) : UInt8 := UInt8.ofNat (48 + x).toNat
def d2 (x : Int) : List UInt8 := [dg (x / 10), dg (x % 10)]
/-- hours, at most three digits. -/
def hh (h : Int) : List UInt8 := (if 100 ≤ h then [49] else []) ++ ((if 10 ≤ h then [dg (h / 10 % 10)] else []) ++ [dg (h % 10)])
def hmsAbs (x : Int) : List UInt8 := hh (x / 3600) ++ ((if 0 < x % 3600 then 58 :: d2 (x / 60 % 60) else []) ++ (if 0 < x % 60 then 58 :: d2 (x % 60) else []))
def hmsFmt (x : Int) : List UInt8 := if x < 0 then 45 :: hmsAbs (-x) else hmsAbs x
theorem dg_toNat {x : Int} (h0 : 0 ≤ x) (h1 : x ≤ 9) : ((dg x).toNat : Int) = 48 + x := by
  unfold dg
  simp
  omega
theorem byt1 {c : UInt8} : byt ⟨#[c]⟩ = [c] := rfl
theorem byt0 : byt ⟨#[]⟩ = [] := rfl
theorem byt_dg {x : Int} : byt ⟨#[UInt8.ofNat x.toNat]⟩ = [UInt8.ofNat x.toNat] := rfl
namespace r8_
theorem conv1 (W : World) (g : Nat) (c : Int) (c0 : 0 ≤ c) (c1 : c < 256) (h : W.cell? ⟨g, 0, none⟩ = some (.int .u8 c)) : (convert 47 9 (.slice (some ⟨g, 0, none⟩) 1 1)).run Tryz.prog W = .ok (.string ⟨#[UInt8.ofNat c.toNat]⟩) W :=
  run_convert_bytes_back W _ _ 5 ⟨g, 0, none⟩ 1 [UInt8.ofNat c.toNat] Tryz.underlying47 Tryz.underlying5 Tryz.underlying9 (fun j hj => by
    obtain rfl : j = 0 := by simpa using hj
    have : ((UInt8.ofNat c.toNat).toNat : Int) = c := by simp; omega
    simp only [List.getElem_cons_zero, this]
    exact h)
theorem conv2 (W : World) (g : Nat) (c d : Int) (c0 : 0 ≤ c) (c1 : c < 256) (d0 : 0 ≤ d) (d1 : d < 256) (h : W.cell? ⟨g, 0, none⟩ = some (.int .u8 c)) (h' : W.cell? ⟨g, 1, none⟩ = some (.int .u8 d)) :
    (convert 47 9 (.slice (some ⟨g, 0, none⟩) 2 2)).run Tryz.prog W = .ok (.string ⟨#[UInt8.ofNat c.toNat, UInt8.ofNat d.toNat]⟩) W :=
  run_convert_bytes_back W _ _ 5 ⟨g, 0, none⟩ 2 [UInt8.ofNat c.toNat, UInt8.ofNat d.toNat] Tryz.underlying47 Tryz.underlying5 Tryz.underlying9 (fun j hj => by
    have e1 : ((UInt8.ofNat c.toNat).toNat : Int) = c := by simp; omega
    have e2 : ((UInt8.ofNat d.toNat).toNat : Int) = d := by simp; omega
    have hj' : j = 0 ∨ j = 1 := by simp at hj; omega
    rcases hj' with rfl | rfl
    · simp only [List.getElem_cons_zero, e1]; exact h
    · simp only [List.getElem_cons_succ, List.getElem_cons_zero, e2]; exact h')
theorem pair (x : Int) (w : World) (h0 : 0 ≤ x) (h1 : x ≤ 99) : Calls Tryz.prog 45 #[.int .i64 x] w fun e w' => e = .returned (.string (mkS (d2 x))) ∧ Below w.heap.size w w' := by
  obtain ⟨a, ha⟩ : ∃ a, a = x / 10 := ⟨_, rfl⟩
  obtain ⟨b, hb⟩ : ∃ b, b = x % 10 := ⟨_, rfl⟩
  have a0 : 0 ≤ a := by omega
  have a1 : a ≤ 9 := by omega
  have b0 : 0 ≤ b := by omega
  have b1 : b ≤ 9 := by omega
  have hf := hide (show mkS (d2 x) = ⟨#[UInt8.ofNat (48 + a).toNat, UInt8.ofNat (48 + b).toNat]⟩ by rw [ha, hb]; rfl)
  have ea : x / 10 = a := ha.symm
  have eb : x % 10 = b := hb.symm
  clear ha hb
  have hcv := fun (W : World) (g : Nat) h h' => conv2 W g (48 + a) (48 + b) (by omega) (by omega) (by omega) (by omega) h h'
  go_enter Tryz.func45, Tryz.ntmps45
  go_wp2
  go_ret
  exact ⟨retS2 (by rw [hf.out]), bl_new _ _⟩
--@FORMAT
set_option maxHeartbeats 4000000 in
theorem Format (x : Int) (w : World) (h0 : -604800 < x) (h1 : x < 604800) : Calls Tryz.prog 25 #[.int .i64 x] w fun e w' => e = .returned (.string (mkS (hmsFmt x))) ∧ Below w.heap.size w w' := by
  obtain ⟨r, hr⟩ : ∃ r, r = mkS (hmsFmt x) := ⟨_, rfl⟩
  rw [← hr]
  obtain ⟨y, hy⟩ : ∃ y : Int, y = if x < 0 then -x else x := ⟨_, rfl⟩
  have y0 : 0 ≤ y := by split at hy <;> omega
  have y1 : y < 604800 := by split at hy <;> omega
  obtain ⟨H, hH⟩ : ∃ H, H = y / 3600 := ⟨_, rfl⟩
  obtain ⟨a, ha⟩ : ∃ a, a = H / 10 % 10 := ⟨_, rfl⟩
  obtain ⟨b, hb⟩ : ∃ b, b = H % 10 := ⟨_, rfl⟩
  obtain ⟨T, hT⟩ : ∃ T, T = y % 3600 := ⟨_, rfl⟩
  obtain ⟨M, hM⟩ : ∃ M, M = y / 60 % 60 := ⟨_, rfl⟩
  obtain ⟨C, hC⟩ : ∃ C, C = y % 60 := ⟨_, rfl⟩
  have H0 : 0 ≤ H := by omega
  have H1 : H ≤ 167 := by omega
  have a0 : 0 ≤ a := by omega
  have a1 : a ≤ 9 := by omega
  have b0 : 0 ≤ b := by omega
  have b1 : b ≤ 9 := by omega
  have M0 : 0 ≤ M := by omega
  have M1 : M ≤ 99 := by omega
  have C0 : 0 ≤ C := by omega
  have C1 : C ≤ 99 := by omega
  have hcase : (H < 10) ∨ (10 ≤ H ∧ H < 100) ∨ (100 ≤ H) := by omega
  have hcase2 : (T = 0 ∧ C = 0) ∨ (0 < T ∧ C = 0) ∨ (0 < T ∧ 0 < C) := by omega
  have habs : hmsAbs y = ((if 100 ≤ H then [49] else []) ++ ((if 10 ≤ H then [dg a] else []) ++ [dg b])) ++ ((if 0 < T then 58 :: d2 M else []) ++ (if 0 < C then 58 :: d2 C else [])) := by
    unfold hmsAbs hh
    rw [← hH, ← ha, ← hb, ← hT, ← hM, ← hC]
  have hfmt : hmsFmt x = (if x < 0 then [45] else []) ++ hmsAbs y := by
    unfold hmsFmt
    split <;> rename_i hx
    · rw [if_pos hx] at hy; rw [hy]; rfl
    · rw [if_neg hx] at hy; rw [hy]; rfl
  rw [hfmt, habs] at hr
  have PM := hide (fun w => pair M w M0 M1)
  have PC := hide (fun w => pair C w C0 C1)
  have ca := fun (W : World) (g : Nat) h => conv1 W g (48 + a) (by omega) (by omega) h
  have cb := fun (W : World) (g : Nat) h => conv1 W g (48 + b) (by omega) (by omega) h
  have sM : (mkS (d2 M)).size = 2 := by rw [size_mk]; rfl
  have sC : (mkS (d2 C)).size = 2 := by rw [size_mk]; rfl
  have bM := hide (byt_mk (d2 M))
  have bC := hide (byt_mk (d2 C))
  have da := hide (show [UInt8.ofNat (48 + a).toNat] = [dg a] from rfl)
  have db := hide (show [UInt8.ofNat (48 + b).toNat] = [dg b] from rfl)
  generalize mkS (d2 M) = SM at *
  generalize mkS (d2 C) = SC at *
  have eH : y / 3600 = H := hH.symm
  have ea : H / 10 % 10 = a := ha.symm
  have eb : H % 10 = b := hb.symm
  have eT : y % 3600 = T := hT.symm
  have eM : y / 60 % 60 = M := hM.symm
  have eC : y % 60 = C := hC.symm
  replace hr := hide hr
  clear hH ha hb hT hM hC habs hfmt
  by_cases hx : x < 0
  · rw [if_pos hx] at hy
    obtain rfl : x = -y := by omega
    clear hy
    rcases hcase with hc1 | ⟨hc1, hc2⟩ | hc1
    · rcases hcase2 with ⟨rfl, rfl⟩ | ⟨hd1, rfl⟩ | ⟨hd1, hd2⟩
      · have hr' := hr.out
        rw [if_pos (show (-y < 0) by omega), if_neg (show ¬ (100 ≤ H) by omega), if_neg (show ¬ (10 ≤ H) by omega), if_neg (show ¬ (0 < (0 : Int)) by omega), if_neg (show ¬ (0 < (0 : Int)) by omega)] at hr'
        replace hr := hide hr'
        clear hr'
        go_enter Tryz.func25, Tryz.ntmps25
        go_wp2
        go_ret
        exact ⟨retS2 (by rw [hr.out]; apply byt_inj.1; rw [byt_mk]; (repeat rw [byt_append]); rfl), by first | exact bl_new _ _ | exact bl_alloc (bl_new _ _) _⟩
      · have hr' := hr.out
        rw [if_pos (show (-y < 0) by omega), if_neg (show ¬ (100 ≤ H) by omega), if_neg (show ¬ (10 ≤ H) by omega), if_pos (show (0 < T) by omega), if_neg (show ¬ (0 < (0 : Int)) by omega)] at hr'
        replace hr := hide hr'
        clear hr'
        go_enter Tryz.func25, Tryz.ntmps25
        go_wp2_with fail
        refine (PM.out _).mono ?_
        rintro e w1 ⟨rfl, hb1⟩
        replace hb1 := hide (bel_next (w := w) (by first | exact bl_new _ _ | exact bl_alloc (bl_new _ _) _) hb1)
        go_wp2
        go_ret
        exact ⟨retS2 (by rw [hr.out]; apply byt_inj.1; rw [byt_mk]; (repeat rw [byt_append]); rw [bM.out]; rfl), hb1.out⟩
      · have hr' := hr.out
        rw [if_pos (show (-y < 0) by omega), if_neg (show ¬ (100 ≤ H) by omega), if_neg (show ¬ (10 ≤ H) by omega), if_pos (show (0 < T) by omega), if_pos (show (0 < C) by omega)] at hr'
        replace hr := hide hr'
        clear hr'
        go_enter Tryz.func25, Tryz.ntmps25
        go_wp2_with fail
        refine (PM.out _).mono ?_
        rintro e w1 ⟨rfl, hb1⟩
        replace hb1 := hide (bel_next (w := w) (by first | exact bl_new _ _ | exact bl_alloc (bl_new _ _) _) hb1)
        go_wp2_with fail
        refine (PC.out _).mono ?_
        rintro e w2 ⟨rfl, hb2⟩
        replace hb2 := hide (bel_next hb1.out hb2)
        go_wp2
        go_ret
        exact ⟨retS2 (by rw [hr.out]; apply byt_inj.1; rw [byt_mk]; (repeat rw [byt_append]); rw [bM.out]; rw [bC.out]; rfl), hb2.out⟩
    · rcases hcase2 with ⟨rfl, rfl⟩ | ⟨hd1, rfl⟩ | ⟨hd1, hd2⟩
      · have hr' := hr.out
        rw [if_pos (show (-y < 0) by omega), if_neg (show ¬ (100 ≤ H) by omega), if_pos (show (10 ≤ H) by omega), if_neg (show ¬ (0 < (0 : Int)) by omega), if_neg (show ¬ (0 < (0 : Int)) by omega)] at hr'
        replace hr := hide hr'
        clear hr'
        go_enter Tryz.func25, Tryz.ntmps25
        go_wp2
        go_ret
        exact ⟨retS2 (by rw [hr.out]; apply byt_inj.1; rw [byt_mk]; (repeat rw [byt_append]); rfl), by first | exact bl_new _ _ | exact bl_alloc (bl_new _ _) _⟩
      · have hr' := hr.out
        rw [if_pos (show (-y < 0) by omega), if_neg (show ¬ (100 ≤ H) by omega), if_pos (show (10 ≤ H) by omega), if_pos (show (0 < T) by omega), if_neg (show ¬ (0 < (0 : Int)) by omega)] at hr'
        replace hr := hide hr'
        clear hr'
        go_enter Tryz.func25, Tryz.ntmps25
        go_wp2_with fail
        refine (PM.out _).mono ?_
        rintro e w1 ⟨rfl, hb1⟩
        replace hb1 := hide (bel_next (w := w) (by first | exact bl_new _ _ | exact bl_alloc (bl_new _ _) _) hb1)
        go_wp2
        go_ret
        exact ⟨retS2 (by rw [hr.out]; apply byt_inj.1; rw [byt_mk]; (repeat rw [byt_append]); rw [bM.out]; rfl), hb1.out⟩
      · have hr' := hr.out
        rw [if_pos (show (-y < 0) by omega), if_neg (show ¬ (100 ≤ H) by omega), if_pos (show (10 ≤ H) by omega), if_pos (show (0 < T) by omega), if_pos (show (0 < C) by omega)] at hr'
        replace hr := hide hr'
        clear hr'
        go_enter Tryz.func25, Tryz.ntmps25
        go_wp2_with fail
        refine (PM.out _).mono ?_
        rintro e w1 ⟨rfl, hb1⟩
        replace hb1 := hide (bel_next (w := w) (by first | exact bl_new _ _ | exact bl_alloc (bl_new _ _) _) hb1)
        go_wp2_with fail
        refine (PC.out _).mono ?_
        rintro e w2 ⟨rfl, hb2⟩
        replace hb2 := hide (bel_next hb1.out hb2)
        go_wp2
        go_ret
        exact ⟨retS2 (by rw [hr.out]; apply byt_inj.1; rw [byt_mk]; (repeat rw [byt_append]); rw [bM.out]; rw [bC.out]; rfl), hb2.out⟩
    · rcases hcase2 with ⟨rfl, rfl⟩ | ⟨hd1, rfl⟩ | ⟨hd1, hd2⟩
      · have hr' := hr.out
        rw [if_pos (show (-y < 0) by omega), if_pos (show (100 ≤ H) by omega), if_pos (show (10 ≤ H) by omega), if_neg (show ¬ (0 < (0 : Int)) by omega), if_neg (show ¬ (0 < (0 : Int)) by omega)] at hr'
        replace hr := hide hr'
        clear hr'
        go_enter Tryz.func25, Tryz.ntmps25
        go_wp2
        go_ret
        exact ⟨retS2 (by rw [hr.out]; apply byt_inj.1; rw [byt_mk]; (repeat rw [byt_append]); rfl), by first | exact bl_new _ _ | exact bl_alloc (bl_new _ _) _⟩
      · have hr' := hr.out
        rw [if_pos (show (-y < 0) by omega), if_pos (show (100 ≤ H) by omega), if_pos (show (10 ≤ H) by omega), if_pos (show (0 < T) by omega), if_neg (show ¬ (0 < (0 : Int)) by omega)] at hr'
        replace hr := hide hr'
        clear hr'
        go_enter Tryz.func25, Tryz.ntmps25
        go_wp2_with fail
        refine (PM.out _).mono ?_
        rintro e w1 ⟨rfl, hb1⟩
        replace hb1 := hide (bel_next (w := w) (by first | exact bl_new _ _ | exact bl_alloc (bl_new _ _) _) hb1)
        go_wp2
        go_ret
        exact ⟨retS2 (by rw [hr.out]; apply byt_inj.1; rw [byt_mk]; (repeat rw [byt_append]); rw [bM.out]; rfl), hb1.out⟩
      · have hr' := hr.out
        rw [if_pos (show (-y < 0) by omega), if_pos (show (100 ≤ H) by omega), if_pos (show (10 ≤ H) by omega), if_pos (show (0 < T) by omega), if_pos (show (0 < C) by omega)] at hr'
        replace hr := hide hr'
        clear hr'
        go_enter Tryz.func25, Tryz.ntmps25
        go_wp2_with fail
        refine (PM.out _).mono ?_
        rintro e w1 ⟨rfl, hb1⟩
        replace hb1 := hide (bel_next (w := w) (by first | exact bl_new _ _ | exact bl_alloc (bl_new _ _) _) hb1)
        go_wp2_with fail
        refine (PC.out _).mono ?_
        rintro e w2 ⟨rfl, hb2⟩
        replace hb2 := hide (bel_next hb1.out hb2)
        go_wp2
        go_ret
        exact ⟨retS2 (by rw [hr.out]; apply byt_inj.1; rw [byt_mk]; (repeat rw [byt_append]); rw [bM.out]; rw [bC.out]; rfl), hb2.out⟩
  · rw [if_neg hx] at hy
    obtain rfl : y = x := hy
    rcases hcase with hc1 | ⟨hc1, hc2⟩ | hc1
    · rcases hcase2 with ⟨rfl, rfl⟩ | ⟨hd1, rfl⟩ | ⟨hd1, hd2⟩
      · have hr' := hr.out
        rw [if_neg (show ¬ (y < 0) by omega), if_neg (show ¬ (100 ≤ H) by omega), if_neg (show ¬ (10 ≤ H) by omega), if_neg (show ¬ (0 < (0 : Int)) by omega), if_neg (show ¬ (0 < (0 : Int)) by omega)] at hr'
        replace hr := hide hr'
        clear hr'
        go_enter Tryz.func25, Tryz.ntmps25
        go_wp2
        go_ret
        exact ⟨retS2 (by rw [hr.out]; apply byt_inj.1; rw [byt_mk]; (repeat rw [byt_append]); rfl), by first | exact bl_new _ _ | exact bl_alloc (bl_new _ _) _⟩
      · have hr' := hr.out
        rw [if_neg (show ¬ (y < 0) by omega), if_neg (show ¬ (100 ≤ H) by omega), if_neg (show ¬ (10 ≤ H) by omega), if_pos (show (0 < T) by omega), if_neg (show ¬ (0 < (0 : Int)) by omega)] at hr'
        replace hr := hide hr'
        clear hr'
        go_enter Tryz.func25, Tryz.ntmps25
        go_wp2_with fail
        refine (PM.out _).mono ?_
        rintro e w1 ⟨rfl, hb1⟩
        replace hb1 := hide (bel_next (w := w) (by first | exact bl_new _ _ | exact bl_alloc (bl_new _ _) _) hb1)
        go_wp2
        go_ret
        exact ⟨retS2 (by rw [hr.out]; apply byt_inj.1; rw [byt_mk]; (repeat rw [byt_append]); rw [bM.out]; rfl), hb1.out⟩
      · have hr' := hr.out
        rw [if_neg (show ¬ (y < 0) by omega), if_neg (show ¬ (100 ≤ H) by omega), if_neg (show ¬ (10 ≤ H) by omega), if_pos (show (0 < T) by omega), if_pos (show (0 < C) by omega)] at hr'
        replace hr := hide hr'
        clear hr'
        go_enter Tryz.func25, Tryz.ntmps25
        go_wp2_with fail
        refine (PM.out _).mono ?_
        rintro e w1 ⟨rfl, hb1⟩
        replace hb1 := hide (bel_next (w := w) (by first | exact bl_new _ _ | exact bl_alloc (bl_new _ _) _) hb1)
        go_wp2_with fail
        refine (PC.out _).mono ?_
        rintro e w2 ⟨rfl, hb2⟩
        replace hb2 := hide (bel_next hb1.out hb2)
        go_wp2
        go_ret
        exact ⟨retS2 (by rw [hr.out]; apply byt_inj.1; rw [byt_mk]; (repeat rw [byt_append]); rw [bM.out]; rw [bC.out]; rfl), hb2.out⟩
    · rcases hcase2 with ⟨rfl, rfl⟩ | ⟨hd1, rfl⟩ | ⟨hd1, hd2⟩
      · have hr' := hr.out
        rw [if_neg (show ¬ (y < 0) by omega), if_neg (show ¬ (100 ≤ H) by omega), if_pos (show (10 ≤ H) by omega), if_neg (show ¬ (0 < (0 : Int)) by omega), if_neg (show ¬ (0 < (0 : Int)) by omega)] at hr'
        replace hr := hide hr'
        clear hr'
        go_enter Tryz.func25, Tryz.ntmps25
        go_wp2
        go_ret
        exact ⟨retS2 (by rw [hr.out]; apply byt_inj.1; rw [byt_mk]; (repeat rw [byt_append]); rfl), by first | exact bl_new _ _ | exact bl_alloc (bl_new _ _) _⟩
      · have hr' := hr.out
        rw [if_neg (show ¬ (y < 0) by omega), if_neg (show ¬ (100 ≤ H) by omega), if_pos (show (10 ≤ H) by omega), if_pos (show (0 < T) by omega), if_neg (show ¬ (0 < (0 : Int)) by omega)] at hr'
        replace hr := hide hr'
        clear hr'
        go_enter Tryz.func25, Tryz.ntmps25
        go_wp2_with fail
        refine (PM.out _).mono ?_
        rintro e w1 ⟨rfl, hb1⟩
        replace hb1 := hide (bel_next (w := w) (by first | exact bl_new _ _ | exact bl_alloc (bl_new _ _) _) hb1)
        go_wp2
        go_ret
        exact ⟨retS2 (by rw [hr.out]; apply byt_inj.1; rw [byt_mk]; (repeat rw [byt_append]); rw [bM.out]; rfl), hb1.out⟩
      · have hr' := hr.out
        rw [if_neg (show ¬ (y < 0) by omega), if_neg (show ¬ (100 ≤ H) by omega), if_pos (show (10 ≤ H) by omega), if_pos (show (0 < T) by omega), if_pos (show (0 < C) by omega)] at hr'
        replace hr := hide hr'
        clear hr'
        go_enter Tryz.func25, Tryz.ntmps25
        go_wp2_with fail
        refine (PM.out _).mono ?_
        rintro e w1 ⟨rfl, hb1⟩
        replace hb1 := hide (bel_next (w := w) (by first | exact bl_new _ _ | exact bl_alloc (bl_new _ _) _) hb1)
        go_wp2_with fail
        refine (PC.out _).mono ?_
        rintro e w2 ⟨rfl, hb2⟩
        replace hb2 := hide (bel_next hb1.out hb2)
        go_wp2
        go_ret
        exact ⟨retS2 (by rw [hr.out]; apply byt_inj.1; rw [byt_mk]; (repeat rw [byt_append]); rw [bM.out]; rw [bC.out]; rfl), hb2.out⟩
    · rcases hcase2 with ⟨rfl, rfl⟩ | ⟨hd1, rfl⟩ | ⟨hd1, hd2⟩
      · have hr' := hr.out
        rw [if_neg (show ¬ (y < 0) by omega), if_pos (show (100 ≤ H) by omega), if_pos (show (10 ≤ H) by omega), if_neg (show ¬ (0 < (0 : Int)) by omega), if_neg (show ¬ (0 < (0 : Int)) by omega)] at hr'
        replace hr := hide hr'
        clear hr'
        go_enter Tryz.func25, Tryz.ntmps25
        go_wp2
        go_ret
        exact ⟨retS2 (by rw [hr.out]; apply byt_inj.1; rw [byt_mk]; (repeat rw [byt_append]); rfl), by first | exact bl_new _ _ | exact bl_alloc (bl_new _ _) _⟩
      · have hr' := hr.out
        rw [if_neg (show ¬ (y < 0) by omega), if_pos (show (100 ≤ H) by omega), if_pos (show (10 ≤ H) by omega), if_pos (show (0 < T) by omega), if_neg (show ¬ (0 < (0 : Int)) by omega)] at hr'
        replace hr := hide hr'
        clear hr'
        go_enter Tryz.func25, Tryz.ntmps25
        go_wp2_with fail
        refine (PM.out _).mono ?_
        rintro e w1 ⟨rfl, hb1⟩
        replace hb1 := hide (bel_next (w := w) (by first | exact bl_new _ _ | exact bl_alloc (bl_new _ _) _) hb1)
        go_wp2
        go_ret
        exact ⟨retS2 (by rw [hr.out]; apply byt_inj.1; rw [byt_mk]; (repeat rw [byt_append]); rw [bM.out]; rfl), hb1.out⟩
      · have hr' := hr.out
        rw [if_neg (show ¬ (y < 0) by omega), if_pos (show (100 ≤ H) by omega), if_pos (show (10 ≤ H) by omega), if_pos (show (0 < T) by omega), if_pos (show (0 < C) by omega)] at hr'
        replace hr := hide hr'
        clear hr'
        go_enter Tryz.func25, Tryz.ntmps25
        go_wp2_with fail
        refine (PM.out _).mono ?_
        rintro e w1 ⟨rfl, hb1⟩
        replace hb1 := hide (bel_next (w := w) (by first | exact bl_new _ _ | exact bl_alloc (bl_new _ _) _) hb1)
        go_wp2_with fail
        refine (PC.out _).mono ?_
        rintro e w2 ⟨rfl, hb2⟩
        replace hb2 := hide (bel_next hb1.out hb2)
        go_wp2
        go_ret
        exact ⟨retS2 (by rw [hr.out]; apply byt_inj.1; rw [byt_mk]; (repeat rw [byt_append]); rw [bM.out]; rw [bC.out]; rfl), hb2.out⟩
end r8_
end Go.Proofs.YtjeclakdgmjbjaaGreatDoor
