/-
  THE WALKS OF THE LAWS OF LAYER 17 (zoneinfolaw17): awake. No conditions.
-/
import Derived.Test.YtickchkcfaggfaaRef17
import Derived.Test.YtickchkcfaggfaaLp
import Derived.Deep.RegionHeld3
import Derived.Deep.DeepCutAuto
namespace Go.Proofs.Ytickchkcfaggfaa
open Go.ChangeShapes Go.WideShapes Go.ChangeAt Go.RowKit
set_option linter.unusedVariables false
set_option maxRecDepth 100000
theorem aw17_b : Bytes [0, 0, 0, 5, 255, 255, 255, 255] := bytes_of_mem (by decide)
theorem aw17_d : dLP 4 [0, 0, 0, 5, 255, 255, 255, 255] 1 = [(5, (-1))] := by decide
theorem aw17_x1 : exL [(78796800, 1), (94694401, 2), (126230402, 2)] = true := by decide
theorem aw17_x2 : exL [(78796800, 1), (94694401, 2)] = false := by decide
namespace l17_
set_option maxHeartbeats 4000000 in
theorem awake (w : World) : Calls Try.prog 7 #[] w fun e w' => e = .returned (.bool true) ∧ Below w.heap.size w w' := by
  have hb := hide (bl_new w (.cells #[.int .i64 78796800, .int .i32 1, .int .i64 94694401, .int .i32 2] 38))
  have rL := hide (show Rk 2 (w.alloc (.cells #[.int .i64 78796800, .int .i32 1, .int .i64 94694401, .int .i32 2] 38)) (some ⟨w.heap.size, 0, none⟩) 2 (lcs ([(78796800, 1), (94694401, 2)] : List LP)) from (Ok.lit 2 w 38 (lcs ([(78796800, 1), (94694401, 2)] : List LP)) 2 rfl (by simp [maxLen])).rd)
  have e1 : ∀ T : World → Prop, T w → T w := fun _ h => h
  have X1 := hide (fun A c w hA hr => lp_.Expiry A 3 c [(78796800, 1), (94694401, 2), (126230402, 2)] w (by decide) (by decide) hA hr (by intro t ht; simp at ht; unfold lpOk; rcases ht with rfl | rfl | rfl <;> decide))
  have X2 := hide (fun A c w hA hr => lp_.Expiry A 2 c [(78796800, 1), (94694401, 2)] w (by decide) (by decide) hA hr (by intro t ht; simp at ht; unfold lpOk; rcases ht with rfl | rfl <;> decide))
  rw [aw17_x1] at X1
  rw [aw17_x2] at X2
  have D1 := hide (fun A c w hA hc hcm hr => lp_.Decode A 8 c 1 [0, 0, 0, 5, 255, 255, 255, 255] 4 4 w rfl (.inl rfl) (by decide) rfl hA hc hcm hr aw17_b)
  rw [aw17_d] at D1
  have V1 := hide (fun A c w hA hr => lp_.Valid A 2 c [(78796800, 1), (94694401, 2)] 1 false w (by decide) (by decide) rfl (by decide) hA hr (by intro t ht; simp at ht; unfold lpOk; rcases ht with rfl | rfl <;> decide))
  rw [show vL [(78796800, 1), (94694401, 2)] false = true by decide] at V1
  have V2 := hide (fun w => lp_.Valid none 0 0 [] 1 false w (by decide) (by decide) rfl (by decide) ⟨fun _ => ⟨rfl, rfl⟩, Nat.le_refl _⟩ (Rk.none_ 2 w) (by simp))
  rw [show vL [] false = true by decide] at V2
  have V3 := hide (fun A c w hA hr => lp_.Valid A 3 c [(78796800, 1), (94694401, 2), (126230402, 2)] 4 true w (by decide) (by decide) rfl (by decide) hA hr (by intro t ht; simp at ht; unfold lpOk; rcases ht with rfl | rfl | rfl <;> decide))
  rw [show vL [(78796800, 1), (94694401, 2), (126230402, 2)] true = true by decide] at V3
  have V4 := hide (fun A c w hA hr => lp_.Valid A 3 c [(78796800, 1), (94694401, 2), (126230402, 2)] 3 false w (by decide) (by decide) rfl (by decide) hA hr (by intro t ht; simp at ht; unfold lpOk; rcases ht with rfl | rfl | rfl <;> decide))
  rw [show vL [(78796800, 1), (94694401, 2), (126230402, 2)] false = false by decide] at V4
  have V5 := hide (fun A c w hA hr => lp_.Valid A 1 c [((-1), 1)] 4 true w (by decide) (by decide) rfl (by decide) hA hr (by intro t ht; simp at ht; unfold lpOk; subst ht; decide))
  rw [show vL [((-1), 1)] true = false by decide] at V5
  have N1 := hide (fun A c w hA hr => lp_.NeedsV4 A 3 c [(78796800, 1), (94694401, 2), (126230402, 2)] w (by decide) hA hr (by intro t ht; simp at ht; unfold lpOk; rcases ht with rfl | rfl | rfl <;> decide))
  rw [show (!vL [(78796800, 1), (94694401, 2), (126230402, 2)] false && vL [(78796800, 1), (94694401, 2), (126230402, 2)] true) = true by decide] at N1
  have N2 := hide (fun A c w hA hr => lp_.NeedsV4 A 2 c [(78796800, 1), (94694401, 2)] w (by decide) hA hr (by intro t ht; simp at ht; unfold lpOk; rcases ht with rfl | rfl <;> decide))
  rw [show (!vL [(78796800, 1), (94694401, 2)] false && vL [(78796800, 1), (94694401, 2)] true) = false by decide] at N2
  have N3 := hide (fun A c w hA hr => lp_.NeedsV4 A 1 c [(5, 9)] w (by decide) hA hr (by intro t ht; simp at ht; unfold lpOk; subst ht; decide))
  rw [show (!vL [(5, 9)] false && vL [(5, 9)] true) = true by decide] at N3
  have C1 := hide (fun A c w hA hr => lp_.Correction A 2 c [(78796800, 1), (94694401, 2)] 94694400 w (by decide) (by decide) hA hr (by intro t ht; simp at ht; unfold lpOk; rcases ht with rfl | rfl <;> decide) (by decide) (by decide))
  rw [show cr [(78796800, 1), (94694401, 2)] 94694400 = 1 by decide] at C1
  have C2 := hide (fun A c w hA hr => lp_.Correction A 2 c [(78796800, 1), (94694401, 2)] 94694401 w (by decide) (by decide) hA hr (by intro t ht; simp at ht; unfold lpOk; rcases ht with rfl | rfl <;> decide) (by decide) (by decide))
  rw [show cr [(78796800, 1), (94694401, 2)] 94694401 = 2 by decide] at C2
  have C3 := hide (fun A c w hA hr => lp_.Correction A 2 c [(78796800, 1), (94694401, 2)] 0 w (by decide) (by decide) hA hr (by intro t ht; simp at ht; unfold lpOk; rcases ht with rfl | rfl <;> decide) (by decide) (by decide))
  rw [show cr [(78796800, 1), (94694401, 2)] 0 = 0 by decide] at C3
  have S1 := hide (fun A A' c c' w hr hr' => r17_.Same A A' 1 1 c c' [(5, (-1))] [(5, (-1))] w (by decide) (by decide) hr hr')
  rw [decide_eq_true (rfl : ([(5, (-1))] : List LP) = [(5, (-1))])] at S1
  have E1 := hide (fun A c w hA hr => lp_.Encode A 2 c 24 [(78796800, 1), (94694401, 2)] 8 8 w rfl (.inr rfl) (by decide) rfl hA hr (by intro t ht; simp at ht; unfold lpOk; rcases ht with rfl | rfl <;> decide))
  have h1L := hide (lcs_cells [(78796800, 1), (94694401, 2)])
  have h1X := hide (lcs_cells [(126230402, 2)])
  clear e1
  go_enter Try.func7, Try.ntmps7
  go_upto_region 2 with fail
  generalize (w.alloc (.cells #[.int .i64 78796800, .int .i32 1, .int .i64 94694401, .int .i32 2] 38)) = u at *
  have k0 := hide (show Ok 2 (u.alloc (.cells #[] 38)) u.heap.size 38 (some ⟨u.heap.size, 0, none⟩) 0 0 [] from Ok.lit 2 u 38 [] 0 rfl (by decide))
  have b0 := hide (bl_new u (.cells #[] 38))
  have r0 := hide (rL.out.alloc (.cells #[] 38))
  go_wp2_with (first
    | (at_builtin; refine apK elLP (by decide) k0.out b0.out (Nat.le_refl _) r0.out (.tmp 12) (.tmp 13) rfl rfl rfl rfl (fun h => by cases h) h1L.out (by simp [maxLen]) (by decide) ?_; intro A2 c2 w2 ho2 hb2 _; have k3 := hide (ho2.alloc (.cells #[.int .i64 126230402, .int .i32 2] 38)); have b3 := hide (bl_alloc hb2 (.cells #[.int .i64 126230402, .int .i32 2] 38)); have r3 := hide (show Rk 2 (w2.alloc (.cells #[.int .i64 126230402, .int .i32 2] 38)) (some ⟨w2.heap.size, 0, none⟩) 1 (lcs ([(126230402, 2)] : List LP)) from (Ok.lit 2 w2 38 (lcs ([(126230402, 2)] : List LP)) 1 rfl (by simp [maxLen])).rd); clear k0 b0 r0 ho2 hb2)
    | (at_builtin; refine apK elLP (by decide) k3.out b3.out (Nat.le_refl _) r3.out (.tmp 14) (.tmp 16) rfl rfl rfl rfl (fun h => by cases h) h1X.out (by simp [maxLen]) (by decide) ?_; intro A4 c4 w4 ho4 hb4 _; clear k3 b3 r3))
  have nX := hide (show A4 = none → 3 = 0 ∧ c4 = 0 from ho4.nilcap)
  have nXc := hide (show (A4 = none → 3 = 0 ∧ c4 = 0) ∧ 3 ≤ c4 from ⟨ho4.nilcap, ho4.cap⟩)
  have rX := hide (show Rk 2 w4 A4 3 (lcs [(78796800, 1), (94694401, 2), (126230402, 2)]) from ho4.rd)
  replace rL := hide (rL.out.below hb4)
  replace hb := hide (bel_next hb.out hb4)
  clear ho4 hb4 h1L h1X
  have rF := hide (show Rk 2 (w4.alloc (.cells #[.int .i64 5, .int .i32 9] 38)) (some ⟨w4.heap.size, 0, none⟩) 1 (lcs ([(5, 9)] : List LP)) from (Ok.lit 2 w4 38 (lcs ([(5, 9)] : List LP)) 1 rfl (by simp [maxLen])).rd)
  replace rX := hide (rX.out.alloc (.cells #[.int .i64 5, .int .i32 9] 38))
  replace rL := hide (rL.out.alloc (.cells #[.int .i64 5, .int .i32 9] 38))
  replace hb := hide (bl_alloc hb.out (.cells #[.int .i64 5, .int .i32 9] 38))
  generalize (w4.alloc (.cells #[.int .i64 5, .int .i32 9] 38)) = u4 at *
  go_wp2_with fail
  refine (X1.out _ _ _ nX.out rX.out).mono ?_
  rintro e w5 ⟨rfl, h1⟩
  replace hb := hide (bel_next hb.out h1)
  replace rX := hide (rX.out.below h1)
  replace rL := hide (rL.out.below h1)
  replace rF := hide (rF.out.below h1)
  clear h1
  go_wp2_with fail
  refine (X2.out _ _ _ (fun h => by cases h) rL.out).mono ?_
  rintro e w6 ⟨rfl, h1⟩
  replace hb := hide (bel_next hb.out h1)
  replace rX := hide (rX.out.below h1)
  replace rL := hide (rL.out.below h1)
  replace rF := hide (rF.out.below h1)
  clear h1
  have rl := Rd.ints w6 5 .u8 ([0, 0, 0, 5, 255, 255, 255, 255] : List Int) 8 rfl rfl
  replace hb := hide (bl_alloc hb.out (.cells #[.int .u8 0, .int .u8 0, .int .u8 0, .int .u8 5, .int .u8 255, .int .u8 255, .int .u8 255, .int .u8 255] 5))
  replace rX := hide (rX.out.alloc (.cells #[.int .u8 0, .int .u8 0, .int .u8 0, .int .u8 5, .int .u8 255, .int .u8 255, .int .u8 255, .int .u8 255] 5))
  replace rL := hide (rL.out.alloc (.cells #[.int .u8 0, .int .u8 0, .int .u8 0, .int .u8 5, .int .u8 255, .int .u8 255, .int .u8 255, .int .u8 255] 5))
  replace rF := hide (rF.out.alloc (.cells #[.int .u8 0, .int .u8 0, .int .u8 0, .int .u8 5, .int .u8 255, .int .u8 255, .int .u8 255, .int .u8 255] 5))
  go_wp2_with fail
  refine (D1.out _ _ _ (fun h => by cases h) (by decide) (by decide) rl).mono ?_
  rintro e w7 ⟨A7, c7, rfl, o7, h1⟩
  replace hb := hide (bel_next hb.out h1)
  replace rX := hide (rX.out.below h1)
  replace rL := hide (rL.out.below h1)
  replace rF := hide (rF.out.below h1)
  clear h1
  have rD := hide o7.rd
  clear rl o7
  go_wp2_with fail
  refine (V1.out _ _ _ ⟨fun h => (by cases h), (by decide)⟩ rL.out).mono ?_
  rintro e w8 ⟨rfl, h1⟩
  replace hb := hide (bel_next hb.out h1)
  replace rX := hide (rX.out.below h1)
  replace rL := hide (rL.out.below h1)
  replace rF := hide (rF.out.below h1)
  replace rD := hide (rD.out.below h1)
  clear h1
  go_wp2_with fail
  refine (V2.out _).mono ?_
  rintro e w9 ⟨rfl, h1⟩
  replace hb := hide (bel_next hb.out h1)
  replace rX := hide (rX.out.below h1)
  replace rL := hide (rL.out.below h1)
  replace rF := hide (rF.out.below h1)
  replace rD := hide (rD.out.below h1)
  clear h1
  go_wp2_with fail
  refine (V3.out _ _ _ nXc.out rX.out).mono ?_
  rintro e w10 ⟨rfl, h1⟩
  replace hb := hide (bel_next hb.out h1)
  replace rX := hide (rX.out.below h1)
  replace rL := hide (rL.out.below h1)
  replace rF := hide (rF.out.below h1)
  replace rD := hide (rD.out.below h1)
  clear h1
  go_wp2_with fail
  refine (V4.out _ _ _ nXc.out rX.out).mono ?_
  rintro e w11 ⟨rfl, h1⟩
  replace hb := hide (bel_next hb.out h1)
  replace rX := hide (rX.out.below h1)
  replace rL := hide (rL.out.below h1)
  replace rF := hide (rF.out.below h1)
  replace rD := hide (rD.out.below h1)
  clear h1
  go_wp2_with fail
  refine (N1.out _ _ _ nXc.out rX.out).mono ?_
  rintro e w12 ⟨rfl, h1⟩
  replace hb := hide (bel_next hb.out h1)
  replace rX := hide (rX.out.below h1)
  replace rL := hide (rL.out.below h1)
  replace rF := hide (rF.out.below h1)
  replace rD := hide (rD.out.below h1)
  clear h1
  clear rX
  go_wp2_with fail
  refine (N2.out _ _ _ ⟨fun h => (by cases h), (by decide)⟩ rL.out).mono ?_
  rintro e w13 ⟨rfl, h1⟩
  replace hb := hide (bel_next hb.out h1)
  replace rL := hide (rL.out.below h1)
  replace rF := hide (rF.out.below h1)
  replace rD := hide (rD.out.below h1)
  clear h1
  go_wp2_with fail
  refine (N3.out _ _ _ ⟨fun h => (by cases h), (by decide)⟩ rF.out).mono ?_
  rintro e w14 ⟨rfl, h1⟩
  replace hb := hide (bel_next hb.out h1)
  replace rL := hide (rL.out.below h1)
  replace rF := hide (rF.out.below h1)
  replace rD := hide (rD.out.below h1)
  clear h1
  clear rF
  have rl := show Rk 2 (w14.alloc (.cells #[.int .i64 (-1), .int .i32 1] 38)) (some ⟨w14.heap.size, 0, none⟩) 1 (lcs ([((-1), 1)] : List LP)) from (Ok.lit 2 w14 38 (lcs ([((-1), 1)] : List LP)) 1 rfl (by simp [maxLen])).rd
  replace hb := hide (bl_alloc hb.out (.cells #[.int .i64 (-1), .int .i32 1] 38))
  replace rL := hide (rL.out.alloc (.cells #[.int .i64 (-1), .int .i32 1] 38))
  replace rD := hide (rD.out.alloc (.cells #[.int .i64 (-1), .int .i32 1] 38))
  go_wp2_with fail
  refine (V5.out _ _ _ ⟨fun h => (by cases h), (by decide)⟩ rl).mono ?_
  rintro e w15 ⟨rfl, h1⟩
  replace hb := hide (bel_next hb.out h1)
  replace rL := hide (rL.out.below h1)
  replace rD := hide (rD.out.below h1)
  clear h1
  clear rl
  go_wp2_with fail
  refine (C1.out _ _ _ (fun h => by cases h) rL.out).mono ?_
  rintro e w16 ⟨rfl, h1⟩
  replace hb := hide (bel_next hb.out h1)
  replace rL := hide (rL.out.below h1)
  replace rD := hide (rD.out.below h1)
  clear h1
  go_wp2_with fail
  refine (C2.out _ _ _ (fun h => by cases h) rL.out).mono ?_
  rintro e w17 ⟨rfl, h1⟩
  replace hb := hide (bel_next hb.out h1)
  replace rL := hide (rL.out.below h1)
  replace rD := hide (rD.out.below h1)
  clear h1
  go_wp2_with fail
  refine (C3.out _ _ _ (fun h => by cases h) rL.out).mono ?_
  rintro e w18 ⟨rfl, h1⟩
  replace hb := hide (bel_next hb.out h1)
  replace rL := hide (rL.out.below h1)
  replace rD := hide (rD.out.below h1)
  clear h1
  have rl := show Rk 2 (w18.alloc (.cells #[.int .i64 5, .int .i32 (-1)] 38)) (some ⟨w18.heap.size, 0, none⟩) 1 (lcs ([(5, (-1))] : List LP)) from (Ok.lit 2 w18 38 (lcs ([(5, (-1))] : List LP)) 1 rfl (by simp [maxLen])).rd
  replace hb := hide (bl_alloc hb.out (.cells #[.int .i64 5, .int .i32 (-1)] 38))
  replace rL := hide (rL.out.alloc (.cells #[.int .i64 5, .int .i32 (-1)] 38))
  replace rD := hide (rD.out.alloc (.cells #[.int .i64 5, .int .i32 (-1)] 38))
  go_wp2_with fail
  refine (S1.out _ _ _ _ _ rD.out rl).mono ?_
  rintro e w19 ⟨rfl, h1⟩
  replace hb := hide (bel_next hb.out h1)
  replace rL := hide (rL.out.below h1)
  replace rD := hide (rD.out.below h1)
  clear h1
  clear rl
  clear rD
  go_wp2_with fail
  refine (E1.out _ _ _ (fun h => by cases h) rL.out).mono ?_
  rintro e w20 ⟨A8, c8, rfl, o8, h1⟩
  replace hb := hide (bel_next hb.out h1)
  replace rL := hide (rL.out.below h1)
  clear h1
  go_wp2
  go_ret
  exact ⟨rfl, hb.out⟩
end l17_
end Go.Proofs.Ytickchkcfaggfaa
