/-
  THE WALKS OF THE LAWS OF LAYER 15 (zoneinfolaw15): awake. No conditions.
-/
import Derived.Test.YtknnobpnfnajiaaRef15
import Derived.Test.YtknnobpnfnajiaaTr
import Derived.Deep.RegionHeld3
import Derived.Deep.DeepCutAuto
namespace Go.Proofs.Ytknnobpnfnajiaa
open Go.ChangeShapes Go.WideShapes Go.ChangeAt Go.RowKit
set_option linter.unusedVariables false
set_option maxRecDepth 100000
theorem aw_e : eT 4 [-1, 5] = [255, 255, 255, 255, 0, 0, 0, 5] := by decide
theorem aw_b1 : Bytes [255, 255, 255, 255, 0, 0, 0, 5] := bytes_of_mem (by decide)
theorem aw_b2 : Bytes [128, 0, 0, 0, 0, 0, 0, 1] := bytes_of_mem (by decide)
theorem aw_d1 : dT 4 [255, 255, 255, 255, 0, 0, 0, 5] 2 = [-1, 5] := by decide
theorem aw_d2 : dT 8 [128, 0, 0, 0, 0, 0, 0, 1] 1 = [-9223372036854775807] := by decide
namespace l15_
set_option maxHeartbeats 4000000 in
theorem awake (w : World) : Calls Try.prog 7 #[] w fun e w' => e = .returned (.bool true) ∧ Below w.heap.size w w' := by
  have hb := hide (Below.refl w.heap.size w)
  have E1 := hide (fun A c w hA hr => tr_.Encode A 2 c 8 [-1, 5] 4 4 w rfl (.inl rfl) (by decide) rfl hA hr (by intro v hv; simp at hv; omega))
  rw [aw_e] at E1
  have D1 := hide (fun A c w hA hc hcm hr => tr_.Decode A 8 c 2 [255, 255, 255, 255, 0, 0, 0, 5] 4 4 w rfl (.inl rfl) (by decide) rfl hA hc hcm hr aw_b1)
  rw [aw_d1] at D1
  have D2 := hide (fun A c w hA hc hcm hr => tr_.Decode A 8 c 1 [128, 0, 0, 0, 0, 0, 0, 1] 8 8 w rfl (.inr rfl) (by decide) rfl hA hc hcm hr aw_b2)
  rw [aw_d2] at D2
  have S1 := hide (fun A A' c c' w hr hr' => r1_.Same A A' 8 c 8 c' [255, 255, 255, 255, 0, 0, 0, 5] w (by decide) hr hr')
  have S2 := hide (fun A A' c c' w hr hr' => r15_.Same A A' 2 2 c c' [-1, 5] [-1, 5] w (by decide) (by decide) hr hr')
  have S3 := hide (fun A A' c c' w hr hr' => r15_.Same A A' 1 1 c c' [-9223372036854775807] [-9223372036854775807] w (by decide) (by decide) hr hr')
  have X1 := hide (fun A c w hA hr => tr_.Descent A 4 c [1, 2, 2, 1] w (by decide) hA hr)
  rw [show desc [1, 2, 2, 1] = 2 by decide] at X1
  have X2 := hide (fun A c w hA hr => tr_.Descent A 2 c [-9223372036854775808, 9223372036854775807] w (by decide) hA hr)
  rw [show desc [-9223372036854775808, 9223372036854775807] = -1 by decide] at X2
  have X3 := hide (fun w => tr_.Descent none 0 0 [] w (by decide) (fun _ => ⟨rfl, rfl⟩) (Rd.none_ w))
  rw [show desc [] = -1 from rfl] at X3
  have F1 := hide (fun A c w hA hr => tr_.Fit A 2 c [-2147483648, 2147483647] 4 4 w rfl (.inl rfl) (by decide) hA hr (by intro v hv; simp at hv; omega))
  rw [show fT 4 [-2147483648, 2147483647] = true by decide] at F1
  have F2 := hide (fun A c w hA hr => tr_.Fit A 1 c [2147483648] 4 4 w rfl (.inl rfl) (by decide) hA hr (by intro v hv; simp at hv; omega))
  rw [show fT 4 [2147483648] = false by decide] at F2
  go_enter Try.func7, Try.ntmps7
  have rl := Rd.ints w 2 .i64 ([(-1), 5] : List Int) 2 rfl rfl
  replace hb := hide (bl_alloc hb.out (.cells #[.int .i64 (-1), .int .i64 5] 2))
  go_wp2_with fail
  refine (E1.out _ _ _ (fun h => by cases h) rl).mono ?_
  rintro e w1 ⟨A1, c1, rfl, o1, h1⟩
  replace hb := hide (bel_next hb.out h1)
  clear h1
  clear rl
  have oc1 := o1.cap
  have om1 : c1 ≤ 9223372036854775807 := by have := o1.capMax; simp [maxLen] at this; omega
  have nil1 := hide o1.nilcap
  replace o1 := hide o1
  go_wp2_with fail
  refine (D1.out _ _ _ nil1.out oc1 om1 o1.out.rd).mono ?_
  rintro e w2 ⟨A2, c2, rfl, o2, h1⟩
  replace hb := hide (bel_next hb.out h1)
  replace o1 := hide (o1.out.below h1)
  clear h1
  replace o2 := hide o2
  have rl := Rd.ints w2 5 .u8 ([128, 0, 0, 0, 0, 0, 0, 1] : List Int) 8 rfl rfl
  replace hb := hide (bl_alloc hb.out (.cells #[.int .u8 128, .int .u8 0, .int .u8 0, .int .u8 0, .int .u8 0, .int .u8 0, .int .u8 0, .int .u8 1] 5))
  replace o1 := hide (o1.out.alloc (.cells #[.int .u8 128, .int .u8 0, .int .u8 0, .int .u8 0, .int .u8 0, .int .u8 0, .int .u8 0, .int .u8 1] 5))
  replace o2 := hide (o2.out.alloc (.cells #[.int .u8 128, .int .u8 0, .int .u8 0, .int .u8 0, .int .u8 0, .int .u8 0, .int .u8 0, .int .u8 1] 5))
  go_wp2_with fail
  refine (D2.out _ _ _ (fun h => by cases h) (by decide) (by decide) rl).mono ?_
  rintro e w3 ⟨A3, c3, rfl, o3, h1⟩
  replace hb := hide (bel_next hb.out h1)
  replace o1 := hide (o1.out.below h1)
  replace o2 := hide (o2.out.below h1)
  clear h1
  clear rl
  replace o3 := hide o3
  have rl := Rd.ints w3 5 .u8 ([255, 255, 255, 255, 0, 0, 0, 5] : List Int) 8 rfl rfl
  replace hb := hide (bl_alloc hb.out (.cells #[.int .u8 255, .int .u8 255, .int .u8 255, .int .u8 255, .int .u8 0, .int .u8 0, .int .u8 0, .int .u8 5] 5))
  replace o1 := hide (o1.out.alloc (.cells #[.int .u8 255, .int .u8 255, .int .u8 255, .int .u8 255, .int .u8 0, .int .u8 0, .int .u8 0, .int .u8 5] 5))
  replace o2 := hide (o2.out.alloc (.cells #[.int .u8 255, .int .u8 255, .int .u8 255, .int .u8 255, .int .u8 0, .int .u8 0, .int .u8 0, .int .u8 5] 5))
  replace o3 := hide (o3.out.alloc (.cells #[.int .u8 255, .int .u8 255, .int .u8 255, .int .u8 255, .int .u8 0, .int .u8 0, .int .u8 0, .int .u8 5] 5))
  go_wp2_with fail
  refine (S1.out _ _ _ _ _ o1.out.rd rl).mono ?_
  rintro e w4 ⟨rfl, h1⟩
  replace hb := hide (bel_next hb.out h1)
  replace o1 := hide (o1.out.below h1)
  replace o2 := hide (o2.out.below h1)
  replace o3 := hide (o3.out.below h1)
  clear h1
  clear rl
  clear o1
  have rl := Rd.ints w4 2 .i64 ([(-1), 5] : List Int) 2 rfl rfl
  replace hb := hide (bl_alloc hb.out (.cells #[.int .i64 (-1), .int .i64 5] 2))
  replace o2 := hide (o2.out.alloc (.cells #[.int .i64 (-1), .int .i64 5] 2))
  replace o3 := hide (o3.out.alloc (.cells #[.int .i64 (-1), .int .i64 5] 2))
  go_wp2_with fail
  refine (S2.out _ _ _ _ _ o2.out.rd rl).mono ?_
  rintro e w5 ⟨rfl, h1⟩
  replace hb := hide (bel_next hb.out h1)
  replace o2 := hide (o2.out.below h1)
  replace o3 := hide (o3.out.below h1)
  clear h1
  clear rl
  clear o2
  have rl := Rd.ints w5 2 .i64 ([(-9223372036854775807)] : List Int) 1 rfl rfl
  replace hb := hide (bl_alloc hb.out (.cells #[.int .i64 (-9223372036854775807)] 2))
  replace o3 := hide (o3.out.alloc (.cells #[.int .i64 (-9223372036854775807)] 2))
  go_wp2_with fail
  refine (S3.out _ _ _ _ _ o3.out.rd rl).mono ?_
  rintro e w6 ⟨rfl, h1⟩
  replace hb := hide (bel_next hb.out h1)
  replace o3 := hide (o3.out.below h1)
  clear h1
  clear rl
  clear o3
  have rl := Rd.ints w6 2 .i64 ([1, 2, 2, 1] : List Int) 4 rfl rfl
  replace hb := hide (bl_alloc hb.out (.cells #[.int .i64 1, .int .i64 2, .int .i64 2, .int .i64 1] 2))
  go_wp2_with fail
  refine (X1.out _ _ _ (fun h => by cases h) rl).mono ?_
  rintro e w7 ⟨rfl, h1⟩
  replace hb := hide (bel_next hb.out h1)
  clear h1
  clear rl
  have rl := Rd.ints w7 2 .i64 ([(-9223372036854775808), 9223372036854775807] : List Int) 2 rfl rfl
  replace hb := hide (bl_alloc hb.out (.cells #[.int .i64 (-9223372036854775808), .int .i64 9223372036854775807] 2))
  go_wp2_with fail
  refine (X2.out _ _ _ (fun h => by cases h) rl).mono ?_
  rintro e w8 ⟨rfl, h1⟩
  replace hb := hide (bel_next hb.out h1)
  clear h1
  clear rl
  go_wp2_with fail
  refine (X3.out _).mono ?_
  rintro e w9 ⟨rfl, h1⟩
  replace hb := hide (bel_next hb.out h1)
  clear h1
  have rl := Rd.ints w9 2 .i64 ([(-2147483648), 2147483647] : List Int) 2 rfl rfl
  replace hb := hide (bl_alloc hb.out (.cells #[.int .i64 (-2147483648), .int .i64 2147483647] 2))
  go_wp2_with fail
  refine (F1.out _ _ _ (fun h => by cases h) rl).mono ?_
  rintro e w10 ⟨rfl, h1⟩
  replace hb := hide (bel_next hb.out h1)
  clear h1
  clear rl
  have rl := Rd.ints w10 2 .i64 ([2147483648] : List Int) 1 rfl rfl
  replace hb := hide (bl_alloc hb.out (.cells #[.int .i64 2147483648] 2))
  go_wp2_with fail
  refine (F2.out _ _ _ (fun h => by cases h) rl).mono ?_
  rintro e w11 ⟨rfl, h1⟩
  replace hb := hide (bel_next hb.out h1)
  clear h1
  clear rl
  go_wp2
  go_ret
  exact ⟨rfl, hb.out⟩
end l15_
end Go.Proofs.Ytknnobpnfnajiaa
