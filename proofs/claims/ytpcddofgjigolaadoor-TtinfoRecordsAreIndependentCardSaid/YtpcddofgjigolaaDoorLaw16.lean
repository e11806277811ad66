/-
  THE WALKS OF THE LAWS OF LAYER 16 (zoneinfolaw16): awake. No conditions.
-/
import Derived.Test.YtpcddofgjigolaaDoorRef16
import Derived.Test.YtpcddofgjigolaaDoorTt
import Derived.Deep.RegionHeld3
import Derived.Deep.DeepCutAuto
namespace Go.Proofs.YtpcddofgjigolaaDoor
open Go.ChangeShapes Go.WideShapes Go.ChangeAt Go.RowKit
set_option linter.unusedVariables false
set_option maxRecDepth 100000
theorem aw16_e : eTT [(-18000, false, 4)] = [255, 255, 185, 176, 0, 4] := by decide
theorem aw16_b1 : Bytes [255, 255, 185, 176, 0, 4] := bytes_of_mem (by decide)
theorem aw16_b2 : Bytes [0, 0, 0, 0, 2, 0] := bytes_of_mem (by decide)
theorem aw16_f1 : fl6 [255, 255, 185, 176, 0, 4] 1 = true := by decide
theorem aw16_f2 : fl6 [0, 0, 0, 0, 2, 0] 1 = false := by decide
theorem aw16_d1 : dTT [255, 255, 185, 176, 0, 4] 1 = [(-18000, false, 4)] := by decide
namespace l16_
set_option maxHeartbeats 4000000 in
theorem awake (w : World) (hT : Tt w) : Calls Tryd.prog 7 #[] w fun e w' => e = .returned (.bool true) ∧ Below w.heap.size w w' := by
  have HT := hide hT
  clear hT
  have hb := hide (bl_new w (.cells #[.int .i32 (-18000), .bool false, .int .u8 4] 35))
  have bx := hide (Bx.new w [.int .i32 (-18000), .bool false, .int .u8 4] 35)
  have E1 := hide (fun A c w hA hr => tt_.Encode A 1 c 6 [(-18000, false, 4)] w (by decide) rfl hA hr (by intro t ht; simp at ht; subst ht; unfold ttOk; decide))
  rw [aw16_e] at E1
  have D1 := hide (fun A c w hT hA hc hcm hr => tt_.Decode A 6 c 1 [255, 255, 185, 176, 0, 4] w hT (by decide) rfl hA hc hcm hr aw16_b1)
  rw [aw16_f1, aw16_d1] at D1
  have D2 := hide (fun A c w hT hA hc hcm hr => tt_.Decode A 6 c 1 [0, 0, 0, 0, 2, 0] w hT (by decide) rfl hA hc hcm hr aw16_b2)
  rw [aw16_f2] at D2
  have S1 := hide (fun A A' c c' w hr hr' => r1_.Same A A' 6 c 6 c' [255, 255, 185, 176, 0, 4] w (by decide) hr hr')
  have S2 := hide (fun A A' c c' w hr hr' => r16_.Same A A' 1 1 c c' [(-18000, false, 4)] [(-18000, false, 4)] w (by decide) (by decide) hr hr')
  have K1 := hide (fun A c w hA hr => tt_.Check A 1 c [(-18000, false, 4)] 5 w (by decide) hA hr (by intro t ht; simp at ht; subst ht; unfold ttOk; decide) (by decide) (by decide))
  rw [show chk [(-18000, false, 4)] 5 = 0 from rfl] at K1
  have K2 := hide (fun A c w hA hr => tt_.Check A 1 c [(-18000, false, 4)] 4 w (by decide) hA hr (by intro t ht; simp at ht; subst ht; unfold ttOk; decide) (by decide) (by decide))
  rw [show chk [(-18000, false, 4)] 4 = 8 from rfl] at K2
  have K3 := hide (fun A c w hA hr => tt_.Check A 2 c [(0, false, 9), (-2147483648, false, 0)] 1 w (by decide) hA hr (by intro t ht; simp at ht; unfold ttOk; rcases ht with rfl | rfl <;> decide) (by decide) (by decide))
  rw [show chk [(0, false, 9), (-2147483648, false, 0)] 1 = 9 from rfl] at K3
  have P1 := hide (fun w => tt_.Placeholder 0 false 7 ⟨#[45, 48, 48]⟩ w)
  have P2 := hide (fun w => tt_.Placeholder (-18000) false 4 ⟨#[45, 48, 48]⟩ w)
  have P3 := hide (fun w => tt_.Placeholder 0 false 0 ⟨#[85, 84, 67]⟩ w)
  go_enter Tryd.func7, Tryd.ntmps7
  go_upto_region 2 with fail
  generalize (w.alloc (.cells #[.int .i32 (-18000), .bool false, .int .u8 4] 35)) = w0 at *
  have q0 := bx.out.2.1 0 _ rfl
  have q1 := bx.out.2.1 1 _ rfl
  have q2 := bx.out.2.1 2 _ rfl
  have rl := show Rk 3 (w0.alloc (.cells #[.int .i32 (-18000), .bool false, .int .u8 4] 35)) (some ⟨w0.heap.size, 0, none⟩) 1 (tcs ([((-18000), false, 4)] : List TT)) from (Ok.lit 3 w0 35 (tcs ([((-18000), false, 4)] : List TT)) 1 rfl (by simp [maxLen])).rd
  replace hb := hide (bl_alloc hb.out (.cells #[.int .i32 (-18000), .bool false, .int .u8 4] 35))
  replace bx := hide (bx.out.alloc (.cells #[.int .i32 (-18000), .bool false, .int .u8 4] 35))
  go_wp2_with fail
  clear q0 q1 q2
  refine (E1.out _ _ _ (fun h => by cases h) rl).mono ?_
  rintro e w1 ⟨A1, c1, rfl, o1, h1⟩
  replace hb := hide (bel_next hb.out h1)
  replace bx := hide (bx.out.below h1)
  clear h1
  clear rl
  have oc1 := o1.cap
  have om1 : c1 ≤ 9223372036854775807 := by have := o1.capMax; simp [maxLen] at this; omega
  have nil1 := hide o1.nilcap
  replace o1 := hide o1
  go_wp2_with fail
  refine (D1.out _ _ _ (HT.out.below hb.out) nil1.out oc1 om1 o1.out.rd).mono ?_
  rintro e w2 ⟨⟨-, A2, c2, rfl, o2⟩ | ⟨h, -⟩, h1⟩
  rotate_left
  · cases h
  replace hb := hide (bel_next hb.out h1)
  replace bx := hide (bx.out.below h1)
  replace o1 := hide (o1.out.below h1)
  clear h1
  have nil2 := hide o2.nilcap
  replace o2 := hide o2
  have rl := Rd.ints w2 5 .u8 ([0, 0, 0, 0, 2, 0] : List Int) 6 rfl rfl
  replace hb := hide (bl_alloc hb.out (.cells #[.int .u8 0, .int .u8 0, .int .u8 0, .int .u8 0, .int .u8 2, .int .u8 0] 5))
  replace bx := hide (bx.out.alloc (.cells #[.int .u8 0, .int .u8 0, .int .u8 0, .int .u8 0, .int .u8 2, .int .u8 0] 5))
  replace o1 := hide (o1.out.alloc (.cells #[.int .u8 0, .int .u8 0, .int .u8 0, .int .u8 0, .int .u8 2, .int .u8 0] 5))
  replace o2 := hide (o2.out.alloc (.cells #[.int .u8 0, .int .u8 0, .int .u8 0, .int .u8 0, .int .u8 2, .int .u8 0] 5))
  go_wp2_with fail
  refine (D2.out _ _ _ (HT.out.below hb.out) (fun h => by cases h) (by decide) (by decide) rl).mono ?_
  rintro e w3 ⟨⟨h, -⟩ | ⟨-, rfl⟩, h1⟩
  · cases h
  replace hb := hide (bel_next hb.out h1)
  replace bx := hide (bx.out.below h1)
  replace o1 := hide (o1.out.below h1)
  replace o2 := hide (o2.out.below h1)
  clear h1
  clear rl
  have rl := Rd.ints w3 5 .u8 ([255, 255, 185, 176, 0, 4] : List Int) 6 rfl rfl
  replace hb := hide (bl_alloc hb.out (.cells #[.int .u8 255, .int .u8 255, .int .u8 185, .int .u8 176, .int .u8 0, .int .u8 4] 5))
  replace bx := hide (bx.out.alloc (.cells #[.int .u8 255, .int .u8 255, .int .u8 185, .int .u8 176, .int .u8 0, .int .u8 4] 5))
  replace o1 := hide (o1.out.alloc (.cells #[.int .u8 255, .int .u8 255, .int .u8 185, .int .u8 176, .int .u8 0, .int .u8 4] 5))
  replace o2 := hide (o2.out.alloc (.cells #[.int .u8 255, .int .u8 255, .int .u8 185, .int .u8 176, .int .u8 0, .int .u8 4] 5))
  go_wp2_with fail
  refine (S1.out _ _ _ _ _ o1.out.rd rl).mono ?_
  rintro e w4 ⟨rfl, h1⟩
  replace hb := hide (bel_next hb.out h1)
  replace bx := hide (bx.out.below h1)
  replace o1 := hide (o1.out.below h1)
  replace o2 := hide (o2.out.below h1)
  clear h1
  clear rl
  clear o1
  have q0 := bx.out.2.1 0 _ rfl
  have q1 := bx.out.2.1 1 _ rfl
  have q2 := bx.out.2.1 2 _ rfl
  have rl := show Rk 3 (w4.alloc (.cells #[.int .i32 (-18000), .bool false, .int .u8 4] 35)) (some ⟨w4.heap.size, 0, none⟩) 1 (tcs ([((-18000), false, 4)] : List TT)) from (Ok.lit 3 w4 35 (tcs ([((-18000), false, 4)] : List TT)) 1 rfl (by simp [maxLen])).rd
  replace hb := hide (bl_alloc hb.out (.cells #[.int .i32 (-18000), .bool false, .int .u8 4] 35))
  replace bx := hide (bx.out.alloc (.cells #[.int .i32 (-18000), .bool false, .int .u8 4] 35))
  replace o2 := hide (o2.out.alloc (.cells #[.int .i32 (-18000), .bool false, .int .u8 4] 35))
  go_wp2_with fail
  clear q0 q1 q2
  refine (S2.out _ _ _ _ _ o2.out.rd rl).mono ?_
  rintro e w5 ⟨rfl, h1⟩
  replace hb := hide (bel_next hb.out h1)
  replace bx := hide (bx.out.below h1)
  replace o2 := hide (o2.out.below h1)
  clear h1
  clear rl
  go_wp2_with fail
  refine (K1.out _ _ _ nil2.out o2.out.rd).mono ?_
  rintro e w6 ⟨rfl, h1⟩
  replace hb := hide (bel_next hb.out h1)
  replace bx := hide (bx.out.below h1)
  replace o2 := hide (o2.out.below h1)
  clear h1
  go_wp2_with fail
  refine (K2.out _ _ _ nil2.out o2.out.rd).mono ?_
  rintro e w7 ⟨rfl, h1⟩
  replace hb := hide (bel_next hb.out h1)
  replace bx := hide (bx.out.below h1)
  replace o2 := hide (o2.out.below h1)
  clear h1
  clear o2
  have rl := show Rk 3 (w7.alloc (.cells #[.int .i32 0, .bool false, .int .u8 9, .int .i32 (-2147483648), .bool false, .int .u8 0] 35)) (some ⟨w7.heap.size, 0, none⟩) 2 (tcs ([(0, false, 9), ((-2147483648), false, 0)] : List TT)) from (Ok.lit 3 w7 35 (tcs ([(0, false, 9), ((-2147483648), false, 0)] : List TT)) 2 rfl (by simp [maxLen])).rd
  replace hb := hide (bl_alloc hb.out (.cells #[.int .i32 0, .bool false, .int .u8 9, .int .i32 (-2147483648), .bool false, .int .u8 0] 35))
  replace bx := hide (bx.out.alloc (.cells #[.int .i32 0, .bool false, .int .u8 9, .int .i32 (-2147483648), .bool false, .int .u8 0] 35))
  go_wp2_with fail
  refine (K3.out _ _ _ (fun h => by cases h) rl).mono ?_
  rintro e w8 ⟨rfl, h1⟩
  replace hb := hide (bel_next hb.out h1)
  replace bx := hide (bx.out.below h1)
  clear h1
  clear rl
  go_wp2_with fail
  refine (P1.out _).mono ?_
  rintro e w9 ⟨rfl, h1⟩
  replace hb := hide (bel_next hb.out h1)
  replace bx := hide (bx.out.below h1)
  clear h1
  have q0 := bx.out.2.1 0 _ rfl
  have q1 := bx.out.2.1 1 _ rfl
  have q2 := bx.out.2.1 2 _ rfl
  go_wp2_with fail
  clear q0 q1 q2
  refine (P2.out _).mono ?_
  rintro e w10 ⟨rfl, h1⟩
  replace hb := hide (bel_next hb.out h1)
  replace bx := hide (bx.out.below h1)
  clear h1
  go_wp2_with fail
  refine (P3.out _).mono ?_
  rintro e w11 ⟨rfl, h1⟩
  replace hb := hide (bel_next hb.out h1)
  replace bx := hide (bx.out.below h1)
  clear h1
  go_wp2
  go_ret
  exact ⟨rfl, hb.out⟩
end l16_
end Go.Proofs.YtpcddofgjigolaaDoor
