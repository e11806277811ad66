/-
  THE WALKS OF THE LAWS OF LAYER 8 (zoneinfolaw08): awake. No conditions.
-/
import Derived.Test.YtgbojphbodijbaaDoorHp
namespace Go.Proofs.YtgbojphbodijbaaDoor
open Go.ChangeShapes Go.WideShapes Go.ChangeAt Go.RowKit
set_option linter.unusedVariables false
namespace l8_
set_option maxRecDepth 100000 in
set_option maxHeartbeats 4000000 in
theorem awake (w : World) (hT : Tp w) : Calls Tryd.prog 8 #[] w fun e w' => e = .returned (.bool true) ∧ Below w.heap.size w w' := by
  have P0 := hide (fun w => hm_.Parse ⟨#[45, 51, 58, 51, 48, 44, 120]⟩ w (by decide))
  rw [show hmsRes (hmsParse (byt ⟨#[45, 51, 58, 51, 48, 44, 120]⟩)) = .tuple #[.int .i64 (-12600), .int .i64 5, .bool true] by rfl] at P0
  have P1 := hide (fun w => hm_.Parse ⟨#[43, 48, 50, 58, 54, 49]⟩ w (by decide))
  rw [show hmsRes (hmsParse (byt ⟨#[43, 48, 50, 58, 54, 49]⟩)) = .tuple #[.int .i64 (7200), .int .i64 3, .bool true] by rfl] at P1
  have P2 := hide (fun w => hm_.Parse ⟨#[49, 54, 56]⟩ w (by decide))
  rw [show hmsRes (hmsParse (byt ⟨#[49, 54, 56]⟩)) = .tuple #[.int .i64 (0), .int .i64 0, .bool false] by rfl] at P2
  have P3 := hide (fun w => hm_.Parse ⟨#[45]⟩ w (by decide))
  rw [show hmsRes (hmsParse (byt ⟨#[45]⟩)) = .tuple #[.int .i64 (0), .int .i64 0, .bool false] by rfl] at P3
  have P4 := hide (fun w => hm_.Parse ⟨#[48, 48, 48, 49]⟩ w (by decide))
  rw [show hmsRes (hmsParse (byt ⟨#[48, 48, 48, 49]⟩)) = .tuple #[.int .i64 (0), .int .i64 0, .bool false] by rfl] at P4
  have P5 := hide (fun w => hm_.Parse ⟨#[49, 54, 55, 58, 53, 57, 58, 53, 57, 58, 48, 48]⟩ w (by decide))
  rw [show hmsRes (hmsParse (byt ⟨#[49, 54, 55, 58, 53, 57, 58, 53, 57, 58, 48, 48]⟩)) = .tuple #[.int .i64 (604799), .int .i64 9, .bool true] by rfl] at P5
  have F0 := hide (fun w hT => hm_.Format (-12600) w hT (by decide) (by decide))
  rw [show mkS (hmsFmt (-12600)) = ⟨#[45, 51, 58, 51, 48]⟩ by rfl] at F0
  have F1 := hide (fun w hT => hm_.Format (0) w hT (by decide) (by decide))
  rw [show mkS (hmsFmt (0)) = ⟨#[48]⟩ by rfl] at F1
  have F2 := hide (fun w hT => hm_.Format (3601) w hT (by decide) (by decide))
  rw [show mkS (hmsFmt (3601)) = ⟨#[49, 58, 48, 48, 58, 48, 49]⟩ by rfl] at F2
  have F3 := hide (fun w hT => hm_.Format (604799) w hT (by decide) (by decide))
  rw [show mkS (hmsFmt (604799)) = ⟨#[49, 54, 55, 58, 53, 57, 58, 53, 57]⟩ by rfl] at F3
  have V0 := hide (fun w => hm_.InRange (-604799) w (by decide) (by decide))
  rw [show (decide (-604800 < (-604799 : Int)) && decide ((-604799 : Int) < 604800)) = true by rfl] at V0
  have V1 := hide (fun w => hm_.InRange (604800) w (by decide) (by decide))
  rw [show (decide (-604800 < (604800 : Int)) && decide ((604800 : Int) < 604800)) = false by rfl] at V1
  have HT := hide hT
  clear hT
  have hb := hide (Below.refl w.heap.size w)
  go_enter Tryd.func8, Tryd.ntmps8
  go_wp2_with fail
  refine (P0.out _).mono ?_
  rintro e w1 ⟨rfl, h1⟩
  replace hb := hide (bel_next hb.out h1)
  clear h1
  go_wp2_with fail
  refine (P1.out _).mono ?_
  rintro e w1 ⟨rfl, h1⟩
  replace hb := hide (bel_next hb.out h1)
  clear h1
  go_wp2_with fail
  refine (P2.out _).mono ?_
  rintro e w1 ⟨rfl, h1⟩
  replace hb := hide (bel_next hb.out h1)
  clear h1
  go_wp2_with fail
  refine (P3.out _).mono ?_
  rintro e w1 ⟨rfl, h1⟩
  replace hb := hide (bel_next hb.out h1)
  clear h1
  go_wp2_with fail
  refine (P4.out _).mono ?_
  rintro e w1 ⟨rfl, h1⟩
  replace hb := hide (bel_next hb.out h1)
  clear h1
  go_wp2_with fail
  refine (P5.out _).mono ?_
  rintro e w1 ⟨rfl, h1⟩
  replace hb := hide (bel_next hb.out h1)
  clear h1
  go_wp2_with fail
  refine (F0.out _ (HT.out.below hb.out)).mono ?_
  rintro e w1 ⟨rfl, h1⟩
  replace hb := hide (bel_next hb.out h1)
  clear h1
  go_wp2_with fail
  refine (F1.out _ (HT.out.below hb.out)).mono ?_
  rintro e w1 ⟨rfl, h1⟩
  replace hb := hide (bel_next hb.out h1)
  clear h1
  go_wp2_with fail
  refine (F2.out _ (HT.out.below hb.out)).mono ?_
  rintro e w1 ⟨rfl, h1⟩
  replace hb := hide (bel_next hb.out h1)
  clear h1
  go_wp2_with fail
  refine (F3.out _ (HT.out.below hb.out)).mono ?_
  rintro e w1 ⟨rfl, h1⟩
  replace hb := hide (bel_next hb.out h1)
  clear h1
  go_wp2_with fail
  refine (V0.out _).mono ?_
  rintro e w1 ⟨rfl, h1⟩
  replace hb := hide (bel_next hb.out h1)
  clear h1
  go_wp2_with fail
  refine (V1.out _).mono ?_
  rintro e w1 ⟨rfl, h1⟩
  replace hb := hide (bel_next hb.out h1)
  clear h1
  go_wp2
  go_ret
  exact ⟨rfl, hb.out⟩
end l8_
end Go.Proofs.YtgbojphbodijbaaDoor
