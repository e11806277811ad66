/-
  THE WALKS OF THE LAWS OF LAYER 10 (zoneinfolaw10): awake. No conditions.
-/
import Derived.Test.YtjeclakdgmjbjaaGreatDoorTf
import Derived.Test.YtjeclakdgmjbjaaGreatDoorPo
import Derived.Test.YtjeclakdgmjbjaaGreatDoorRef10c
import Derived.Deep.RegionHeld3
import Derived.Deep.DeepCutAuto
namespace Go.Proofs.YtjeclakdgmjbjaaGreatDoor
open Go.ChangeShapes Go.WideShapes Go.ChangeAt Go.RowKit
set_option linter.unusedVariables false
namespace l10_
set_option maxRecDepth 100000 in
set_option maxHeartbeats 8000000 in
theorem awake (w : World) (hT : Tp w) : Calls Tryz.prog 8 #[] w fun e w' => e = .returned (.bool true) ∧ Below w.heap.size w w' := by
  have HT := hide hT
  clear hT
  have C1 := hide (fun w hT => tf_.Canonical ⟨#[69, 83, 84, 43, 53, 58, 48, 48, 69, 68, 84, 52, 44, 77, 48, 51, 46, 50, 46, 48, 47, 48, 50, 44, 77, 49, 49, 46, 49, 46, 48]⟩ w hT (by decide))
  rw [show canR (ptParse (byt ⟨#[69, 83, 84, 43, 53, 58, 48, 48, 69, 68, 84, 52, 44, 77, 48, 51, 46, 50, 46, 48, 47, 48, 50, 44, 77, 49, 49, 46, 49, 46, 48]⟩)) = .tuple #[.string ⟨#[69, 83, 84, 53, 69, 68, 84, 44, 77, 51, 46, 50, 46, 48, 44, 77, 49, 49, 46, 49, 46, 48]⟩, .bool true] by rfl] at C1
  have C2 := hide (fun w hT => tf_.Canonical ⟨#[69, 83, 84, 53, 69, 68, 84]⟩ w hT (by decide))
  rw [show canR (ptParse (byt ⟨#[69, 83, 84, 53, 69, 68, 84]⟩)) = .tuple #[.string ⟨#[]⟩, .bool false] by rfl] at C2
  have D1 := hide (fun w hT => tf_.Day (1, 60, 0, 0, 0, 90000) w hT (by decide))
  rw [show mkS (dayC (1, 60, 0, 0, 0, 90000)) = ⟨#[74, 54, 48, 47, 50, 53]⟩ by rfl] at D1
  have F1 := hide (fun w hT => tf_.Format ⟨#[45, 48, 51]⟩ (-10800) false ⟨#[]⟩ (0) (0, 0, 0, 0, 0, 0) (0, 0, 0, 0, 0, 0) w hT (by decide))
  rw [show mkS (ruleF (byt ⟨#[45, 48, 51]⟩, (-10800 : Int), false, byt ⟨#[]⟩, (0 : Int), (0, 0, 0, 0, 0, 0), (0, 0, 0, 0, 0, 0))) = ⟨#[60, 45, 48, 51, 62, 51]⟩ by rfl] at F1
  have F2 := hide (fun w hT => tf_.Format ⟨#[65, 65, 65]⟩ (0) true ⟨#[66, 66, 66]⟩ (3600) (1, 60, 0, 0, 0, 90000) (2, 0, 0, 0, 0, 7200) w hT (by decide))
  rw [show mkS (ruleF (byt ⟨#[65, 65, 65]⟩, (0 : Int), true, byt ⟨#[66, 66, 66]⟩, (3600 : Int), (1, 60, 0, 0, 0, 90000), (2, 0, 0, 0, 0, 7200))) = ⟨#[65, 65, 65, 48, 66, 66, 66, 44, 74, 54, 48, 47, 50, 53, 44, 48]⟩ by rfl] at F2
  have X1 := hide (fun w => tf_.Extended ⟨#[65, 65, 65]⟩ (0) true ⟨#[66, 66, 66]⟩ (3600) (1, 60, 0, 0, 0, 90000) (2, 0, 0, 0, 0, 7200) w (by decide))
  rw [show (true && (lateD (1, 60, 0, 0, 0, 90000) || lateD (2, 0, 0, 0, 0, 7200))) = true by decide] at X1
  have X2 := hide (fun w => tf_.Extended ⟨#[45, 48, 51]⟩ (-10800) false ⟨#[]⟩ (0) (0, 0, 0, 0, 0, 0) (0, 0, 0, 0, 0, 0) w (by decide))
  rw [show (false && (lateD (0, 0, 0, 0, 0, 0) || lateD (0, 0, 0, 0, 0, 0))) = false by decide] at X2
  simp only [vrule, vday] at D1 F1 F2 X1 X2
  have hb := hide (Below.refl w.heap.size w)
  go_enter Tryz.func8, Tryz.ntmps8
  go_wp2_with fail
  refine (C1.out _ (by first | exact HT.out.below hb.out | exact HT.out.below (Hid.out (by assumption)))).mono ?_
  rintro e w1 ⟨rfl, h1⟩
  replace hb := hide (bel_next hb.out h1)
  clear h1
  go_wp2_with fail
  refine (C2.out _ (by first | exact HT.out.below hb.out | exact HT.out.below (Hid.out (by assumption)))).mono ?_
  rintro e w1 ⟨rfl, h1⟩
  replace hb := hide (bel_next hb.out h1)
  clear h1
  go_upto_region 6 with (refine wpList_store_row rfl 25 _ _ rfl _ _ rfl rfl _ _ (heap_alloc_last _ _) (by kernel_rfl) rfl (by simp [Value.oneCell']) ?_; rw [World.setRow_alloc_new])
  have bA := hide (Ro.new w1 #[.int .i64 1, .int .i64 60, .int .i64 0, .int .i64 0, .int .i64 0, .int .i64 90000] 23)
  replace bA := hide (bA.out.alloc (.cells #[.string ⟨#[45, 48, 51]⟩, .int .i64 (-10800), .bool false, .string ⟨#[]⟩, .int .i64 0, .int .i64 0, .int .i64 0, .int .i64 0, .int .i64 0, .int .i64 0, .int .i64 0, .int .i64 0, .int .i64 0, .int .i64 0, .int .i64 0, .int .i64 0, .int .i64 0] 25))
  replace bA := hide (bA.out.alloc (.cells #[.string ⟨#[65, 65, 65]⟩, .int .i64 (0), .bool true, .string ⟨#[66, 66, 66]⟩, .int .i64 3600, .int .i64 1, .int .i64 60, .int .i64 0, .int .i64 0, .int .i64 0, .int .i64 90000, .int .i64 2, .int .i64 0, .int .i64 0, .int .i64 0, .int .i64 0, .int .i64 7200] 25))
  have bB := hide (show Ro ((w1.alloc (.cells #[.int .i64 1, .int .i64 60, .int .i64 0, .int .i64 0, .int .i64 0, .int .i64 90000] 23)).alloc (.cells #[.string ⟨#[45, 48, 51]⟩, .int .i64 (-10800), .bool false, .string ⟨#[]⟩, .int .i64 0, .int .i64 0, .int .i64 0, .int .i64 0, .int .i64 0, .int .i64 0, .int .i64 0, .int .i64 0, .int .i64 0, .int .i64 0, .int .i64 0, .int .i64 0, .int .i64 0] 25)) (w1.heap.size + 1) #[.string ⟨#[45, 48, 51]⟩, .int .i64 (-10800), .bool false, .string ⟨#[]⟩, .int .i64 0, .int .i64 0, .int .i64 0, .int .i64 0, .int .i64 0, .int .i64 0, .int .i64 0, .int .i64 0, .int .i64 0, .int .i64 0, .int .i64 0, .int .i64 0, .int .i64 0] 25 by have := Ro.new (w1.alloc (.cells #[.int .i64 1, .int .i64 60, .int .i64 0, .int .i64 0, .int .i64 0, .int .i64 90000] 23)) #[.string ⟨#[45, 48, 51]⟩, .int .i64 (-10800), .bool false, .string ⟨#[]⟩, .int .i64 0, .int .i64 0, .int .i64 0, .int .i64 0, .int .i64 0, .int .i64 0, .int .i64 0, .int .i64 0, .int .i64 0, .int .i64 0, .int .i64 0, .int .i64 0, .int .i64 0] 25; simpa using this)
  replace bB := hide (bB.out.alloc (.cells #[.string ⟨#[65, 65, 65]⟩, .int .i64 (0), .bool true, .string ⟨#[66, 66, 66]⟩, .int .i64 3600, .int .i64 1, .int .i64 60, .int .i64 0, .int .i64 0, .int .i64 0, .int .i64 90000, .int .i64 2, .int .i64 0, .int .i64 0, .int .i64 0, .int .i64 0, .int .i64 7200] 25))
  have bC := hide (show Ro (((w1.alloc (.cells #[.int .i64 1, .int .i64 60, .int .i64 0, .int .i64 0, .int .i64 0, .int .i64 90000] 23)).alloc (.cells #[.string ⟨#[45, 48, 51]⟩, .int .i64 (-10800), .bool false, .string ⟨#[]⟩, .int .i64 0, .int .i64 0, .int .i64 0, .int .i64 0, .int .i64 0, .int .i64 0, .int .i64 0, .int .i64 0, .int .i64 0, .int .i64 0, .int .i64 0, .int .i64 0, .int .i64 0] 25)).alloc (.cells #[.string ⟨#[65, 65, 65]⟩, .int .i64 (0), .bool true, .string ⟨#[66, 66, 66]⟩, .int .i64 3600, .int .i64 1, .int .i64 60, .int .i64 0, .int .i64 0, .int .i64 0, .int .i64 90000, .int .i64 2, .int .i64 0, .int .i64 0, .int .i64 0, .int .i64 0, .int .i64 7200] 25)) (w1.heap.size + 1 + 1) #[.string ⟨#[65, 65, 65]⟩, .int .i64 (0), .bool true, .string ⟨#[66, 66, 66]⟩, .int .i64 3600, .int .i64 1, .int .i64 60, .int .i64 0, .int .i64 0, .int .i64 0, .int .i64 90000, .int .i64 2, .int .i64 0, .int .i64 0, .int .i64 0, .int .i64 0, .int .i64 7200] 25 by have := Ro.new ((w1.alloc (.cells #[.int .i64 1, .int .i64 60, .int .i64 0, .int .i64 0, .int .i64 0, .int .i64 90000] 23)).alloc (.cells #[.string ⟨#[45, 48, 51]⟩, .int .i64 (-10800), .bool false, .string ⟨#[]⟩, .int .i64 0, .int .i64 0, .int .i64 0, .int .i64 0, .int .i64 0, .int .i64 0, .int .i64 0, .int .i64 0, .int .i64 0, .int .i64 0, .int .i64 0, .int .i64 0, .int .i64 0] 25)) #[.string ⟨#[65, 65, 65]⟩, .int .i64 (0), .bool true, .string ⟨#[66, 66, 66]⟩, .int .i64 3600, .int .i64 1, .int .i64 60, .int .i64 0, .int .i64 0, .int .i64 0, .int .i64 90000, .int .i64 2, .int .i64 0, .int .i64 0, .int .i64 0, .int .i64 0, .int .i64 7200] 25; simpa using this)
  replace hb := hide (bl_alloc (bl_alloc (bl_alloc hb.out (.cells #[.int .i64 1, .int .i64 60, .int .i64 0, .int .i64 0, .int .i64 0, .int .i64 90000] 23)) (.cells #[.string ⟨#[45, 48, 51]⟩, .int .i64 (-10800), .bool false, .string ⟨#[]⟩, .int .i64 0, .int .i64 0, .int .i64 0, .int .i64 0, .int .i64 0, .int .i64 0, .int .i64 0, .int .i64 0, .int .i64 0, .int .i64 0, .int .i64 0, .int .i64 0, .int .i64 0] 25)) (.cells #[.string ⟨#[65, 65, 65]⟩, .int .i64 (0), .bool true, .string ⟨#[66, 66, 66]⟩, .int .i64 3600, .int .i64 1, .int .i64 60, .int .i64 0, .int .i64 0, .int .i64 0, .int .i64 90000, .int .i64 2, .int .i64 0, .int .i64 0, .int .i64 0, .int .i64 0, .int .i64 7200] 25))
  generalize ((w1.alloc (.cells #[.int .i64 1, .int .i64 60, .int .i64 0, .int .i64 0, .int .i64 0, .int .i64 90000] 23)).alloc (.cells #[.string ⟨#[45, 48, 51]⟩, .int .i64 (-10800), .bool false, .string ⟨#[]⟩, .int .i64 0, .int .i64 0, .int .i64 0, .int .i64 0, .int .i64 0, .int .i64 0, .int .i64 0, .int .i64 0, .int .i64 0, .int .i64 0, .int .i64 0, .int .i64 0, .int .i64 0] 25)).alloc (.cells #[.string ⟨#[65, 65, 65]⟩, .int .i64 (0), .bool true, .string ⟨#[66, 66, 66]⟩, .int .i64 3600, .int .i64 1, .int .i64 60, .int .i64 0, .int .i64 0, .int .i64 0, .int .i64 90000, .int .i64 2, .int .i64 0, .int .i64 0, .int .i64 0, .int .i64 0, .int .i64 7200] 25) = w2 at *
  obtain ⟨x0, _⟩ := ro_cf bA.out 0 _ rfl; obtain ⟨x1, _⟩ := ro_cf bA.out 1 _ rfl; obtain ⟨x2, _⟩ := ro_cf bA.out 2 _ rfl; obtain ⟨x3, _⟩ := ro_cf bA.out 3 _ rfl; obtain ⟨x4, _⟩ := ro_cf bA.out 4 _ rfl; obtain ⟨x5, _⟩ := ro_cf bA.out 5 _ rfl
  go_wp2_with fail
  refine (D1.out _ (by first | exact HT.out.below hb.out | exact HT.out.below (Hid.out (by assumption)))).mono ?_
  rintro e w1 ⟨rfl, h1⟩
  replace bB := hide (bB.out.below h1)
  replace bC := hide (bC.out.below h1)
  replace hb := hide (bel_next hb.out h1)
  clear h1
  clear bA x0 x1 x2 x3 x4 x5
  go_wp2_with (refine load_row_g (by rfl) 25 _ rfl _ rfl _ _ _ bB.out Tryz.underlying25 rfl (by kernel_rfl) ?_)
  refine (F1.out _ (by first | exact HT.out.below hb.out | exact HT.out.below (Hid.out (by assumption)))).mono ?_
  rintro e w1 ⟨rfl, h1⟩
  replace bB := hide (bB.out.below h1)
  replace bC := hide (bC.out.below h1)
  replace hb := hide (bel_next hb.out h1)
  clear h1
  go_wp2_with (refine load_row_g (by rfl) 25 _ rfl _ rfl _ _ _ bC.out Tryz.underlying25 rfl (by kernel_rfl) ?_)
  refine (F2.out _ (by first | exact HT.out.below hb.out | exact HT.out.below (Hid.out (by assumption)))).mono ?_
  rintro e w1 ⟨rfl, h1⟩
  replace bB := hide (bB.out.below h1)
  replace bC := hide (bC.out.below h1)
  replace hb := hide (bel_next hb.out h1)
  clear h1
  go_wp2_with (refine load_row_g (by rfl) 25 _ rfl _ rfl _ _ _ bC.out Tryz.underlying25 rfl (by kernel_rfl) ?_)
  refine (X1.out _).mono ?_
  rintro e w1 ⟨rfl, h1⟩
  replace bB := hide (bB.out.below h1)
  replace hb := hide (bel_next hb.out h1)
  clear h1
  clear bC
  go_wp2_with (refine load_row_g (by rfl) 25 _ rfl _ rfl _ _ _ bB.out Tryz.underlying25 rfl (by kernel_rfl) ?_)
  refine (X2.out _).mono ?_
  rintro e w1 ⟨rfl, h1⟩
  replace hb := hide (bel_next hb.out h1)
  clear h1
  go_wp2
  go_ret
  exact ⟨rfl, hb.out⟩
end l10_
end Go.Proofs.YtjeclakdgmjbjaaGreatDoor
