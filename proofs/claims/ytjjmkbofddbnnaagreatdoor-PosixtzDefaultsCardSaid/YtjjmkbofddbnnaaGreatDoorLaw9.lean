/-
  THE WALKS OF THE LAWS OF LAYER 9 (zoneinfolaw09): awake. No conditions.
-/
import Derived.Test.YtjjmkbofddbnnaaGreatDoorPo
import Derived.Deep.RegionHeld3
import Derived.Deep.DeepCutAuto
namespace Go.Proofs.YtjjmkbofddbnnaaGreatDoor
open Go.ChangeShapes Go.WideShapes Go.ChangeAt Go.RowKit
set_option linter.unusedVariables false
namespace l9_
set_option maxRecDepth 100000 in
set_option maxHeartbeats 8000000 in
theorem awake (w : World) : Calls Tryz.prog 6 #[] w fun e w' => e = .returned (.bool true) ∧ Below w.heap.size w w' := by
  have P0 := hide (fun w => po_.Parse ⟨#[69, 83, 84, 53, 69, 68, 84, 44, 77, 51, 46, 50, 46, 48, 44, 77, 49, 49, 46, 49, 46, 48]⟩ w (by decide))
  rw [show ptRes (ptParse (byt ⟨#[69, 83, 84, 53, 69, 68, 84, 44, 77, 51, 46, 50, 46, 48, 44, 77, 49, 49, 46, 49, 46, 48]⟩)) = .tuple #[.agg #[.string ⟨#[69, 83, 84]⟩, .int .i64 (-18000), .bool true, .string ⟨#[69, 68, 84]⟩, .int .i64 (-14400), .int .i64 (3), .int .i64 (0), .int .i64 (3), .int .i64 (2), .int .i64 (0), .int .i64 (7200), .int .i64 (3), .int .i64 (0), .int .i64 (11), .int .i64 (1), .int .i64 (0), .int .i64 (7200)], .int .i64 0, .int .i64 0] by rfl] at P0
  have P1 := hide (fun w => po_.Parse ⟨#[60, 43, 48, 51, 51, 48, 62, 45, 51, 58, 51, 48]⟩ w (by decide))
  rw [show ptRes (ptParse (byt ⟨#[60, 43, 48, 51, 51, 48, 62, 45, 51, 58, 51, 48]⟩)) = .tuple #[.agg #[.string ⟨#[43, 48, 51, 51, 48]⟩, .int .i64 (12600), .bool false, .string ⟨#[]⟩, .int .i64 (0), .int .i64 (0), .int .i64 (0), .int .i64 (0), .int .i64 (0), .int .i64 (0), .int .i64 (0), .int .i64 (0), .int .i64 (0), .int .i64 (0), .int .i64 (0), .int .i64 (0), .int .i64 (0)], .int .i64 0, .int .i64 0] by rfl] at P1
  have P2 := hide (fun w => po_.Parse ⟨#[69, 83, 84, 53, 69, 68, 84]⟩ w (by decide))
  rw [show ptRes (ptParse (byt ⟨#[69, 83, 84, 53, 69, 68, 84]⟩)) = .tuple #[.agg #[.string ⟨#[]⟩, .int .i64 (0), .bool false, .string ⟨#[]⟩, .int .i64 (0), .int .i64 (0), .int .i64 (0), .int .i64 (0), .int .i64 (0), .int .i64 (0), .int .i64 (0), .int .i64 (0), .int .i64 (0), .int .i64 (0), .int .i64 (0), .int .i64 (0), .int .i64 (0)], .int .i64 14, .int .i64 7] by rfl] at P2
  have P3 := hide (fun w => po_.Parse ⟨#[69, 83, 84, 53, 69, 68, 84, 44, 77, 51, 46, 50, 46, 48, 44, 77, 49, 51, 46, 49, 46, 48]⟩ w (by decide))
  rw [show ptRes (ptParse (byt ⟨#[69, 83, 84, 53, 69, 68, 84, 44, 77, 51, 46, 50, 46, 48, 44, 77, 49, 51, 46, 49, 46, 48]⟩)) = .tuple #[.agg #[.string ⟨#[]⟩, .int .i64 (0), .bool false, .string ⟨#[]⟩, .int .i64 (0), .int .i64 (0), .int .i64 (0), .int .i64 (0), .int .i64 (0), .int .i64 (0), .int .i64 (0), .int .i64 (0), .int .i64 (0), .int .i64 (0), .int .i64 (0), .int .i64 (0), .int .i64 (0)], .int .i64 14, .int .i64 15] by rfl] at P3
  have P4 := hide (fun w => po_.Parse ⟨#[69, 83, 84, 50, 53]⟩ w (by decide))
  rw [show ptRes (ptParse (byt ⟨#[69, 83, 84, 50, 53]⟩)) = .tuple #[.agg #[.string ⟨#[]⟩, .int .i64 (0), .bool false, .string ⟨#[]⟩, .int .i64 (0), .int .i64 (0), .int .i64 (0), .int .i64 (0), .int .i64 (0), .int .i64 (0), .int .i64 (0), .int .i64 (0), .int .i64 (0), .int .i64 (0), .int .i64 (0), .int .i64 (0), .int .i64 (0)], .int .i64 14, .int .i64 3] by rfl] at P4
  have D0 := hide (fun w => po_.Day ⟨#[74, 51, 54, 53, 47, 50, 53, 44, 120]⟩ w (by decide))
  rw [show ptDayRes (ptDay (byt ⟨#[74, 51, 54, 53, 47, 50, 53, 44, 120]⟩)) = .tuple #[.agg #[.int .i64 1, .int .i64 365, .int .i64 0, .int .i64 0, .int .i64 0, .int .i64 90000], .int .i64 7, .bool true] by rfl] at D0
  have V1 := hide (fun w => po_.Valid ⟨#[69, 83, 84]⟩ (-18000) true ⟨#[69, 68, 84]⟩ (-14400) (3, 0, 3, 2, 0, 7200) (3, 0, 11, 1, 0, 7200) w (by decide) (by decide) (by decide) (by decide) (by decide) (by decide))
  rw [show decide (prOk (byt ⟨#[69, 83, 84]⟩, (-18000 : Int), true, byt ⟨#[69, 68, 84]⟩, (-14400 : Int), (3, 0, 3, 2, 0, 7200), (3, 0, 11, 1, 0, 7200))) = true by decide] at V1
  have V2 := hide (fun w => po_.Valid ⟨#[]⟩ (0) false ⟨#[]⟩ (0) (0, 0, 0, 0, 0, 0) (0, 0, 0, 0, 0, 0) w (by decide) (by decide) (by decide) (by decide) (by decide) (by decide))
  rw [show decide (prOk (byt ⟨#[]⟩, (0 : Int), false, byt ⟨#[]⟩, (0 : Int), (0, 0, 0, 0, 0, 0), (0, 0, 0, 0, 0, 0))) = false by decide] at V2
  simp only [vrule] at V1 V2
  have q1 : ∀ w : World, (binOp .eql 23 (.agg #[.int .i64 3, .int .i64 0, .int .i64 3, .int .i64 2, .int .i64 0, .int .i64 7200]) (.agg #[.int .i64 3, .int .i64 0, .int .i64 3, .int .i64 2, .int .i64 0, .int .i64 7200])).run Tryz.prog w = .ok (.bool true) w := fun _ => by kernel_rfl
  have q2 : ∀ w : World, (binOp .eql 29 (.agg #[.string ⟨#[43, 48, 51, 51, 48]⟩, .int .i64 (12600), .bool false, .string ⟨#[]⟩, .int .i64 (0), .int .i64 (0), .int .i64 (0), .int .i64 (0), .int .i64 (0), .int .i64 (0), .int .i64 (0), .int .i64 (0), .int .i64 (0), .int .i64 (0), .int .i64 (0), .int .i64 (0), .int .i64 (0)]) (.agg #[.string ⟨#[43, 48, 51, 51, 48]⟩, .int .i64 (12600), .bool false, .string ⟨#[]⟩, .int .i64 (0), .int .i64 (0), .int .i64 (0), .int .i64 (0), .int .i64 (0), .int .i64 (0), .int .i64 (0), .int .i64 (0), .int .i64 (0), .int .i64 (0), .int .i64 (0), .int .i64 (0), .int .i64 (0)])).run Tryz.prog w = .ok (.bool true) w := fun _ => by kernel_rfl
  have q3 : ∀ w : World, (binOp .eql 23 (.agg #[.int .i64 1, .int .i64 365, .int .i64 0, .int .i64 0, .int .i64 0, .int .i64 90000]) (.agg #[.int .i64 1, .int .i64 365, .int .i64 0, .int .i64 0, .int .i64 0, .int .i64 90000])).run Tryz.prog w = .ok (.bool true) w := fun _ => by kernel_rfl
  have hb := hide (Below.refl w.heap.size w)
  go_enter Tryz.func6, Tryz.ntmps6
  go_wp2_with (first | (refine wpList_store_row rfl 29 _ _ rfl _ _ rfl rfl _ _ (heap_alloc_last _ _) (by kernel_rfl) rfl (by simp [Value.oneCell']) ?_; rw [World.setRow_alloc_new]) | (refine wpList_store_row rfl 23 _ _ rfl _ _ rfl rfl _ _ (heap_alloc_last _ _) (by kernel_rfl) rfl (by simp [Value.oneCell']) ?_; rw [World.setRow_alloc_new]))
  refine (P0.out _).mono ?_
  rintro e w1 ⟨rfl, h1⟩
  replace hb := hide (bel_next hb.out h1)
  clear h1
  have b1 := hide (Ro.new w1 #[.string ⟨#[69, 83, 84]⟩, .int .i64 (-18000), .bool true, .string ⟨#[69, 68, 84]⟩, .int .i64 (-14400), .int .i64 (3), .int .i64 (0), .int .i64 (3), .int .i64 (2), .int .i64 (0), .int .i64 (7200), .int .i64 (3), .int .i64 (0), .int .i64 (11), .int .i64 (1), .int .i64 (0), .int .i64 (7200)] 29)
  replace hb := hide (bl_alloc hb.out (.cells #[.string ⟨#[69, 83, 84]⟩, .int .i64 (-18000), .bool true, .string ⟨#[69, 68, 84]⟩, .int .i64 (-14400), .int .i64 (3), .int .i64 (0), .int .i64 (3), .int .i64 (2), .int .i64 (0), .int .i64 (7200), .int .i64 (3), .int .i64 (0), .int .i64 (11), .int .i64 (1), .int .i64 (0), .int .i64 (7200)] 29))
  go_wp2_with (first | (refine wpList_store_row rfl 29 _ _ rfl _ _ rfl rfl _ _ (heap_alloc_last _ _) (by kernel_rfl) rfl (by simp [Value.oneCell']) ?_; rw [World.setRow_alloc_new]) | (refine wpList_store_row rfl 23 _ _ rfl _ _ rfl rfl _ _ (heap_alloc_last _ _) (by kernel_rfl) rfl (by simp [Value.oneCell']) ?_; rw [World.setRow_alloc_new]))
  refine (P1.out _).mono ?_
  rintro e w1 ⟨rfl, h1⟩
  replace b1 := hide (b1.out.below h1)
  replace hb := hide (bel_next hb.out h1)
  clear h1
  have b2 := hide (Ro.new w1 #[.string ⟨#[43, 48, 51, 51, 48]⟩, .int .i64 (12600), .bool false, .string ⟨#[]⟩, .int .i64 (0), .int .i64 (0), .int .i64 (0), .int .i64 (0), .int .i64 (0), .int .i64 (0), .int .i64 (0), .int .i64 (0), .int .i64 (0), .int .i64 (0), .int .i64 (0), .int .i64 (0), .int .i64 (0)] 29)
  replace b1 := hide (b1.out.alloc (.cells #[.string ⟨#[43, 48, 51, 51, 48]⟩, .int .i64 (12600), .bool false, .string ⟨#[]⟩, .int .i64 (0), .int .i64 (0), .int .i64 (0), .int .i64 (0), .int .i64 (0), .int .i64 (0), .int .i64 (0), .int .i64 (0), .int .i64 (0), .int .i64 (0), .int .i64 (0), .int .i64 (0), .int .i64 (0)] 29))
  replace hb := hide (bl_alloc hb.out (.cells #[.string ⟨#[43, 48, 51, 51, 48]⟩, .int .i64 (12600), .bool false, .string ⟨#[]⟩, .int .i64 (0), .int .i64 (0), .int .i64 (0), .int .i64 (0), .int .i64 (0), .int .i64 (0), .int .i64 (0), .int .i64 (0), .int .i64 (0), .int .i64 (0), .int .i64 (0), .int .i64 (0), .int .i64 (0)] 29))
  go_wp2_with (first | (refine wpList_store_row rfl 29 _ _ rfl _ _ rfl rfl _ _ (heap_alloc_last _ _) (by kernel_rfl) rfl (by simp [Value.oneCell']) ?_; rw [World.setRow_alloc_new]) | (refine wpList_store_row rfl 23 _ _ rfl _ _ rfl rfl _ _ (heap_alloc_last _ _) (by kernel_rfl) rfl (by simp [Value.oneCell']) ?_; rw [World.setRow_alloc_new]))
  refine (P2.out _).mono ?_
  rintro e w1 ⟨rfl, h1⟩
  replace b1 := hide (b1.out.below h1)
  replace b2 := hide (b2.out.below h1)
  replace hb := hide (bel_next hb.out h1)
  clear h1
  have b3 := hide (Ro.new w1 #[.string ⟨#[]⟩, .int .i64 (0), .bool false, .string ⟨#[]⟩, .int .i64 (0), .int .i64 (0), .int .i64 (0), .int .i64 (0), .int .i64 (0), .int .i64 (0), .int .i64 (0), .int .i64 (0), .int .i64 (0), .int .i64 (0), .int .i64 (0), .int .i64 (0), .int .i64 (0)] 29)
  replace b1 := hide (b1.out.alloc (.cells #[.string ⟨#[]⟩, .int .i64 (0), .bool false, .string ⟨#[]⟩, .int .i64 (0), .int .i64 (0), .int .i64 (0), .int .i64 (0), .int .i64 (0), .int .i64 (0), .int .i64 (0), .int .i64 (0), .int .i64 (0), .int .i64 (0), .int .i64 (0), .int .i64 (0), .int .i64 (0)] 29))
  replace b2 := hide (b2.out.alloc (.cells #[.string ⟨#[]⟩, .int .i64 (0), .bool false, .string ⟨#[]⟩, .int .i64 (0), .int .i64 (0), .int .i64 (0), .int .i64 (0), .int .i64 (0), .int .i64 (0), .int .i64 (0), .int .i64 (0), .int .i64 (0), .int .i64 (0), .int .i64 (0), .int .i64 (0), .int .i64 (0)] 29))
  replace hb := hide (bl_alloc hb.out (.cells #[.string ⟨#[]⟩, .int .i64 (0), .bool false, .string ⟨#[]⟩, .int .i64 (0), .int .i64 (0), .int .i64 (0), .int .i64 (0), .int .i64 (0), .int .i64 (0), .int .i64 (0), .int .i64 (0), .int .i64 (0), .int .i64 (0), .int .i64 (0), .int .i64 (0), .int .i64 (0)] 29))
  clear b3
  go_wp2_with (first | (refine wpList_store_row rfl 29 _ _ rfl _ _ rfl rfl _ _ (heap_alloc_last _ _) (by kernel_rfl) rfl (by simp [Value.oneCell']) ?_; rw [World.setRow_alloc_new]) | (refine wpList_store_row rfl 23 _ _ rfl _ _ rfl rfl _ _ (heap_alloc_last _ _) (by kernel_rfl) rfl (by simp [Value.oneCell']) ?_; rw [World.setRow_alloc_new]))
  refine (P3.out _).mono ?_
  rintro e w1 ⟨rfl, h1⟩
  replace b1 := hide (b1.out.below h1)
  replace b2 := hide (b2.out.below h1)
  replace hb := hide (bel_next hb.out h1)
  clear h1
  have b3 := hide (Ro.new w1 #[.string ⟨#[]⟩, .int .i64 (0), .bool false, .string ⟨#[]⟩, .int .i64 (0), .int .i64 (0), .int .i64 (0), .int .i64 (0), .int .i64 (0), .int .i64 (0), .int .i64 (0), .int .i64 (0), .int .i64 (0), .int .i64 (0), .int .i64 (0), .int .i64 (0), .int .i64 (0)] 29)
  replace b1 := hide (b1.out.alloc (.cells #[.string ⟨#[]⟩, .int .i64 (0), .bool false, .string ⟨#[]⟩, .int .i64 (0), .int .i64 (0), .int .i64 (0), .int .i64 (0), .int .i64 (0), .int .i64 (0), .int .i64 (0), .int .i64 (0), .int .i64 (0), .int .i64 (0), .int .i64 (0), .int .i64 (0), .int .i64 (0)] 29))
  replace b2 := hide (b2.out.alloc (.cells #[.string ⟨#[]⟩, .int .i64 (0), .bool false, .string ⟨#[]⟩, .int .i64 (0), .int .i64 (0), .int .i64 (0), .int .i64 (0), .int .i64 (0), .int .i64 (0), .int .i64 (0), .int .i64 (0), .int .i64 (0), .int .i64 (0), .int .i64 (0), .int .i64 (0), .int .i64 (0)] 29))
  replace hb := hide (bl_alloc hb.out (.cells #[.string ⟨#[]⟩, .int .i64 (0), .bool false, .string ⟨#[]⟩, .int .i64 (0), .int .i64 (0), .int .i64 (0), .int .i64 (0), .int .i64 (0), .int .i64 (0), .int .i64 (0), .int .i64 (0), .int .i64 (0), .int .i64 (0), .int .i64 (0), .int .i64 (0), .int .i64 (0)] 29))
  clear b3
  go_wp2_with (first | (refine wpList_store_row rfl 29 _ _ rfl _ _ rfl rfl _ _ (heap_alloc_last _ _) (by kernel_rfl) rfl (by simp [Value.oneCell']) ?_; rw [World.setRow_alloc_new]) | (refine wpList_store_row rfl 23 _ _ rfl _ _ rfl rfl _ _ (heap_alloc_last _ _) (by kernel_rfl) rfl (by simp [Value.oneCell']) ?_; rw [World.setRow_alloc_new]))
  refine (P4.out _).mono ?_
  rintro e w1 ⟨rfl, h1⟩
  replace b1 := hide (b1.out.below h1)
  replace b2 := hide (b2.out.below h1)
  replace hb := hide (bel_next hb.out h1)
  clear h1
  have b3 := hide (Ro.new w1 #[.string ⟨#[]⟩, .int .i64 (0), .bool false, .string ⟨#[]⟩, .int .i64 (0), .int .i64 (0), .int .i64 (0), .int .i64 (0), .int .i64 (0), .int .i64 (0), .int .i64 (0), .int .i64 (0), .int .i64 (0), .int .i64 (0), .int .i64 (0), .int .i64 (0), .int .i64 (0)] 29)
  replace b1 := hide (b1.out.alloc (.cells #[.string ⟨#[]⟩, .int .i64 (0), .bool false, .string ⟨#[]⟩, .int .i64 (0), .int .i64 (0), .int .i64 (0), .int .i64 (0), .int .i64 (0), .int .i64 (0), .int .i64 (0), .int .i64 (0), .int .i64 (0), .int .i64 (0), .int .i64 (0), .int .i64 (0), .int .i64 (0)] 29))
  replace b2 := hide (b2.out.alloc (.cells #[.string ⟨#[]⟩, .int .i64 (0), .bool false, .string ⟨#[]⟩, .int .i64 (0), .int .i64 (0), .int .i64 (0), .int .i64 (0), .int .i64 (0), .int .i64 (0), .int .i64 (0), .int .i64 (0), .int .i64 (0), .int .i64 (0), .int .i64 (0), .int .i64 (0), .int .i64 (0)] 29))
  replace hb := hide (bl_alloc hb.out (.cells #[.string ⟨#[]⟩, .int .i64 (0), .bool false, .string ⟨#[]⟩, .int .i64 (0), .int .i64 (0), .int .i64 (0), .int .i64 (0), .int .i64 (0), .int .i64 (0), .int .i64 (0), .int .i64 (0), .int .i64 (0), .int .i64 (0), .int .i64 (0), .int .i64 (0), .int .i64 (0)] 29))
  clear b3
  go_wp2_with (first | (refine wpList_store_row rfl 29 _ _ rfl _ _ rfl rfl _ _ (heap_alloc_last _ _) (by kernel_rfl) rfl (by simp [Value.oneCell']) ?_; rw [World.setRow_alloc_new]) | (refine wpList_store_row rfl 23 _ _ rfl _ _ rfl rfl _ _ (heap_alloc_last _ _) (by kernel_rfl) rfl (by simp [Value.oneCell']) ?_; rw [World.setRow_alloc_new]))
  refine (D0.out _).mono ?_
  rintro e w1 ⟨rfl, h1⟩
  replace b1 := hide (b1.out.below h1)
  replace b2 := hide (b2.out.below h1)
  replace hb := hide (bel_next hb.out h1)
  clear h1
  have b6 := hide (Ro.new w1 #[.int .i64 1, .int .i64 365, .int .i64 0, .int .i64 0, .int .i64 0, .int .i64 90000] 23)
  replace b1 := hide (b1.out.alloc (.cells #[.int .i64 1, .int .i64 365, .int .i64 0, .int .i64 0, .int .i64 0, .int .i64 90000] 23))
  replace b2 := hide (b2.out.alloc (.cells #[.int .i64 1, .int .i64 365, .int .i64 0, .int .i64 0, .int .i64 0, .int .i64 90000] 23))
  replace hb := hide (bl_alloc hb.out (.cells #[.int .i64 1, .int .i64 365, .int .i64 0, .int .i64 0, .int .i64 0, .int .i64 90000] 23))
  go_upto_region 7 with (first | (refine wpList_store_row rfl 29 _ _ rfl _ _ rfl rfl _ _ (heap_alloc_last _ _) (by kernel_rfl) rfl (by simp [Value.oneCell']) ?_; rw [World.setRow_alloc_new]) | (refine wpList_store_row rfl 23 _ _ rfl _ _ rfl rfl _ _ (heap_alloc_last _ _) (by kernel_rfl) rfl (by simp [Value.oneCell']) ?_; rw [World.setRow_alloc_new]))
  dsimp only [List.append]
  have c0 := b1.out.cell 0
  have c1 := b1.out.cell 1
  have c2 := b1.out.cell 2
  have c3 := b1.out.cell 3
  have c4 := b1.out.cell 4
  have c5 := b1.out.cell 5
  have c6 := b1.out.cell 6
  have c7 := b1.out.cell 7
  have c8 := b1.out.cell 8
  have c9 := b1.out.cell 9
  have c10 := b1.out.cell 10
  have c13 := b1.out.cell 13
  simp at c0 c1 c2 c3 c4 c5 c6 c7 c8 c9 c10 c13
  go_wp2_with (first | (refine load_row_g (by rfl) 29 _ rfl _ rfl _ _ _ b1.out Tryz.underlying29 rfl (by kernel_rfl) ?_))
  refine (V1.out _).mono ?_
  rintro e w1 ⟨rfl, h1⟩
  replace b1 := hide (b1.out.below h1)
  replace b2 := hide (b2.out.below h1)
  replace b6 := hide (b6.out.below h1)
  replace hb := hide (bel_next hb.out h1)
  clear h1
  clear c0 c1 c2 c3 c4 c5 c6 c7 c8 c9 c10 c13
  go_wp2_with (first | (refine load_row_g (by rfl) 29 _ rfl _ rfl _ _ _ b2.out Tryz.underlying29 rfl (by kernel_rfl) ?_) | (refine load_row_g (by rfl) 23 _ rfl _ rfl _ _ _ b6.out Tryz.underlying23 rfl (by kernel_rfl) ?_))
  refine (V2.out _).mono ?_
  rintro e w1 ⟨rfl, h1⟩
  replace hb := hide (bel_next hb.out h1)
  clear h1
  go_wp2
  go_ret
  exact ⟨rfl, hb.out⟩
end l9_
end Go.Proofs.YtjjmkbofddbnnaaGreatDoor
