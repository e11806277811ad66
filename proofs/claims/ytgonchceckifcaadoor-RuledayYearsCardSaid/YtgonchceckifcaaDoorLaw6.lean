/-
  THE WALKS OF THE LAWS OF LAYER 6 (zoneinfolaw06): awake. No conditions beyond the tables'.
-/
import Derived.Test.YtgonchceckifcaaDoorRd
namespace Go.Proofs.YtgonchceckifcaaDoor
open Go.ChangeShapes Go.WideShapes Go.ChangeAt Go.RowKit
set_option linter.unusedVariables false
theorem rdok {K D M Wk Wd T : Int} (h : decide (RdOk K D M Wk Wd T) = true) : RdOk K D M Wk Wd T := of_decide_eq_true h
theorem rd_.Day_is {K D M Wk Wd T y n : Int} (w : World) (hT : Tb w) (hv : RdOk K D M Wk Wd T) (h0 : -200000000001 ≤ y) (h1 : y ≤ 200000000001) (hn : rday K D M Wk Wd y = n) :
    Calls Tryd.prog 12 #[vrd K D M Wk Wd T, .int .i64 y] w fun e w' => e = .returned (.int .i64 n) ∧ Below w.heap.size w w' := by subst hn; exact rd_.Day y w hT hv h0 h1
theorem rd_.At_is {K D M Wk Wd T y n : Int} (w : World) (hT : Tb w) (hv : RdOk K D M Wk Wd T) (h0 : -200000000001 ≤ y) (h1 : y ≤ 200000000001) (hn : rday K D M Wk Wd y * 86400 + T = n) :
    Calls Tryd.prog 14 #[vrd K D M Wk Wd T, .int .i64 y] w fun e w' => e = .returned (.int .i64 n) ∧ Below w.heap.size w w' := by subst hn; exact rd_.At y w hT hv h0 h1
theorem rd_.Valid_is {K D M Wk Wd T : Int} (b : Bool) (w : World) (hT : Tb w) (hw : (Lit.int .i64 K).wf = true) (hb : decide (RdOk K D M Wk Wd T) = b) :
    Calls Tryd.prog 9 #[vrd K D M Wk Wd T] w fun e w' => e = .returned (.bool b) ∧ Below w.heap.size w w' := by subst hb; exact rd_.Valid _ _ _ _ _ _ w hT hw
namespace l6_
set_option maxRecDepth 100000 in
set_option maxHeartbeats 8000000 in
theorem awake (w : World) (hT : Tb w) : Calls Tryd.prog 8 #[] w fun e w' => e = .returned (.bool true) ∧ Below w.heap.size w w' := by
  have b1 : Hid (Bx (w.alloc (.cells #[.int .i64 3, .int .i64 0, .int .i64 3, .int .i64 2, .int .i64 0, .int .i64 7200] 23)) (w.heap.size) [.int .i64 3, .int .i64 0, .int .i64 3, .int .i64 2, .int .i64 0, .int .i64 7200]) := hide (by simpa using Bx.new w [.int .i64 3, .int .i64 0, .int .i64 3, .int .i64 2, .int .i64 0, .int .i64 7200] 23)
  have b2 : Hid (Bx ((w.alloc (.cells #[.int .i64 3, .int .i64 0, .int .i64 3, .int .i64 2, .int .i64 0, .int .i64 7200] 23)).alloc (.cells #[.int .i64 1, .int .i64 60, .int .i64 0, .int .i64 0, .int .i64 0, .int .i64 0] 23)) (w.heap.size + 1) [.int .i64 1, .int .i64 60, .int .i64 0, .int .i64 0, .int .i64 0, .int .i64 0]) := hide (by simpa using Bx.new (w.alloc (.cells #[.int .i64 3, .int .i64 0, .int .i64 3, .int .i64 2, .int .i64 0, .int .i64 7200] 23)) [.int .i64 1, .int .i64 60, .int .i64 0, .int .i64 0, .int .i64 0, .int .i64 0] 23)
  have b3 : Hid (Bx (((w.alloc (.cells #[.int .i64 3, .int .i64 0, .int .i64 3, .int .i64 2, .int .i64 0, .int .i64 7200] 23)).alloc (.cells #[.int .i64 1, .int .i64 60, .int .i64 0, .int .i64 0, .int .i64 0, .int .i64 0] 23)).alloc (.cells #[.int .i64 2, .int .i64 59, .int .i64 0, .int .i64 0, .int .i64 0, .int .i64 0] 23)) (w.heap.size + 2) [.int .i64 2, .int .i64 59, .int .i64 0, .int .i64 0, .int .i64 0, .int .i64 0]) := hide (by simpa using Bx.new ((w.alloc (.cells #[.int .i64 3, .int .i64 0, .int .i64 3, .int .i64 2, .int .i64 0, .int .i64 7200] 23)).alloc (.cells #[.int .i64 1, .int .i64 60, .int .i64 0, .int .i64 0, .int .i64 0, .int .i64 0] 23)) [.int .i64 2, .int .i64 59, .int .i64 0, .int .i64 0, .int .i64 0, .int .i64 0] 23)
  have b4 : Hid (Bx ((((w.alloc (.cells #[.int .i64 3, .int .i64 0, .int .i64 3, .int .i64 2, .int .i64 0, .int .i64 7200] 23)).alloc (.cells #[.int .i64 1, .int .i64 60, .int .i64 0, .int .i64 0, .int .i64 0, .int .i64 0] 23)).alloc (.cells #[.int .i64 2, .int .i64 59, .int .i64 0, .int .i64 0, .int .i64 0, .int .i64 0] 23)).alloc (.cells #[.int .i64 3, .int .i64 0, .int .i64 10, .int .i64 5, .int .i64 0, .int .i64 0] 23)) (w.heap.size + 3) [.int .i64 3, .int .i64 0, .int .i64 10, .int .i64 5, .int .i64 0, .int .i64 0]) := hide (by simpa using Bx.new (((w.alloc (.cells #[.int .i64 3, .int .i64 0, .int .i64 3, .int .i64 2, .int .i64 0, .int .i64 7200] 23)).alloc (.cells #[.int .i64 1, .int .i64 60, .int .i64 0, .int .i64 0, .int .i64 0, .int .i64 0] 23)).alloc (.cells #[.int .i64 2, .int .i64 59, .int .i64 0, .int .i64 0, .int .i64 0, .int .i64 0] 23)) [.int .i64 3, .int .i64 0, .int .i64 10, .int .i64 5, .int .i64 0, .int .i64 0] 23)
  replace b1 := hide (b1.out.alloc (.cells #[.int .i64 1, .int .i64 60, .int .i64 0, .int .i64 0, .int .i64 0, .int .i64 0] 23))
  replace b1 := hide (b1.out.alloc (.cells #[.int .i64 2, .int .i64 59, .int .i64 0, .int .i64 0, .int .i64 0, .int .i64 0] 23))
  replace b1 := hide (b1.out.alloc (.cells #[.int .i64 3, .int .i64 0, .int .i64 10, .int .i64 5, .int .i64 0, .int .i64 0] 23))
  replace b2 := hide (b2.out.alloc (.cells #[.int .i64 2, .int .i64 59, .int .i64 0, .int .i64 0, .int .i64 0, .int .i64 0] 23))
  replace b2 := hide (b2.out.alloc (.cells #[.int .i64 3, .int .i64 0, .int .i64 10, .int .i64 5, .int .i64 0, .int .i64 0] 23))
  replace b3 := hide (b3.out.alloc (.cells #[.int .i64 3, .int .i64 0, .int .i64 10, .int .i64 5, .int .i64 0, .int .i64 0] 23))
  have hb : Hid (Below w.heap.size w ((((w.alloc (.cells #[.int .i64 3, .int .i64 0, .int .i64 3, .int .i64 2, .int .i64 0, .int .i64 7200] 23)).alloc (.cells #[.int .i64 1, .int .i64 60, .int .i64 0, .int .i64 0, .int .i64 0, .int .i64 0] 23)).alloc (.cells #[.int .i64 2, .int .i64 59, .int .i64 0, .int .i64 0, .int .i64 0, .int .i64 0] 23)).alloc (.cells #[.int .i64 3, .int .i64 0, .int .i64 10, .int .i64 5, .int .i64 0, .int .i64 0] 23))) := hide (bl_alloc (bl_alloc (bl_alloc (bl_new w _) _) _) _)
  have HT := hide (hT.below hb.out)
  clear hT
  go_enter Tryd.func8, Tryd.ntmps8
  go_wp2_with fail
  refine (rd_.Day_is (n := 19792) _ HT.out (rdok (by decide)) (by decide) (by decide) (by decide)).mono ?_
  rintro e w1 ⟨rfl, h1⟩
  replace b1 := hide (b1.out.below h1)
  replace b2 := hide (b2.out.below h1)
  replace b3 := hide (b3.out.below h1)
  replace b4 := hide (b4.out.below h1)
  replace HT := hide (HT.out.below h1)
  replace hb := hide (bel_next hb.out h1)
  clear h1
  obtain ⟨x0, x1, x2, x3, x4, x5⟩ := cells6 b1.out
  go_wp2_with fail
  refine (rd_.At_is (n := 1710036000) _ HT.out (rdok (by decide)) (by decide) (by decide) (by decide)).mono ?_
  rintro e w1 ⟨rfl, h1⟩
  clear x0 x1 x2 x3 x4 x5
  replace b1 := hide (b1.out.below h1)
  replace b2 := hide (b2.out.below h1)
  replace b3 := hide (b3.out.below h1)
  replace b4 := hide (b4.out.below h1)
  replace HT := hide (HT.out.below h1)
  replace hb := hide (bel_next hb.out h1)
  clear h1
  obtain ⟨x0, x1, x2, x3, x4, x5⟩ := cells6 b2.out
  go_wp2_with fail
  refine (rd_.Day_is (n := 19783) _ HT.out (rdok (by decide)) (by decide) (by decide) (by decide)).mono ?_
  rintro e w1 ⟨rfl, h1⟩
  clear x0 x1 x2 x3 x4 x5
  replace b1 := hide (b1.out.below h1)
  replace b2 := hide (b2.out.below h1)
  replace b3 := hide (b3.out.below h1)
  replace b4 := hide (b4.out.below h1)
  replace HT := hide (HT.out.below h1)
  replace hb := hide (bel_next hb.out h1)
  clear h1
  obtain ⟨x0, x1, x2, x3, x4, x5⟩ := cells6 b2.out
  go_wp2_with fail
  refine (rd_.Day_is (n := 19417) _ HT.out (rdok (by decide)) (by decide) (by decide) (by decide)).mono ?_
  rintro e w1 ⟨rfl, h1⟩
  clear x0 x1 x2 x3 x4 x5
  replace b1 := hide (b1.out.below h1)
  replace b2 := hide (b2.out.below h1)
  replace b3 := hide (b3.out.below h1)
  replace b4 := hide (b4.out.below h1)
  replace HT := hide (HT.out.below h1)
  replace hb := hide (bel_next hb.out h1)
  clear h1
  obtain ⟨x0, x1, x2, x3, x4, x5⟩ := cells6 b3.out
  go_wp2_with fail
  refine (rd_.Day_is (n := 19782) _ HT.out (rdok (by decide)) (by decide) (by decide) (by decide)).mono ?_
  rintro e w1 ⟨rfl, h1⟩
  clear x0 x1 x2 x3 x4 x5
  replace b1 := hide (b1.out.below h1)
  replace b2 := hide (b2.out.below h1)
  replace b3 := hide (b3.out.below h1)
  replace b4 := hide (b4.out.below h1)
  replace HT := hide (HT.out.below h1)
  replace hb := hide (bel_next hb.out h1)
  clear h1
  obtain ⟨x0, x1, x2, x3, x4, x5⟩ := cells6 b4.out
  go_wp2_with fail
  refine (rd_.Day_is (n := 19659) _ HT.out (rdok (by decide)) (by decide) (by decide) (by decide)).mono ?_
  rintro e w1 ⟨rfl, h1⟩
  clear x0 x1 x2 x3 x4 x5
  replace b1 := hide (b1.out.below h1)
  replace b2 := hide (b2.out.below h1)
  replace b3 := hide (b3.out.below h1)
  replace b4 := hide (b4.out.below h1)
  replace HT := hide (HT.out.below h1)
  replace hb := hide (bel_next hb.out h1)
  clear h1
  obtain ⟨x0, x1, x2, x3, x4, x5⟩ := cells6 b1.out
  go_wp2_with fail
  refine (rd_.Valid_is true _ HT.out (by decide) (by decide)).mono ?_
  rintro e w1 ⟨rfl, h1⟩
  clear x0 x1 x2 x3 x4 x5
  replace b1 := hide (b1.out.below h1)
  replace b2 := hide (b2.out.below h1)
  replace b3 := hide (b3.out.below h1)
  replace b4 := hide (b4.out.below h1)
  replace HT := hide (HT.out.below h1)
  replace hb := hide (bel_next hb.out h1)
  clear h1
  go_wp2_with fail
  refine (rd_.Valid_is true _ HT.out (by decide) (by decide)).mono ?_
  rintro e w1 ⟨rfl, h1⟩
  replace b1 := hide (b1.out.below h1)
  replace b2 := hide (b2.out.below h1)
  replace b3 := hide (b3.out.below h1)
  replace b4 := hide (b4.out.below h1)
  replace HT := hide (HT.out.below h1)
  replace hb := hide (bel_next hb.out h1)
  clear h1
  go_wp2_with fail
  refine (rd_.Valid_is false _ HT.out (by decide) (by decide)).mono ?_
  rintro e w1 ⟨rfl, h1⟩
  replace b1 := hide (b1.out.below h1)
  replace b2 := hide (b2.out.below h1)
  replace b3 := hide (b3.out.below h1)
  replace b4 := hide (b4.out.below h1)
  replace HT := hide (HT.out.below h1)
  replace hb := hide (bel_next hb.out h1)
  clear h1
  go_wp2_with fail
  refine (rd_.Valid_is false _ HT.out (by decide) (by decide)).mono ?_
  rintro e w1 ⟨rfl, h1⟩
  replace b1 := hide (b1.out.below h1)
  replace b2 := hide (b2.out.below h1)
  replace b3 := hide (b3.out.below h1)
  replace b4 := hide (b4.out.below h1)
  replace HT := hide (HT.out.below h1)
  replace hb := hide (bel_next hb.out h1)
  clear h1
  go_wp2_with fail
  refine (rd_.Valid_is false _ HT.out (by decide) (by decide)).mono ?_
  rintro e w1 ⟨rfl, h1⟩
  replace b1 := hide (b1.out.below h1)
  replace b2 := hide (b2.out.below h1)
  replace b3 := hide (b3.out.below h1)
  replace b4 := hide (b4.out.below h1)
  replace HT := hide (HT.out.below h1)
  replace hb := hide (bel_next hb.out h1)
  clear h1
  go_wp2
  go_ret
  exact ⟨rfl, hb.out⟩
end l6_
end Go.Proofs.YtgonchceckifcaaDoor
