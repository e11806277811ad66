/-
  THE WALKS OF THE LAWS OF LAYER 5 (zoneinfolaw05): DatetimeMatchesReference. No conditions beyond the tables'.
-/
import Derived.Test.YtbfdjlgpmfhdoaaDoorDtW
namespace Go.Proofs.YtbfdjlgpmfhdoaaDoor
open Go.ChangeShapes Go.WideShapes Go.ChangeAt Go.RowKit
set_option linter.unusedVariables false
namespace l5_
set_option maxRecDepth 100000 in
set_option maxHeartbeats 4000000 in
theorem mref (a0 Y M D h m s W : Int) (w : World) (hT : Tb w) (w0 : (Lit.int .i64 a0).wf = true) (w10 : (Lit.int .i64 Y).wf = true) (w11 : (Lit.int .i64 M).wf = true) (w12 : (Lit.int .i64 D).wf = true) (w13 : (Lit.int .i64 h).wf = true) (w14 : (Lit.int .i64 m).wf = true) (w15 : (Lit.int .i64 s).wf = true) (w16 : (Lit.int .i64 W).wf = true) :
    Calls Tryd.prog 3 #[.int .i64 a0, .agg #[.int .i64 Y, .int .i64 M, .int .i64 D, .int .i64 h, .int .i64 m, .int .i64 s, .int .i64 W]] w fun e w' => e = .returned (.bool true) ∧ Below w.heap.size w w' := by
  obtain ⟨p0, q0⟩ := wf_i64 w0
  clear w0 w10 w11 w12 w13 w14 w15 w16
  obtain ⟨y, mo, d, hd⟩ := IsDate.ex (a0 / 86400)
  replace hd := hide hd
  obtain ⟨v, ok, hu⟩ := UnixIs.ex Y M D h m s W
  replace hu := hide hu
  obtain ⟨f3, f4, f5, f6, ht⟩ := Tod.ex a0
  replace ht := hide ht
  have hb := hide (bl_new w (.cells #[.int .i64 Y, .int .i64 M, .int .i64 D, .int .i64 h, .int .i64 m, .int .i64 s, .int .i64 W] 23))
  have HT := hide (hT.below hb.out)
  have bx := hide (Bx.new w [.int .i64 Y, .int .i64 M, .int .i64 D, .int .i64 h, .int .i64 m, .int .i64 s, .int .i64 W] 23)
  clear hT
  have hfld : ∀ w : World, (Instr.field 23 (.agg #[.int .i64 y, .int .i64 mo, .int .i64 d, .int .i64 f3, .int .i64 f4, .int .i64 f5, .int .i64 f6]) 0).run Tryd.prog w = .ok (.int .i64 y) w := fun _ => rfl
  go_enter Tryd.func3, Tryd.ntmps3
  go_wp2_with fail
  refine (awake _ HT.out).mono ?_
  rintro e w1 ⟨rfl, h1⟩
  replace HT := hide (HT.out.below h1)
  replace bx := hide (bx.out.below h1)
  replace hb := hide (bel_next hb.out h1)
  clear h1
  go_wp2_with fail
  refine (dt_.Split _ _ HT.out p0 q0).mono ?_
  rintro e w1 ⟨rfl, h1⟩
  replace HT := hide (HT.out.below h1)
  replace bx := hide (bx.out.below h1)
  replace hb := hide (bel_next hb.out h1)
  clear h1
  go_wp2_with fail
  refine (r5_.Split _ _ p0 q0).mono ?_
  rintro e w1 ⟨rfl, rfl⟩
  obtain ⟨x0, x1, x2, x3, x4, x5, x6⟩ := cells7 bx.out
  go_wp2_with fail
  refine (dt_.Unix _ HT.out hu.out).mono ?_
  rintro e w1 ⟨rfl, h1⟩
  replace HT := hide (HT.out.below h1)
  replace bx := hide (bx.out.below h1)
  replace hb := hide (bel_next hb.out h1)
  clear h1
  clear x0 x1 x2 x3 x4 x5 x6
  obtain ⟨x0, x1, x2, x3, x4, x5, x6⟩ := cells7 bx.out
  go_wp2_with fail
  refine (r5_.Unix _ hu.out).mono ?_
  rintro e w1 ⟨rfl, h1⟩
  replace HT := hide (HT.out.below h1)
  replace bx := hide (bx.out.below h1)
  replace hb := hide (bel_next hb.out h1)
  clear h1
  clear x0 x1 x2 x3 x4 x5 x6
  go_wp2_with fail
  refine (dt_.Of_is _ HT.out p0 q0 hd.out ht.out).mono ?_
  rintro e w1 ⟨rfl, h1⟩
  replace HT := hide (HT.out.below h1)
  replace bx := hide (bx.out.below h1)
  replace hb := hide (bel_next hb.out h1)
  clear h1
  go_wp2_with fail
  refine (r5_.Of_is _ p0 q0 hd.out ht.out).mono ?_
  rintro e w1 ⟨rfl, h1⟩
  replace HT := hide (HT.out.below h1)
  replace bx := hide (bx.out.below h1)
  replace hb := hide (bel_next hb.out h1)
  clear h1
  go_wp2_with fail
  refine (dt_.YearOf _ y mo d _ HT.out p0 q0 hd.out).mono ?_
  rintro e w1 ⟨rfl, h1⟩
  replace HT := hide (HT.out.below h1)
  replace bx := hide (bx.out.below h1)
  replace hb := hide (bel_next hb.out h1)
  clear h1
  go_wp2_with fail
  refine (r5_.Of_is _ p0 q0 hd.out ht.out).mono ?_
  rintro e w1 ⟨rfl, h1⟩
  replace HT := hide (HT.out.below h1)
  replace bx := hide (bx.out.below h1)
  replace hb := hide (bel_next hb.out h1)
  clear h1
  go_wp2
  go_ret
  exact ⟨rfl, hb.out⟩
end l5_
end Go.Proofs.YtbfdjlgpmfhdoaaDoor
