/-
  THE WALKS OF THE LAWS OF LAYER 5 (zoneinfolaw05): DatetimeRoundTrip. No conditions beyond the tables'.
-/
import Derived.Test.YtbfdjlgpmfhdoaaDoorDtW
import Derived.Deep.RegionHeld3
import Derived.Deep.DeepCutAuto
namespace Go.Proofs.YtbfdjlgpmfhdoaaDoor
open Go.ChangeShapes Go.WideShapes Go.ChangeAt Go.RowKit
set_option linter.unusedVariables false
namespace l5_
set_option maxRecDepth 100000 in
set_option maxHeartbeats 4000000 in
theorem roundTrip (a0 Y M D h m s W : Int) (w : World) (hT : Tb w) (w0 : (Lit.int .i64 a0).wf = true) (w10 : (Lit.int .i64 Y).wf = true) (w11 : (Lit.int .i64 M).wf = true) (w12 : (Lit.int .i64 D).wf = true) (w13 : (Lit.int .i64 h).wf = true) (w14 : (Lit.int .i64 m).wf = true) (w15 : (Lit.int .i64 s).wf = true) (w16 : (Lit.int .i64 W).wf = true) :
    Calls Tryd.prog 4 #[.int .i64 a0, .agg #[.int .i64 Y, .int .i64 M, .int .i64 D, .int .i64 h, .int .i64 m, .int .i64 s, .int .i64 W]] w fun e w' => e = .returned (.bool true) ∧ Below w.heap.size w w' := by
  obtain ⟨p0, q0⟩ := wf_i64 w0
  clear w0 w10 w11 w12 w13 w14 w15 w16
  obtain ⟨y, mo, d, hd⟩ := IsDate.ex (a0 / 86400)
  obtain ⟨f3, f4, f5, f6, ht⟩ := Tod.ex a0
  have hu0 := hide (unix_of p0 q0 hd ht)
  have hdk : Hid (DtOk y mo d f3 f4 f5 f6) := by
    have hb := ht.bd
    exact ⟨day64 p0 q0 hd, hb.1, hb.2.1, hb.2.2.1, hb.2.2.2.1, hb.2.2.2.2.1, hb.2.2.2.2.2.1, by rw [hd.2]; exact ht.2.2.2.symm⟩
  replace hd := hide hd
  replace ht := hide ht
  obtain ⟨v, ok, hu⟩ := UnixIs.ex Y M D h m s W
  have hb := hide (bl_new w (.cells #[.int .i64 Y, .int .i64 M, .int .i64 D, .int .i64 h, .int .i64 m, .int .i64 s, .int .i64 W] 23))
  have HT := hide (hT.below hb.out)
  have bx := hide (Bx.new w [.int .i64 Y, .int .i64 M, .int .i64 D, .int .i64 h, .int .i64 m, .int .i64 s, .int .i64 W] 23)
  clear hT
  cases ok
  · have hv0 : v = 0 := by
      rcases hu with ⟨_, _, _, _, h⟩ | ⟨_, _, h, _⟩ | ⟨_, h, _⟩
      · cases h
      · exact h
      · exact h
    subst hv0
    replace hu := hide hu
    go_enter Tryd.func4, Tryd.ntmps4
    go_wp2_with fail
    refine (awake _ HT.out).mono ?_
    rintro e w1 ⟨rfl, h1⟩
    replace HT := hide (HT.out.below h1)
    replace bx := hide (bx.out.below h1)
    replace hb := hide (bel_next hb.out h1)
    clear h1
    go_wp2_with fail
    refine (dt_.Of_is _ HT.out p0 q0 hd.out ht.out).mono ?_
    rintro e wx ⟨rfl, h1⟩
    replace HT := hide (HT.out.below h1)
    replace bx := hide (bx.out.below h1)
    replace hb := hide (bel_next hb.out h1)
    clear h1
    have by_ := hide (Bx.new wx [.int .i64 y, .int .i64 mo, .int .i64 d, .int .i64 f3, .int .i64 f4, .int .i64 f5, .int .i64 f6] 23)
    have hbx := hide (bl_new wx (.cells #[.int .i64 y, .int .i64 mo, .int .i64 d, .int .i64 f3, .int .i64 f4, .int .i64 f5, .int .i64 f6] 23))
    replace HT := hide (HT.out.below hbx.out)
    replace bx := hide (bx.out.below hbx.out)
    replace hb := hide (bel_next hb.out hbx.out)
    clear hbx
    go_wp2_with fail
    refine (dt_.Unix _ HT.out hu0.out).mono ?_
    rintro e w1 ⟨rfl, h1⟩
    replace HT := hide (HT.out.below h1)
    replace bx := hide (bx.out.below h1)
    replace by_ := hide (by_.out.below h1)
    replace hb := hide (bel_next hb.out h1)
    clear h1
    obtain ⟨x0, x1, x2, x3, x4, x5, x6⟩ := cells7 bx.out
    go_wp2_with fail
    refine (dt_.Unix _ HT.out hu.out).mono ?_
    rintro e w1 ⟨rfl, h1⟩
    replace HT := hide (HT.out.below h1)
    replace bx := hide (bx.out.below h1)
    replace by_ := hide (by_.out.below h1)
    replace hb := hide (bel_next hb.out h1)
    clear h1
    clear x0 x1 x2 x3 x4 x5 x6
    obtain ⟨x0, x1, x2, x3, x4, x5, x6⟩ := cells7 by_.out
    go_wp2_with fail
    refine (r5_.Valid_yes _ _ _ _ _ _ _ _ hdk.out).mono ?_
    rintro e w1 ⟨rfl, h1⟩
    replace HT := hide (HT.out.below h1)
    replace bx := hide (bx.out.below h1)
    replace by_ := hide (by_.out.below h1)
    replace hb := hide (bel_next hb.out h1)
    clear h1
    clear x0 x1 x2 x3 x4 x5 x6
    go_wp2
    go_ret
    exact ⟨rfl, hb.out⟩
  · obtain ⟨v0, v1, hdk2, hd2, ht2⟩ := of_unix hu
    replace hu := hide hu
    replace hdk2 := hide hdk2
    replace hd2 := hide hd2
    replace ht2 := hide ht2
    go_enter Tryd.func4, Tryd.ntmps4
    go_wp2_with fail
    refine (awake _ HT.out).mono ?_
    rintro e w1 ⟨rfl, h1⟩
    replace HT := hide (HT.out.below h1)
    replace bx := hide (bx.out.below h1)
    replace hb := hide (bel_next hb.out h1)
    clear h1
    go_wp2_with fail
    refine (dt_.Of_is _ HT.out p0 q0 hd.out ht.out).mono ?_
    rintro e wx ⟨rfl, h1⟩
    replace HT := hide (HT.out.below h1)
    replace bx := hide (bx.out.below h1)
    replace hb := hide (bel_next hb.out h1)
    clear h1
    have by_ := hide (Bx.new wx [.int .i64 y, .int .i64 mo, .int .i64 d, .int .i64 f3, .int .i64 f4, .int .i64 f5, .int .i64 f6] 23)
    have hbx := hide (bl_new wx (.cells #[.int .i64 y, .int .i64 mo, .int .i64 d, .int .i64 f3, .int .i64 f4, .int .i64 f5, .int .i64 f6] 23))
    replace HT := hide (HT.out.below hbx.out)
    replace bx := hide (bx.out.below hbx.out)
    replace hb := hide (bel_next hb.out hbx.out)
    clear hbx
    go_wp2_with fail
    refine (dt_.Unix _ HT.out hu0.out).mono ?_
    rintro e w1 ⟨rfl, h1⟩
    replace HT := hide (HT.out.below h1)
    replace bx := hide (bx.out.below h1)
    replace by_ := hide (by_.out.below h1)
    replace hb := hide (bel_next hb.out h1)
    clear h1
    obtain ⟨x0, x1, x2, x3, x4, x5, x6⟩ := cells7 bx.out
    go_wp2_with fail
    refine (dt_.Unix _ HT.out hu.out).mono ?_
    rintro e w1 ⟨rfl, h1⟩
    replace HT := hide (HT.out.below h1)
    replace bx := hide (bx.out.below h1)
    replace by_ := hide (by_.out.below h1)
    replace hb := hide (bel_next hb.out h1)
    clear h1
    clear x0 x1 x2 x3 x4 x5 x6
    obtain ⟨x0, x1, x2, x3, x4, x5, x6⟩ := cells7 by_.out
    go_wp2_with fail
    refine (r5_.Valid_yes _ _ _ _ _ _ _ _ hdk.out).mono ?_
    rintro e w1 ⟨rfl, h1⟩
    replace HT := hide (HT.out.below h1)
    replace bx := hide (bx.out.below h1)
    replace by_ := hide (by_.out.below h1)
    replace hb := hide (bel_next hb.out h1)
    clear h1
    clear x0 x1 x2 x3 x4 x5 x6
    go_upto_region 9 with fail
    go_region_held3 (fun w' => w'.cell? ⟨w.heap.size, 0, none⟩ = some (.int .i64 Y) ∧ w'.cell? ⟨w.heap.size, 1, none⟩ = some (.int .i64 M) ∧ w'.cell? ⟨w.heap.size, 2, none⟩ = some (.int .i64 D) ∧ w'.cell? ⟨w.heap.size, 3, none⟩ = some (.int .i64 h) ∧ w'.cell? ⟨w.heap.size, 4, none⟩ = some (.int .i64 m) ∧ w'.cell? ⟨w.heap.size, 5, none⟩ = some (.int .i64 s) ∧ w'.cell? ⟨w.heap.size, 6, none⟩ = some (.int .i64 W) ∧ Hid (Tb w') ∧ Hid (Below w.heap.size w w'))
      (first
        | exact ⟨(cells7 bx.out).1, (cells7 bx.out).2.1, (cells7 bx.out).2.2.1, (cells7 bx.out).2.2.2.1, (cells7 bx.out).2.2.2.2.1, (cells7 bx.out).2.2.2.2.2.1, (cells7 bx.out).2.2.2.2.2.2, HT, by first | exact hb | exact hide (bl_drew hb.out)⟩
        | (go_split_ands; refine ⟨?_, ?_, ?_, ?_, ?_, ?_, ?_, ?_, ?_⟩ <;> first | exact cellE h1 (by assumption) | exact hide (Tb.below (Hid.out (by assumption)) h1) | exact hide (bel_next (Hid.out (by assumption)) h1)))
      (first
        | (go_at_call 13; go_split_ands; refine (dt_.Of_is _ (Hid.out (by assumption)) v0 v1 hd2.out ht2.out).mono ?_; rintro e w6 ⟨rfl, h1⟩)
        | (go_at_call 16; go_split_ands; refine (r5_.Valid_yes _ _ _ _ _ _ _ _ hdk2.out).mono ?_; rintro e w6 ⟨rfl, h1⟩))
    all_goals (try go_split_ands)
    all_goals go_wp2
    all_goals go_ret
    all_goals exact ⟨rfl, Hid.out (by assumption)⟩
end l5_
end Go.Proofs.YtbfdjlgpmfhdoaaDoor
