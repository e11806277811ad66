/-
  THE WALKS OF THE LAWS OF LAYER 5 (zoneinfolaw05): awake, and words on date-times. No conditions beyond the tables'.
-/
import Derived.Test.YtbfdjlgpmfhdoaaDoorDt
import Derived.Deep.RegionHeld3
import Derived.Deep.DeepCutAuto
namespace Go.Proofs.YtbfdjlgpmfhdoaaDoor
open Go.ChangeShapes Go.WideShapes Go.ChangeAt Go.RowKit
set_option linter.unusedVariables false
theorem isd {n y m d : Int} (h2 : 1 ≤ m) (h3 : m ≤ 12) (h4 : 1 ≤ d) (h5 : d ≤ mdays y m) (h : days y m d = n) : IsDate n y m d := ⟨⟨h2, h3, h4, h5⟩, h⟩
theorem dtok {Y M D h m s W n : Int} (h0 : -1099511627776 ≤ Y) (h1 : Y ≤ 1099511627776) (hd : IsDate n Y M D) (a0 : 0 ≤ h) (a1 : h ≤ 23) (b0 : 0 ≤ m) (b1 : m ≤ 59) (c0 : 0 ≤ s) (c1 : s ≤ 59) (hw : (n + 4) % 7 = W) : DtOk Y M D h m s W :=
  ⟨⟨h0, h1, hd.1⟩, a0, a1, b0, b1, c0, c1, by rw [hd.2]; exact hw.symm⟩
namespace l5_
set_option maxRecDepth 100000 in
set_option maxHeartbeats 4000000 in
theorem awake (w : World) (hT : Tb w) : Calls Tryd.prog 8 #[] w fun e w' => e = .returned (.bool true) ∧ Below w.heap.size w w' := by
  have d1 := hide (isd (n := -1) (y := 1969) (m := 12) (d := 31) (by decide) (by decide) (by decide) (by decide) (by decide))
  have ok1 := hide (dtok (h := 23) (m := 59) (s := 59) (W := 3) (by decide) (by decide) d1.out (by decide) (by decide) (by decide) (by decide) (by decide) (by decide) (by decide))
  have no1 : Hid (¬ DtOk 1969 12 31 23 59 59 4) := hide (fun h => by have := h.2.2.2.2.2.2.2; rw [d1.out.2] at this; exact absurd this (by decide))
  have no2 : Hid (¬ DtOk 1099511627776 1 1 0 0 0 0) := hide (fun h => by have := h.2.2.2.2.2.2.2; rw [days_first] at this; exact absurd this (by decide))
  have d3 := hide (isd (n := 0) (y := 1970) (m := 1) (d := 1) (by decide) (by decide) (by decide) (by decide) (by decide))
  have d4 := hide (isd (n := 106751991167300) (y := 292277026596) (m := 12) (d := 4) (by decide) (by decide) (by decide) (by decide) (by decide))
  have d5 := hide (isd (n := -106751991167301) (y := -292277022657) (m := 1) (d := 27) (by decide) (by decide) (by decide) (by decide) (by decide))
  have e1 : Hid (IsDate ((-1 : Int) / 86400) 1969 12 31) := hide (by rw [show ((-1 : Int) / 86400) = -1 by decide]; exact d1.out)
  have e3 : Hid (IsDate ((0 : Int) / 86400) 1970 1 1) := hide (by rw [show ((0 : Int) / 86400) = 0 by decide]; exact d3.out)
  have e4 : Hid (IsDate ((9223372036854775807 : Int) / 86400) 292277026596 12 4) := hide (by rw [show ((9223372036854775807 : Int) / 86400) = 106751991167300 by decide]; exact d4.out)
  have e5 : Hid (IsDate ((-9223372036854775808 : Int) / 86400) (-292277022657) 1 27) := hide (by rw [show ((-9223372036854775808 : Int) / 86400) = -106751991167301 by decide]; exact d5.out)
  have v1 : Hid (vof (-1) 1969 12 31 = vdt 1969 12 31 23 59 59 3) := hide rfl
  have C1 : Hid (∀ (w : World) (hT : Tb w), Calls Tryd.prog 13 #[.int .i64 (-1)] w fun e w' => e = .returned (.agg #[.int .i64 1969, .int .i64 12, .int .i64 31, .int .i64 23, .int .i64 59, .int .i64 59, .int .i64 3]) ∧ Below w.heap.size w w') := hide (fun w hT => by
    have h := dt_.Of (-1) 1969 12 31 w hT (by decide) (by decide) e1.out
    rw [v1.out] at h
    exact h)
  have C3 := hide (fun w hT => dt_.YearOf 0 1970 1 1 w hT (by decide) (by decide) e3.out)
  have C4 := hide (fun w hT => dt_.YearOf 9223372036854775807 292277026596 12 4 w hT (by decide) (by decide) e4.out)
  have C5 := hide (fun w hT => dt_.YearOf (-9223372036854775808) (-292277022657) 1 27 w hT (by decide) (by decide) e5.out)
  have hb := hide (bl_new w (.cells #[.int .i64 1969, .int .i64 12, .int .i64 31, .int .i64 23, .int .i64 59, .int .i64 59, .int .i64 3] 23))
  have HT := hide (hT.below hb.out)
  have bx := hide (Bx.new w [.int .i64 1969, .int .i64 12, .int .i64 31, .int .i64 23, .int .i64 59, .int .i64 59, .int .i64 3] 23)
  clear hT
  go_enter Tryd.func8, Tryd.ntmps8
  go_wp2_with fail
  refine (dt_.Unix_yes _ _ _ _ _ _ _ _ HT.out ok1.out (-1) (by rw [d1.out.2]; decide) (by decide) (by decide)).mono ?_
  rintro e w1 ⟨rfl, h1⟩
  replace HT := hide (HT.out.below h1)
  replace hb := hide (bel_next hb.out h1)
  replace bx := hide (bx.out.below h1)
  clear h1
  have c1 := cells7 bx.out
  have b2 := hide (Bx.new w1 [.int .i64 1969, .int .i64 12, .int .i64 31, .int .i64 23, .int .i64 59, .int .i64 59, .int .i64 4] 23)
  have hb2 := hide (bl_new w1 (.cells #[.int .i64 1969, .int .i64 12, .int .i64 31, .int .i64 23, .int .i64 59, .int .i64 59, .int .i64 4] 23))
  replace HT := hide (HT.out.below hb2.out)
  replace hb := hide (bel_next hb.out hb2.out)
  replace bx := hide (bx.out.below hb2.out)
  go_wp2_with fail
  refine (dt_.Unix_bad _ _ _ _ _ _ _ _ HT.out no1.out).mono ?_
  rintro e w2 ⟨rfl, h1⟩
  replace HT := hide (HT.out.below h1)
  replace hb := hide (bel_next hb.out h1)
  replace bx := hide (bx.out.below h1)
  clear h1 c1 b2 hb2
  go_wp2_with fail
  refine (dt_.Unix_bad _ _ _ _ _ _ _ _ HT.out no2.out).mono ?_
  rintro e w3 ⟨rfl, h1⟩
  replace HT := hide (HT.out.below h1)
  replace hb := hide (bel_next hb.out h1)
  replace bx := hide (bx.out.below h1)
  clear h1
  go_wp2_with fail
  refine (dt_.Split _ _ HT.out (by decide) (by decide)).mono ?_
  rintro e w4 ⟨rfl, h1⟩
  replace HT := hide (HT.out.below h1)
  replace hb := hide (bel_next hb.out h1)
  replace bx := hide (bx.out.below h1)
  clear h1
  go_wp2_with fail
  refine (dt_.Split _ _ HT.out (by decide) (by decide)).mono ?_
  rintro e w5 ⟨rfl, h1⟩
  replace HT := hide (HT.out.below h1)
  replace hb := hide (bel_next hb.out h1)
  replace bx := hide (bx.out.below h1)
  clear h1
  go_upto_region 9 with fail
  go_region_held3 (fun w' => w'.cell? ⟨w.heap.size, 0, none⟩ = some (.int .i64 1969) ∧ w'.cell? ⟨w.heap.size, 1, none⟩ = some (.int .i64 12) ∧ w'.cell? ⟨w.heap.size, 2, none⟩ = some (.int .i64 31) ∧ w'.cell? ⟨w.heap.size, 3, none⟩ = some (.int .i64 23) ∧ w'.cell? ⟨w.heap.size, 4, none⟩ = some (.int .i64 59) ∧ w'.cell? ⟨w.heap.size, 5, none⟩ = some (.int .i64 59) ∧ w'.cell? ⟨w.heap.size, 6, none⟩ = some (.int .i64 3) ∧ Hid (Tb w') ∧ Hid (Below w.heap.size w w'))
    (first
      | exact ⟨(cells7 bx.out).1, (cells7 bx.out).2.1, (cells7 bx.out).2.2.1, (cells7 bx.out).2.2.2.1, (cells7 bx.out).2.2.2.2.1, (cells7 bx.out).2.2.2.2.2.1, (cells7 bx.out).2.2.2.2.2.2, HT, by first | exact hb | exact hide (bl_drew hb.out)⟩
      | (go_split_ands; refine ⟨?_, ?_, ?_, ?_, ?_, ?_, ?_, ?_, ?_⟩ <;> first | exact cellE h1 (by assumption) | exact hide (Tb.below (Hid.out (by assumption)) h1) | exact hide (bel_next (Hid.out (by assumption)) h1)))
    (first
      | (go_at_call 13; go_split_ands; with_reducible refine (C1.out _ (Hid.out (by assumption))).mono ?_; rintro e w6 ⟨rfl, h1⟩)
      | (go_at_call 15; go_split_ands; with_reducible refine (C3.out _ (Hid.out (by assumption))).mono ?_; rintro e w6 ⟨rfl, h1⟩)
      | (go_at_call 15; go_split_ands; with_reducible refine (C4.out _ (Hid.out (by assumption))).mono ?_; rintro e w6 ⟨rfl, h1⟩)
      | (go_at_call 15; go_split_ands; with_reducible refine (C5.out _ (Hid.out (by assumption))).mono ?_; rintro e w6 ⟨rfl, h1⟩))
  all_goals (try go_split_ands)
  all_goals go_wp2
  all_goals go_ret
  all_goals exact ⟨rfl, Hid.out (by assumption)⟩
end l5_
end Go.Proofs.YtbfdjlgpmfhdoaaDoor
