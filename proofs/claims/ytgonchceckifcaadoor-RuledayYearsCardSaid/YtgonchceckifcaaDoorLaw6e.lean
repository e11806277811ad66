/-
  THE WALKS OF THE LAWS OF LAYER 6 (zoneinfolaw06): RuledayYears. No conditions beyond the tables'.
-/
import Derived.Test.YtgonchceckifcaaDoorLaw6d
import Derived.Test.YtgonchceckifcaaDoorRdStep
namespace Go.Proofs.YtgonchceckifcaaDoor
open Go.ChangeShapes Go.WideShapes Go.ChangeAt Go.RowKit
set_option linter.unusedVariables false
namespace l6_
set_option maxRecDepth 100000 in
set_option maxHeartbeats 8000000 in
theorem years (K D M Wk Wd T : Int) (y : Int) (w : World) (hT : Tb w) (w00 : (Lit.int .i64 K).wf = true) (w01 : (Lit.int .i64 D).wf = true) (w02 : (Lit.int .i64 M).wf = true) (w03 : (Lit.int .i64 Wk).wf = true) (w04 : (Lit.int .i64 Wd).wf = true) (w05 : (Lit.int .i64 T).wf = true) (w1 : (Lit.int .i64 y).wf = true) :
    Calls Tryd.prog 5 #[.agg #[.int .i64 K, .int .i64 D, .int .i64 M, .int .i64 Wk, .int .i64 Wd, .int .i64 T], .int .i64 y] w fun e w' => e = .returned (.bool true) ∧ Below w.heap.size w w' := by
  obtain ⟨g0, g1⟩ := wf_i64 w1
  clear w00 w01 w02 w03 w04 w05 w1
  have hb := hide (bl_new w (.cells #[.int .i64 K, .int .i64 D, .int .i64 M, .int .i64 Wk, .int .i64 Wd, .int .i64 T] 23))
  have bx := hide (Bx.new w [.int .i64 K, .int .i64 D, .int .i64 M, .int .i64 Wk, .int .i64 Wd, .int .i64 T] 23)
  have HT := hide (hT.below hb.out)
  clear hT
  rcases hv : decide (RdOk K D M Wk Wd T)
  · replace hv := hide hv
    go_enter Tryd.func5, Tryd.ntmps5
    go_wp2_with fail
    refine (awake _ HT.out).mono ?_
    rintro e w1 ⟨rfl, h1⟩
    replace bx := hide (bx.out.below h1)
    replace HT := hide (HT.out.below h1)
    replace hb := hide (bel_next hb.out h1)
    clear h1
    obtain ⟨x0, x1, x2, x3, x4, x5⟩ := cells6 bx.out
    go_wp2_with fail
    refine (rvalid false _ hv.out).mono ?_
    rintro e w1 ⟨rfl, h1⟩
    replace bx := hide (bx.out.below h1)
    replace HT := hide (HT.out.below h1)
    replace hb := hide (bel_next hb.out h1)
    clear h1
    clear x0 x1 x2 x3 x4 x5
    go_wp2_with fail
    refine (awake _ HT.out).mono ?_
    rintro e w1 ⟨rfl, h1⟩
    replace bx := hide (bx.out.below h1)
    replace HT := hide (HT.out.below h1)
    replace hb := hide (bel_next hb.out h1)
    clear h1
    go_wp2
    go_ret
    exact ⟨rfl, hb.out⟩
  rcases hy : (decide (-200000000000 ≤ y) && decide (y ≤ 200000000000))
  · replace hv := hide hv
    replace hy := hide hy
    go_enter Tryd.func5, Tryd.ntmps5
    go_wp2_with fail
    refine (awake _ HT.out).mono ?_
    rintro e w1 ⟨rfl, h1⟩
    replace bx := hide (bx.out.below h1)
    replace HT := hide (HT.out.below h1)
    replace hb := hide (bel_next hb.out h1)
    clear h1
    obtain ⟨x0, x1, x2, x3, x4, x5⟩ := cells6 bx.out
    go_wp2_with fail
    refine (rvalid true _ hv.out).mono ?_
    rintro e w1 ⟨rfl, h1⟩
    replace bx := hide (bx.out.below h1)
    replace HT := hide (HT.out.below h1)
    replace hb := hide (bel_next hb.out h1)
    clear h1
    clear x0 x1 x2 x3 x4 x5
    go_wp2_with fail
    refine (inyear false _ hy.out).mono ?_
    rintro e w2 ⟨rfl, rfl⟩
    go_wp2_with fail
    refine (awake _ HT.out).mono ?_
    rintro e w1 ⟨rfl, h1⟩
    replace bx := hide (bx.out.below h1)
    replace HT := hide (HT.out.below h1)
    replace hb := hide (bel_next hb.out h1)
    clear h1
    go_wp2
    go_ret
    exact ⟨rfl, hb.out⟩
  have hyb : -200000000000 ≤ y ∧ y ≤ 200000000000 := by simpa using hy
  rcases hz : (decide (-200000000000 ≤ y + 1) && decide (y + 1 ≤ 200000000000))
  · replace hv := hide hv
    replace hy := hide hy
    replace hz := hide hz
    obtain ⟨y0, y1⟩ := hyb
    go_enter Tryd.func5, Tryd.ntmps5
    go_wp2_with fail
    refine (awake _ HT.out).mono ?_
    rintro e w1 ⟨rfl, h1⟩
    replace bx := hide (bx.out.below h1)
    replace HT := hide (HT.out.below h1)
    replace hb := hide (bel_next hb.out h1)
    clear h1
    obtain ⟨x0, x1, x2, x3, x4, x5⟩ := cells6 bx.out
    go_wp2_with fail
    refine (rvalid true _ hv.out).mono ?_
    rintro e w1 ⟨rfl, h1⟩
    replace bx := hide (bx.out.below h1)
    replace HT := hide (HT.out.below h1)
    replace hb := hide (bel_next hb.out h1)
    clear h1
    clear x0 x1 x2 x3 x4 x5
    go_wp2_with fail
    refine (inyear true _ hy.out).mono ?_
    rintro e w2 ⟨rfl, rfl⟩
    go_wp2_with fail
    refine (inyear false _ hz.out).mono ?_
    rintro e w2 ⟨rfl, rfl⟩
    go_wp2_with fail
    refine (awake _ HT.out).mono ?_
    rintro e w1 ⟨rfl, h1⟩
    replace bx := hide (bx.out.below h1)
    replace HT := hide (HT.out.below h1)
    replace hb := hide (bel_next hb.out h1)
    clear h1
    go_wp2
    go_ret
    exact ⟨rfl, hb.out⟩
  have ok := of_decide_eq_true hv
  replace hv := hide hv
  replace hy := hide hy
  replace hz := hide hz
  obtain ⟨y0, y1⟩ := hyb
  have okn : RdOk K D M Wk Wd 0 := ⟨by omega, by omega, ok.2.2⟩
  have nb := rday_bd ok (show -200000000001 ≤ y by omega) (by omega)
  have nb2 := rday_bd ok (show -200000000001 ≤ y + 1 by omega) (by omega)
  have tb : -604799 ≤ T ∧ T ≤ 604799 := ⟨ok.1, ok.2.1⟩
  have D1 := hide (fun w hT => rd_.Day y w hT ok (by omega) (by omega))
  have D2 := hide (fun w hT => rd_.Day (y + 1) w hT ok (by omega) (by omega))
  have A1 := hide (fun w hT => rd_.At y w hT ok (by omega) (by omega))
  have A0 := hide (fun w hT => rd_.At y w hT okn (by omega) (by omega))
  have D0 := hide (fun w hT => rd_.Day y w hT okn (by omega) (by omega))
  have hst : (K = 3 ∧ (rday K D M Wk Wd (y + 1) - rday K D M Wk Wd y = 364 ∨ rday K D M Wk Wd (y + 1) - rday K D M Wk Wd y = 371)) ∨ ((K = 1 ∨ K = 2) ∧ (rday K D M Wk Wd (y + 1) - rday K D M Wk Wd y = 365 ∨ rday K D M Wk Wd (y + 1) - rday K D M Wk Wd y = 366)) := by
    obtain ⟨_, _, ⟨rfl, _⟩ | ⟨rfl, _⟩ | ⟨rfl, _, h2, h3, h4, h5, h6, h7⟩⟩ := ok
    · exact .inr ⟨.inl rfl, rdj_step y D⟩
    · refine .inr ⟨.inr rfl, ?_⟩
      have h1 := ystart_succ y
      have h2 := ylen_bd y
      show ystart (y + 1) + D - (ystart y + D) = 365 ∨ ystart (y + 1) + D - (ystart y + D) = 366
      omega
    · exact .inl ⟨rfl, rdm_step y M Wk Wd h2 h3 h6 h7 h4 h5⟩
  unfold vrd at D1 D2 A1 A0 D0
  clear ok okn
  generalize rday K D M Wk Wd y = n at *
  generalize rday K D M Wk Wd (y + 1) = n2 at *
  obtain ⟨nb, nb'⟩ := nb
  obtain ⟨nb2, nb2'⟩ := nb2
  obtain ⟨tb, tb'⟩ := tb
  obtain ⟨P, hP⟩ : ∃ P, P = n * 86400 := ⟨_, rfl⟩
  obtain ⟨V, hV⟩ : ∃ V, V = P + T := ⟨_, rfl⟩
  rw [← hP, ← hV] at A1
  rw [← hP, Int.add_zero] at A0
  have e1 : IntKind.i64.wrap (n * 86400) = P := by rw [IntKind.wrap_i64]; omega
  have e2 : IntKind.i64.wrap (V - P) = T := by rw [IntKind.wrap_i64]; omega
  have e3 : IntKind.i64.wrap (y + 1) = y + 1 := by rw [IntKind.wrap_i64]; omega
  replace hP := hide hP
  replace hV := hide hV
  obtain ⟨s, hs⟩ : ∃ s, s = n2 - n := ⟨_, rfl⟩
  rw [← hs] at hst
  have e4 : IntKind.i64.wrap (n2 - n) = s := by rw [IntKind.wrap_i64]; omega
  replace hs := hide hs
  replace hst := hide hst
  go_enter Tryd.func5, Tryd.ntmps5
  go_wp2_with fail
  refine (awake _ HT.out).mono ?_
  rintro e w1 ⟨rfl, h1⟩
  replace bx := hide (bx.out.below h1)
  replace HT := hide (HT.out.below h1)
  replace hb := hide (bel_next hb.out h1)
  clear h1
  obtain ⟨x0, x1, x2, x3, x4, x5⟩ := cells6 bx.out
  go_wp2_with fail
  refine (rvalid true _ hv.out).mono ?_
  rintro e w1 ⟨rfl, h1⟩
  replace bx := hide (bx.out.below h1)
  replace HT := hide (HT.out.below h1)
  replace hb := hide (bel_next hb.out h1)
  clear h1
  clear x0 x1 x2 x3 x4 x5
  go_wp2_with fail
  refine (inyear true _ hy.out).mono ?_
  rintro e w2 ⟨rfl, rfl⟩
  go_wp2_with fail
  refine (inyear true _ hz.out).mono ?_
  rintro e w2 ⟨rfl, rfl⟩
  go_upto_region 3 with fail
  go_region_held3 (fun w' => w'.cell? ⟨w.heap.size, 0, none⟩ = some (.int .i64 K) ∧ w'.cell? ⟨w.heap.size, 1, none⟩ = some (.int .i64 D) ∧ w'.cell? ⟨w.heap.size, 2, none⟩ = some (.int .i64 M) ∧ w'.cell? ⟨w.heap.size, 3, none⟩ = some (.int .i64 Wk) ∧ w'.cell? ⟨w.heap.size, 4, none⟩ = some (.int .i64 Wd) ∧ w'.cell? ⟨w.heap.size, 5, none⟩ = some (.int .i64 T) ∧ Hid (Bx w' w.heap.size [.int .i64 K, .int .i64 D, .int .i64 M, .int .i64 Wk, .int .i64 Wd, .int .i64 T]) ∧ Hid (Tb w') ∧ Hid (Below w.heap.size w w'))
    (first
      | exact ⟨(cells6 bx.out).1, (cells6 bx.out).2.1, (cells6 bx.out).2.2.1, (cells6 bx.out).2.2.2.1, (cells6 bx.out).2.2.2.2.1, (cells6 bx.out).2.2.2.2.2, bx, HT, by first | exact hb | exact hide (bl_drew hb.out)⟩
      | (go_split_ands; refine ⟨?_, ?_, ?_, ?_, ?_, ?_, ?_, ?_, ?_⟩ <;> first | exact cellE h1' (by assumption) | exact hide (Bx.below (Hid.out (by assumption)) h1') | exact hide (Tb.below (Hid.out (by assumption)) h1') | exact hide (bel_next (Hid.out (by assumption)) h1')))
    (first
      | (go_at_call 12; go_split_ands; with_reducible refine (D2.out _ (Hid.out (by assumption))).mono ?_; rintro e w6 ⟨rfl, h1'⟩)
      | (go_at_call 12; go_split_ands; with_reducible refine (D1.out _ (Hid.out (by assumption))).mono ?_; rintro e w6 ⟨rfl, h1'⟩))
  try go_split_ands
  clear bx HT hb
  rename Hid (Bx _ _ _) => bx
  rename Hid (Tb _) => HT
  rename Hid (Below _ _ _) => hb
  obtain ⟨x0, x1, x2, x3, x4, x5⟩ := cells6 bx.out
  have f := bx.out.fr
  go_upto_region 6 with fail
  clear x0 x1 x2 x3 x4 x5 f
  have bn := hide (Bx.new w6 [.int .i64 K, .int .i64 D, .int .i64 M, .int .i64 Wk, .int .i64 Wd, .int .i64 0] 23)
  replace bx := hide (bx.out.alloc (.cells #[.int .i64 K, .int .i64 D, .int .i64 M, .int .i64 Wk, .int .i64 Wd, .int .i64 0] 23))
  replace HT := hide (HT.out.below (bl_new w6 (.cells #[.int .i64 K, .int .i64 D, .int .i64 M, .int .i64 Wk, .int .i64 Wd, .int .i64 0] 23)))
  replace hb := hide (bl_alloc hb.out (.cells #[.int .i64 K, .int .i64 D, .int .i64 M, .int .i64 Wk, .int .i64 Wd, .int .i64 0] 23))
  go_region_held3 (fun w' => w'.cell? ⟨w.heap.size, 0, none⟩ = some (.int .i64 K) ∧ w'.cell? ⟨w.heap.size, 1, none⟩ = some (.int .i64 D) ∧ w'.cell? ⟨w.heap.size, 2, none⟩ = some (.int .i64 M) ∧ w'.cell? ⟨w.heap.size, 3, none⟩ = some (.int .i64 Wk) ∧ w'.cell? ⟨w.heap.size, 4, none⟩ = some (.int .i64 Wd) ∧ w'.cell? ⟨w.heap.size, 5, none⟩ = some (.int .i64 T) ∧ w'.cell? ⟨w6.heap.size, 0, none⟩ = some (.int .i64 K) ∧ w'.cell? ⟨w6.heap.size, 1, none⟩ = some (.int .i64 D) ∧ w'.cell? ⟨w6.heap.size, 2, none⟩ = some (.int .i64 M) ∧ w'.cell? ⟨w6.heap.size, 3, none⟩ = some (.int .i64 Wk) ∧ w'.cell? ⟨w6.heap.size, 4, none⟩ = some (.int .i64 Wd) ∧ w'.cell? ⟨w6.heap.size, 5, none⟩ = some (.int .i64 0) ∧ Hid (Bx w' w.heap.size [.int .i64 K, .int .i64 D, .int .i64 M, .int .i64 Wk, .int .i64 Wd, .int .i64 T]) ∧ Hid (Tb w') ∧ Hid (Below w.heap.size w w'))
    (first
      | exact ⟨(cells6 bx.out).1, (cells6 bx.out).2.1, (cells6 bx.out).2.2.1, (cells6 bx.out).2.2.2.1, (cells6 bx.out).2.2.2.2.1, (cells6 bx.out).2.2.2.2.2, (cells6 bn.out).1, (cells6 bn.out).2.1, (cells6 bn.out).2.2.1, (cells6 bn.out).2.2.2.1, (cells6 bn.out).2.2.2.2.1, (cells6 bn.out).2.2.2.2.2, bx, HT, by first | exact hb | exact hide (bl_drew hb.out)⟩
      | (go_split_ands; refine ⟨?_, ?_, ?_, ?_, ?_, ?_, ?_, ?_, ?_, ?_, ?_, ?_, ?_, ?_, ?_⟩ <;> first | exact cellE h1' (by assumption) | exact hide (Bx.below (Hid.out (by assumption)) h1') | exact hide (Tb.below (Hid.out (by assumption)) h1') | exact hide (bel_next (Hid.out (by assumption)) h1')))
    (first
      | (go_at_call 14; go_split_ands; with_reducible refine (A1.out _ (Hid.out (by assumption))).mono ?_; rintro e w7 ⟨rfl, h1'⟩)
      | (go_at_call 14; go_split_ands; with_reducible refine (A0.out _ (Hid.out (by assumption))).mono ?_; rintro e w7 ⟨rfl, h1'⟩)
      | (go_at_call 12; go_split_ands; with_reducible refine (D1.out _ (Hid.out (by assumption))).mono ?_; rintro e w7 ⟨rfl, h1'⟩))
  clear bn
  try go_split_ands
  clear bx HT hb
  rename Hid (Bx _ _ _) => bx
  rename Hid (Tb _) => HT
  rename Hid (Below _ _ _) => hb
  have hst' := hst.out
  clear hst e1 e2 e3 e4 hs hP hV D1 D2 A1 A0 D0 hv
  rcases hst' with ⟨rfl, rfl | rfl⟩ | ⟨rfl | rfl, rfl | rfl⟩
  all_goals
    obtain ⟨x0, x1, x2, x3, x4, x5⟩ := cells6 bx.out
    go_wp2
    go_ret
    exact ⟨rfl, hb.out⟩
end l6_
end Go.Proofs.YtgonchceckifcaaDoor
