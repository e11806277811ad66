/-
  THE WALKS OF THE LAWS OF LAYER 6 (zoneinfolaw06): RuledayMatchesReference. No conditions beyond the tables'.
-/
import Derived.Test.YtgonchceckifcaaDoorLaw6
import Derived.Deep.RegionHeld3
import Derived.Deep.DeepCutAuto
namespace Go.Proofs.YtgonchceckifcaaDoor
open Go.ChangeShapes Go.WideShapes Go.ChangeAt Go.RowKit
set_option linter.unusedVariables false
/-- the fields of a rule day's box, out of a world that holds them. -/
theorem bx_of {w' : World} {g : Nat} {a b c d e f : Value} (hg : g < w'.heap.size) (hfr : ∀ j, w'.frozen? ⟨g, j, none⟩ = false) (h : w'.cell? ⟨g, 0, none⟩ = some a ∧ w'.cell? ⟨g, 1, none⟩ = some b ∧ w'.cell? ⟨g, 2, none⟩ = some c ∧ w'.cell? ⟨g, 3, none⟩ = some d ∧ w'.cell? ⟨g, 4, none⟩ = some e ∧ w'.cell? ⟨g, 5, none⟩ = some f) : Bx w' g [a, b, c, d, e, f] := by
  refine ⟨hg, fun j v hj => ?_, hfr⟩
  obtain ⟨h0, h1, h2, h3, h4, h5⟩ := h
  match j, hj with
  | 0, hj => cases hj; exact h0
  | 1, hj => cases hj; exact h1
  | 2, hj => cases hj; exact h2
  | 3, hj => cases hj; exact h3
  | 4, hj => cases hj; exact h4
  | 5, hj => cases hj; exact h5
namespace l6_
set_option maxRecDepth 100000 in
set_option maxHeartbeats 8000000 in
theorem mref (K D M Wk Wd T : Int) (y : Int) (w : World) (hT : Tb w) (w00 : (Lit.int .i64 K).wf = true) (w01 : (Lit.int .i64 D).wf = true) (w02 : (Lit.int .i64 M).wf = true) (w03 : (Lit.int .i64 Wk).wf = true) (w04 : (Lit.int .i64 Wd).wf = true) (w05 : (Lit.int .i64 T).wf = true) (w1 : (Lit.int .i64 y).wf = true) :
    Calls Tryd.prog 3 #[.agg #[.int .i64 K, .int .i64 D, .int .i64 M, .int .i64 Wk, .int .i64 Wd, .int .i64 T], .int .i64 y] w fun e w' => e = .returned (.bool true) ∧ Below w.heap.size w w' := by
  clear w01 w02 w03 w04 w05 w1
  have hb := hide (bl_new w (.cells #[.int .i64 K, .int .i64 D, .int .i64 M, .int .i64 Wk, .int .i64 Wd, .int .i64 T] 23))
  have bx := hide (Bx.new w [.int .i64 K, .int .i64 D, .int .i64 M, .int .i64 Wk, .int .i64 Wd, .int .i64 T] 23)
  have HT := hide (hT.below hb.out)
  clear hT
  obtain ⟨b, hv⟩ : ∃ b, Hid (decide (RdOk K D M Wk Wd T) = b) := ⟨_, rfl⟩
  have V1 := hide (fun w hT => rd_.Valid_is b w hT w00 hv.out)
  have V2 : Hid (∀ w : World, Calls Tryd.prog 10 #[vrd K D M Wk Wd T] w fun e w' => e = .returned (.bool b) ∧ Below w.heap.size w w') := hide (fun w => by rw [← hv.out]; exact r6_.Valid K D M Wk Wd T w)
  have Aw := hide (fun w hT => awake w hT)
  unfold vrd at V1 V2
  cases b
  · go_enter Tryd.func3, Tryd.ntmps3
    go_upto_region 1 with fail
    go_region_held3 (fun w' => w'.cell? ⟨w.heap.size, 0, none⟩ = some (.int .i64 K) ∧ w'.cell? ⟨w.heap.size, 1, none⟩ = some (.int .i64 D) ∧ w'.cell? ⟨w.heap.size, 2, none⟩ = some (.int .i64 M) ∧ w'.cell? ⟨w.heap.size, 3, none⟩ = some (.int .i64 Wk) ∧ w'.cell? ⟨w.heap.size, 4, none⟩ = some (.int .i64 Wd) ∧ w'.cell? ⟨w.heap.size, 5, none⟩ = some (.int .i64 T) ∧ Hid (Bx w' w.heap.size [.int .i64 K, .int .i64 D, .int .i64 M, .int .i64 Wk, .int .i64 Wd, .int .i64 T]) ∧ Hid (Tb w') ∧ Hid (Below w.heap.size w w'))
      (first
        | exact ⟨(cells6 bx.out).1, (cells6 bx.out).2.1, (cells6 bx.out).2.2.1, (cells6 bx.out).2.2.2.1, (cells6 bx.out).2.2.2.2.1, (cells6 bx.out).2.2.2.2.2, bx, HT, by first | exact hb | exact hide (bl_drew hb.out)⟩
        | (go_split_ands; refine ⟨?_, ?_, ?_, ?_, ?_, ?_, ?_, ?_, ?_⟩ <;> first | exact cellE h1' (by assumption) | exact hide (Bx.below (Hid.out (by assumption)) h1') | exact hide (Tb.below (Hid.out (by assumption)) h1') | exact hide (bel_next (Hid.out (by assumption)) h1')))
      (first
        | (go_at_call 8; go_split_ands; with_reducible refine (Aw.out _ (Hid.out (by assumption))).mono ?_; rintro e w6 ⟨rfl, h1'⟩)
        | (go_at_call 9; go_split_ands; with_reducible refine (V1.out _ (Hid.out (by assumption))).mono ?_; rintro e w6 ⟨rfl, h1'⟩)
        | (go_at_call 10; go_split_ands; with_reducible refine (V2.out _).mono ?_; rintro e w6 ⟨rfl, h1'⟩))
    try go_split_ands
    clear bx HT hb
    rename Hid (Bx _ _ _) => bx
    rename Hid (Tb _) => HT
    rename Hid (Below _ _ _) => hb
    obtain ⟨x0, x1, x2, x3, x4, x5⟩ := cells6 bx.out
    go_wp2_with fail
    refine (V2.out _).mono ?_
    rintro e w1 ⟨rfl, h1⟩
    clear x0 x1 x2 x3 x4 x5
    replace bx := hide (bx.out.below h1)
    replace HT := hide (HT.out.below h1)
    replace hb := hide (bel_next hb.out h1)
    clear h1
    go_wp2
    go_ret
    exact ⟨rfl, hb.out⟩
  · by_cases hin : -200000000000 ≤ y ∧ y ≤ 200000000000
    · have Y1 : Hid (∀ w : World, Calls Tryd.prog 11 #[.int .i64 y] w fun e w' => e = .returned (.bool true) ∧ w = w') := hide (fun w => by
        have h := r6_.InYear y w
        rwa [show (decide (-200000000000 ≤ y) && decide (y ≤ 200000000000)) = true by simp; omega] at h)
      have ok : Hid (RdOk K D M Wk Wd T) := hide (of_decide_eq_true hv.out)
      have D1 := hide (fun w hT => rd_.Day y w hT ok.out (by omega) (by omega))
      have D2 := hide (fun w => r6_.Day y w ok.out (by omega) (by omega))
      have A1 := hide (fun w hT => rd_.At y w hT ok.out (by omega) (by omega))
      have A2 := hide (fun w => r6_.At y w ok.out (by omega) (by omega))
      generalize rday K D M Wk Wd y * 86400 + T = v at *
      generalize rday K D M Wk Wd y = n at *
      unfold vrd at D1 D2 A1 A2
      clear hin
      go_enter Tryd.func3, Tryd.ntmps3
      go_upto_region 1 with fail
      go_region_held3 (fun w' => w'.cell? ⟨w.heap.size, 0, none⟩ = some (.int .i64 K) ∧ w'.cell? ⟨w.heap.size, 1, none⟩ = some (.int .i64 D) ∧ w'.cell? ⟨w.heap.size, 2, none⟩ = some (.int .i64 M) ∧ w'.cell? ⟨w.heap.size, 3, none⟩ = some (.int .i64 Wk) ∧ w'.cell? ⟨w.heap.size, 4, none⟩ = some (.int .i64 Wd) ∧ w'.cell? ⟨w.heap.size, 5, none⟩ = some (.int .i64 T) ∧ Hid (Bx w' w.heap.size [.int .i64 K, .int .i64 D, .int .i64 M, .int .i64 Wk, .int .i64 Wd, .int .i64 T]) ∧ Hid (Tb w') ∧ Hid (Below w.heap.size w w'))
        (first
          | exact ⟨(cells6 bx.out).1, (cells6 bx.out).2.1, (cells6 bx.out).2.2.1, (cells6 bx.out).2.2.2.1, (cells6 bx.out).2.2.2.2.1, (cells6 bx.out).2.2.2.2.2, bx, HT, by first | exact hb | exact hide (bl_drew hb.out)⟩
          | (go_split_ands; refine ⟨?_, ?_, ?_, ?_, ?_, ?_, ?_, ?_, ?_⟩ <;> first | exact cellE h1' (by assumption) | exact hide (Bx.below (Hid.out (by assumption)) h1') | exact hide (Tb.below (Hid.out (by assumption)) h1') | exact hide (bel_next (Hid.out (by assumption)) h1')))
        (first
          | (go_at_call 8; go_split_ands; with_reducible refine (Aw.out _ (Hid.out (by assumption))).mono ?_; rintro e w6 ⟨rfl, h1'⟩)
          | (go_at_call 9; go_split_ands; with_reducible refine (V1.out _ (Hid.out (by assumption))).mono ?_; rintro e w6 ⟨rfl, h1'⟩)
          | (go_at_call 10; go_split_ands; with_reducible refine (V2.out _).mono ?_; rintro e w6 ⟨rfl, h1'⟩))
      try go_split_ands
      clear bx HT hb
      rename Hid (Bx _ _ _) => bx
      rename Hid (Tb _) => HT
      rename Hid (Below _ _ _) => hb
      obtain ⟨x0, x1, x2, x3, x4, x5⟩ := cells6 bx.out
      go_wp2_with fail
      refine (V2.out _).mono ?_
      rintro e w1 ⟨rfl, h1⟩
      clear x0 x1 x2 x3 x4 x5
      replace bx := hide (bx.out.below h1)
      replace HT := hide (HT.out.below h1)
      replace hb := hide (bel_next hb.out h1)
      clear h1
      go_wp2_with fail
      refine (Y1.out _).mono ?_
      rintro e w2 ⟨rfl, rfl⟩
      go_upto_region 5 with fail
      go_region_held3 (fun w' => w'.cell? ⟨w.heap.size, 0, none⟩ = some (.int .i64 K) ∧ w'.cell? ⟨w.heap.size, 1, none⟩ = some (.int .i64 D) ∧ w'.cell? ⟨w.heap.size, 2, none⟩ = some (.int .i64 M) ∧ w'.cell? ⟨w.heap.size, 3, none⟩ = some (.int .i64 Wk) ∧ w'.cell? ⟨w.heap.size, 4, none⟩ = some (.int .i64 Wd) ∧ w'.cell? ⟨w.heap.size, 5, none⟩ = some (.int .i64 T) ∧ Hid (Bx w' w.heap.size [.int .i64 K, .int .i64 D, .int .i64 M, .int .i64 Wk, .int .i64 Wd, .int .i64 T]) ∧ Hid (Tb w') ∧ Hid (Below w.heap.size w w'))
        (first
          | exact ⟨(cells6 bx.out).1, (cells6 bx.out).2.1, (cells6 bx.out).2.2.1, (cells6 bx.out).2.2.2.1, (cells6 bx.out).2.2.2.2.1, (cells6 bx.out).2.2.2.2.2, bx, HT, by first | exact hb | exact hide (bl_drew hb.out)⟩
          | (go_split_ands; refine ⟨?_, ?_, ?_, ?_, ?_, ?_, ?_, ?_, ?_⟩ <;> first | exact cellE h1' (by assumption) | exact hide (Bx.below (Hid.out (by assumption)) h1') | exact hide (Tb.below (Hid.out (by assumption)) h1') | exact hide (bel_next (Hid.out (by assumption)) h1')))
        (first
          | (go_at_call 12; go_split_ands; with_reducible refine (D1.out _ (Hid.out (by assumption))).mono ?_; rintro e w6 ⟨rfl, h1'⟩)
          | (go_at_call 13; go_split_ands; with_reducible refine (D2.out _).mono ?_; rintro e w6 ⟨rfl, h1'⟩)
          | (go_at_call 14; go_split_ands; with_reducible refine (A1.out _ (Hid.out (by assumption))).mono ?_; rintro e w6 ⟨rfl, h1'⟩)
          | (go_at_call 15; go_split_ands; with_reducible refine (A2.out _).mono ?_; rintro e w6 ⟨rfl, h1'⟩))
      try go_split_ands
      clear bx HT hb
      rename Hid (Bx _ _ _) => bx
      rename Hid (Tb _) => HT
      rename Hid (Below _ _ _) => hb
      go_wp2
      go_ret
      exact ⟨rfl, hb.out⟩
    · have Y1 : Hid (∀ w : World, Calls Tryd.prog 11 #[.int .i64 y] w fun e w' => e = .returned (.bool false) ∧ w = w') := hide (fun w => by
        have h := r6_.InYear y w
        rwa [show (decide (-200000000000 ≤ y) && decide (y ≤ 200000000000)) = false by simp; omega] at h)
      clear hin
      go_enter Tryd.func3, Tryd.ntmps3
      go_upto_region 1 with fail
      go_region_held3 (fun w' => w'.cell? ⟨w.heap.size, 0, none⟩ = some (.int .i64 K) ∧ w'.cell? ⟨w.heap.size, 1, none⟩ = some (.int .i64 D) ∧ w'.cell? ⟨w.heap.size, 2, none⟩ = some (.int .i64 M) ∧ w'.cell? ⟨w.heap.size, 3, none⟩ = some (.int .i64 Wk) ∧ w'.cell? ⟨w.heap.size, 4, none⟩ = some (.int .i64 Wd) ∧ w'.cell? ⟨w.heap.size, 5, none⟩ = some (.int .i64 T) ∧ Hid (Bx w' w.heap.size [.int .i64 K, .int .i64 D, .int .i64 M, .int .i64 Wk, .int .i64 Wd, .int .i64 T]) ∧ Hid (Tb w') ∧ Hid (Below w.heap.size w w'))
        (first
          | exact ⟨(cells6 bx.out).1, (cells6 bx.out).2.1, (cells6 bx.out).2.2.1, (cells6 bx.out).2.2.2.1, (cells6 bx.out).2.2.2.2.1, (cells6 bx.out).2.2.2.2.2, bx, HT, by first | exact hb | exact hide (bl_drew hb.out)⟩
          | (go_split_ands; refine ⟨?_, ?_, ?_, ?_, ?_, ?_, ?_, ?_, ?_⟩ <;> first | exact cellE h1' (by assumption) | exact hide (Bx.below (Hid.out (by assumption)) h1') | exact hide (Tb.below (Hid.out (by assumption)) h1') | exact hide (bel_next (Hid.out (by assumption)) h1')))
        (first
          | (go_at_call 8; go_split_ands; with_reducible refine (Aw.out _ (Hid.out (by assumption))).mono ?_; rintro e w6 ⟨rfl, h1'⟩)
          | (go_at_call 9; go_split_ands; with_reducible refine (V1.out _ (Hid.out (by assumption))).mono ?_; rintro e w6 ⟨rfl, h1'⟩)
          | (go_at_call 10; go_split_ands; with_reducible refine (V2.out _).mono ?_; rintro e w6 ⟨rfl, h1'⟩))
      try go_split_ands
      clear bx HT hb
      rename Hid (Bx _ _ _) => bx
      rename Hid (Tb _) => HT
      rename Hid (Below _ _ _) => hb
      obtain ⟨x0, x1, x2, x3, x4, x5⟩ := cells6 bx.out
      go_wp2_with fail
      refine (V2.out _).mono ?_
      rintro e w1 ⟨rfl, h1⟩
      clear x0 x1 x2 x3 x4 x5
      replace bx := hide (bx.out.below h1)
      replace HT := hide (HT.out.below h1)
      replace hb := hide (bel_next hb.out h1)
      clear h1
      go_wp2_with fail
      refine (Y1.out _).mono ?_
      rintro e w2 ⟨rfl, rfl⟩
      go_wp2
      go_ret
      exact ⟨rfl, hb.out⟩
end l6_
end Go.Proofs.YtgonchceckifcaaDoor
