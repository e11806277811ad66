/-
  THE WALKS OF THE LAWS OF LAYER 6 (zoneinfolaw06): RuledayMatchesCalendar. No conditions beyond the tables'.
-/
import Derived.Test.YtgonchceckifcaaDoorLaw6a
namespace Go.Proofs.YtgonchceckifcaaDoor
open Go.ChangeShapes Go.WideShapes Go.ChangeAt Go.RowKit
set_option linter.unusedVariables false
theorem inyear {y : Int} (b : Bool) (w : World) (h : (decide (-200000000000 ≤ y) && decide (y ≤ 200000000000)) = b) : Calls Tryd.prog 11 #[.int .i64 y] w fun e w' => e = .returned (.bool b) ∧ w = w' := by subst h; exact r6_.InYear y w
theorem rvalid {K D M Wk Wd T : Int} (b : Bool) (w : World) (h : decide (RdOk K D M Wk Wd T) = b) : Calls Tryd.prog 10 #[vrd K D M Wk Wd T] w fun e w' => e = .returned (.bool b) ∧ Below w.heap.size w w' := by subst h; exact r6_.Valid K D M Wk Wd T w
namespace l6_
set_option maxRecDepth 100000 in
set_option maxHeartbeats 8000000 in
theorem calendar (K D M Wk Wd T : Int) (y z : Int) (w : World) (hT : Tb w) (w00 : (Lit.int .i64 K).wf = true) (w01 : (Lit.int .i64 D).wf = true) (w02 : (Lit.int .i64 M).wf = true) (w03 : (Lit.int .i64 Wk).wf = true) (w04 : (Lit.int .i64 Wd).wf = true) (w05 : (Lit.int .i64 T).wf = true) (w1 : (Lit.int .i64 y).wf = true) (w2 : (Lit.int .i64 z).wf = true) :
    Calls Tryd.prog 4 #[.agg #[.int .i64 K, .int .i64 D, .int .i64 M, .int .i64 Wk, .int .i64 Wd, .int .i64 T], .int .i64 y, .int .i64 z] w fun e w' => e = .returned (.bool true) ∧ Below w.heap.size w w' := by
  clear w00 w01 w02 w03 w04 w05 w1 w2
  have hb := hide (bl_new w (.cells #[.int .i64 K, .int .i64 D, .int .i64 M, .int .i64 Wk, .int .i64 Wd, .int .i64 T] 23))
  have bx := hide (Bx.new w [.int .i64 K, .int .i64 D, .int .i64 M, .int .i64 Wk, .int .i64 Wd, .int .i64 T] 23)
  have HT := hide (hT.below hb.out)
  clear hT
  rcases hv : decide (RdOk K D M Wk Wd T)
  · replace hv := hide hv
    go_enter Tryd.func4, Tryd.ntmps4
    go_wp2_with fail
    refine (awake _ HT.out).mono ?_
    rintro e w1 ⟨rfl, h1⟩
    replace bx := hide (bx.out.below h1)
    replace HT := hide (HT.out.below h1)
    replace hb := hide (bel_next hb.out h1)
    clear h1
    obtain ⟨x0, x1, x2, x3, x4, x5⟩ := cells6 bx.out
    go_wp2_with fail
    refine (rvalid false _ hv.out).mono ?_
    rintro e w1 ⟨rfl, h1⟩
    replace bx := hide (bx.out.below h1)
    replace HT := hide (HT.out.below h1)
    replace hb := hide (bel_next hb.out h1)
    clear h1
    clear x0 x1 x2 x3 x4 x5
    go_wp2_with fail
    refine (awake _ HT.out).mono ?_
    rintro e w1 ⟨rfl, h1⟩
    replace bx := hide (bx.out.below h1)
    replace HT := hide (HT.out.below h1)
    replace hb := hide (bel_next hb.out h1)
    clear h1
    go_wp2
    go_ret
    exact ⟨rfl, hb.out⟩
  rcases hy : (decide (-200000000000 ≤ y) && decide (y ≤ 200000000000))
  · replace hv := hide hv
    replace hy := hide hy
    go_enter Tryd.func4, Tryd.ntmps4
    go_wp2_with fail
    refine (awake _ HT.out).mono ?_
    rintro e w1 ⟨rfl, h1⟩
    replace bx := hide (bx.out.below h1)
    replace HT := hide (HT.out.below h1)
    replace hb := hide (bel_next hb.out h1)
    clear h1
    obtain ⟨x0, x1, x2, x3, x4, x5⟩ := cells6 bx.out
    go_wp2_with fail
    refine (rvalid true _ hv.out).mono ?_
    rintro e w1 ⟨rfl, h1⟩
    replace bx := hide (bx.out.below h1)
    replace HT := hide (HT.out.below h1)
    replace hb := hide (bel_next hb.out h1)
    clear h1
    clear x0 x1 x2 x3 x4 x5
    go_wp2_with fail
    refine (inyear false _ hy.out).mono ?_
    rintro e w2 ⟨rfl, rfl⟩
    go_wp2_with fail
    refine (awake _ HT.out).mono ?_
    rintro e w1 ⟨rfl, h1⟩
    replace bx := hide (bx.out.below h1)
    replace HT := hide (HT.out.below h1)
    replace hb := hide (bel_next hb.out h1)
    clear h1
    go_wp2
    go_ret
    exact ⟨rfl, hb.out⟩
  rcases hz : (decide (-200000000000 ≤ z) && decide (z ≤ 200000000000))
  · replace hv := hide hv
    replace hy := hide hy
    replace hz := hide hz
    go_enter Tryd.func4, Tryd.ntmps4
    go_wp2_with fail
    refine (awake _ HT.out).mono ?_
    rintro e w1 ⟨rfl, h1⟩
    replace bx := hide (bx.out.below h1)
    replace HT := hide (HT.out.below h1)
    replace hb := hide (bel_next hb.out h1)
    clear h1
    obtain ⟨x0, x1, x2, x3, x4, x5⟩ := cells6 bx.out
    go_wp2_with fail
    refine (rvalid true _ hv.out).mono ?_
    rintro e w1 ⟨rfl, h1⟩
    replace bx := hide (bx.out.below h1)
    replace HT := hide (HT.out.below h1)
    replace hb := hide (bel_next hb.out h1)
    clear h1
    clear x0 x1 x2 x3 x4 x5
    go_wp2_with fail
    refine (inyear true _ hy.out).mono ?_
    rintro e w2 ⟨rfl, rfl⟩
    go_wp2_with fail
    refine (inyear false _ hz.out).mono ?_
    rintro e w2 ⟨rfl, rfl⟩
    go_wp2_with fail
    refine (awake _ HT.out).mono ?_
    rintro e w1 ⟨rfl, h1⟩
    replace bx := hide (bx.out.below h1)
    replace HT := hide (HT.out.below h1)
    replace hb := hide (bel_next hb.out h1)
    clear h1
    go_wp2
    go_ret
    exact ⟨rfl, hb.out⟩
  have hyb : -200000000000 ≤ y ∧ y ≤ 200000000000 := by simpa using hy
  have hzb : -200000000000 ≤ z ∧ z ≤ 200000000000 := by simpa using hz
  have ok := of_decide_eq_true hv
  replace hv := hide hv
  replace hy := hide hy
  replace hz := hide hz
  obtain ⟨y0, y1⟩ := hyb
  obtain ⟨z0, z1⟩ := hzb
  have nb := rday_bd ok (show -200000000001 ≤ y by omega) (by omega)
  have D1 := hide (fun w hT => rd_.Day y w hT ok (by omega) (by omega))
  have D2 := hide (fun w hT => rd_.Day z w hT ok (by omega) (by omega))
  have nz := rday_bd ok (show -200000000001 ≤ z by omega) (by omega)
  obtain ⟨ok1, ok2, ⟨rfl, h2, h3, rfl, rfl, rfl⟩ | ⟨rfl, h2, h3, rfl, rfl, rfl⟩ | ⟨rfl, rfl, h2, h3, h4, h5, h6, h7⟩⟩ := ok
  · obtain ⟨k, hk11, hc1, hc2⟩ := julian h2 h3
    have j1 := julian_day (y := y) hk11 hc1 hc2
    have j2 := julian_day (y := z) hk11 hc1 hc2
    have i1 : IsDate (rday 1 D 0 0 0 y) y ((k : Int) + 1) (D - cum 2001 k) := ⟨j1.2, j1.1⟩
    have i2 : IsDate (rday 1 D 0 0 0 z) z ((k : Int) + 1) (D - cum 2001 k) := ⟨j2.2, j2.1⟩
    have feb : (k : Int) + 1 = 2 → D - cum 2001 k ≤ 28 := by
      intro h
      obtain rfl : k = 1 := by omega
      have e1 : cum 2001 1 = 31 := rfl
      have e2 : cum 2001 (1 + 1) = 59 := rfl
      omega
    have dd := j1.2.2.2
    generalize D - cum 2001 k = dy at *
    have R1 := hide (fun w => r4_.Date _ _ _ _ w (by omega) (by omega) i1)
    have R2 := hide (fun w => r4_.Date _ _ _ _ w (by omega) (by omega) i2)
    generalize rday 1 D 0 0 0 y = n at *
    generalize rday 1 D 0 0 0 z = n2 at *
    clear i1 i2 j1 j2 hc1 hc2
    unfold vrd at D1 D2
    have fin : Hid (((k : Int) + 1 = 2 ∧ dy ≤ 28) ∨ (¬ (k : Int) + 1 = 2 ∧ ((k : Int) + 1 != 2) = true)) := by
      by_cases h : (k : Int) + 1 = 2
      · exact .inl ⟨h, feb h⟩
      · exact .inr ⟨h, by simpa using h⟩
    clear feb
    generalize (k : Int) + 1 = mo at *
    have dd0 := dd.1
    clear dd
    rcases fin.out with ⟨rfl, hdy⟩ | ⟨hmo, hmo2⟩
    all_goals
      go_enter Tryd.func4, Tryd.ntmps4
      go_wp2_with fail
      refine (awake _ HT.out).mono ?_
      rintro e w1 ⟨rfl, h1⟩
      replace bx := hide (bx.out.below h1)
      replace HT := hide (HT.out.below h1)
      replace hb := hide (bel_next hb.out h1)
      clear h1
      obtain ⟨x0, x1, x2, x3, x4, x5⟩ := cells6 bx.out
      go_wp2_with fail
      refine (rvalid true _ hv.out).mono ?_
      rintro e w1 ⟨rfl, h1⟩
      replace bx := hide (bx.out.below h1)
      replace HT := hide (HT.out.below h1)
      replace hb := hide (bel_next hb.out h1)
      clear h1
      clear x0 x1 x2 x3 x4 x5
      go_wp2_with fail
      refine (inyear true _ hy.out).mono ?_
      rintro e w2 ⟨rfl, rfl⟩
      go_wp2_with fail
      refine (inyear true _ hz.out).mono ?_
      rintro e w2 ⟨rfl, rfl⟩
      obtain ⟨x0, x1, x2, x3, x4, x5⟩ := cells6 bx.out
      go_wp2_with fail
      refine (D1.out _ HT.out).mono ?_
      rintro e w1 ⟨rfl, h1⟩
      replace bx := hide (bx.out.below h1)
      replace HT := hide (HT.out.below h1)
      replace hb := hide (bel_next hb.out h1)
      clear h1
      clear x0 x1 x2 x3 x4 x5
      go_wp2_with fail
      refine (R1.out _).mono ?_
      rintro e w2 ⟨rfl, rfl⟩
      obtain ⟨x0, x1, x2, x3, x4, x5⟩ := cells6 bx.out
      go_wp2_with fail
      refine (D2.out _ HT.out).mono ?_
      rintro e w1 ⟨rfl, h1⟩
      replace bx := hide (bx.out.below h1)
      replace HT := hide (HT.out.below h1)
      replace hb := hide (bel_next hb.out h1)
      clear h1
      clear x0 x1 x2 x3 x4 x5
      go_wp2_with fail
      refine (R2.out _).mono ?_
      rintro e w2 ⟨rfl, rfl⟩
      go_wp2
      go_ret
      exact ⟨by first | rfl | exact retb (by simp <;> omega), hb.out⟩
  · have hs := ystart_succ y
    have hl := ylen_bd y
    have ez : rday 2 D 0 0 0 y = ystart y + D := rfl
    obtain ⟨yy, mo, dd, i1⟩ := IsDate.ex (rday 2 D 0 0 0 y)
    have hyy : yy = y ∨ (D = 365 ∧ (yy == y) = false) := by
      by_cases h : yy = y
      · exact .inl h
      · refine .inr ⟨?_, by simpa using h⟩
        by_cases hD : D ≤ 364
        · exact absurd (year_uniq i1.year.1 i1.year.2 (by omega) (by omega)) h
        · omega
    have R1 := hide (fun w => r4_.Date _ _ _ _ w (by omega) (by omega) i1)
    have Dy := hide (fun w => flip6 (r4_.Days y 1 1 w (by omega) (by omega) (by omega) (by omega) (by omega) (by omega)))
    rw [days_first] at Dy
    rw [ez] at R1 D1
    have sb := r6_.ystart_bd (show -200000000001 ≤ y by omega) (by omega)
    clear i1 hs hl ez nb nz D2
    generalize ystart y = s at *
    unfold vrd at D1
    obtain ⟨sb0, sb1⟩ := sb
    have hsd : s + D - s = D := by omega
    rcases hyy with rfl | ⟨rfl, hne⟩
    all_goals
      go_enter Tryd.func4, Tryd.ntmps4
      go_wp2_with fail
      refine (awake _ HT.out).mono ?_
      rintro e w1 ⟨rfl, h1⟩
      replace bx := hide (bx.out.below h1)
      replace HT := hide (HT.out.below h1)
      replace hb := hide (bel_next hb.out h1)
      clear h1
      obtain ⟨x0, x1, x2, x3, x4, x5⟩ := cells6 bx.out
      go_wp2_with fail
      refine (rvalid true _ hv.out).mono ?_
      rintro e w1 ⟨rfl, h1⟩
      replace bx := hide (bx.out.below h1)
      replace HT := hide (HT.out.below h1)
      replace hb := hide (bel_next hb.out h1)
      clear h1
      clear x0 x1 x2 x3 x4 x5
      go_wp2_with fail
      refine (inyear true _ hy.out).mono ?_
      rintro e w2 ⟨rfl, rfl⟩
      go_wp2_with fail
      refine (inyear true _ hz.out).mono ?_
      rintro e w2 ⟨rfl, rfl⟩
      obtain ⟨x0, x1, x2, x3, x4, x5⟩ := cells6 bx.out
      go_wp2_with fail
      refine (D1.out _ HT.out).mono ?_
      rintro e w1 ⟨rfl, h1⟩
      replace bx := hide (bx.out.below h1)
      replace HT := hide (HT.out.below h1)
      replace hb := hide (bel_next hb.out h1)
      clear h1
      clear x0 x1 x2 x3 x4 x5
      go_wp2_with fail
      refine (R1.out _).mono ?_
      rintro e w2 ⟨rfl, rfl⟩
      obtain ⟨x0, x1, x2, x3, x4, x5⟩ := cells6 bx.out
      go_wp2_with fail
      go_quiet ((go_at_call 17; refine Calls.quiet_of_same (Dy.out _)))
      go_wp2
      go_ret
      exact ⟨by first | rfl | exact retb (by simp <;> omega), bel_drewN hb.out _⟩
  · have rb := rdm_bd y M Wk Wd h6 h7 h4 h5
    have em : rday 3 0 M Wk Wd y = rdm y M Wk Wd := rfl
    have i1 : IsDate (rday 3 0 M Wk Wd y) y M (rdm y M Wk Wd - days y M 1 + 1) := by
      rw [em]
      refine ⟨⟨by omega, by omega, by omega, by omega⟩, ?_⟩
      have e1 : days y M 1 = ystart y + (cum y (M - 1).toNat + 1 - 1) := rfl
      have e2 : ∀ d, days y M d = ystart y + (cum y (M - 1).toNat + d - 1) := fun _ => rfl
      rw [e2, e1]
      omega
    have hf := rfirst_bd y M Wd h6 h7
    have hml := mdays_bd y M
    have hwk : (Wk < 5 ∧ (rdm y M Wk Wd - days y M 1 + 1 - 1) / 7 = Wk - 1) ∨ (Wk = 5 ∧ mdays y M < rdm y M Wk Wd - days y M 1 + 1 + 7) := by
      unfold rdm at rb ⊢
      by_cases h : Wk ≤ 4
      · rw [if_pos h] at rb ⊢
        exact .inl ⟨by omega, by omega⟩
      · rw [if_neg h] at rb ⊢
        split at rb <;> exact .inr ⟨by omega, by simp [*]; omega⟩
    have R1 := hide (fun w => r4_.Date _ _ _ _ w (by omega) (by omega) i1)
    have Md := hide (fun w => r4_.MonthDays y M w (by omega) (by omega))
    have Wq := hide (fun w => flip6 (r4_.Weekday (rday 3 0 M Wk Wd y) w (by omega) (by omega)))
    rw [em, rb.2.2] at Wq
    rw [em] at R1 D1
    have db : 1 ≤ rdm y M Wk Wd - days y M 1 + 1 ∧ rdm y M Wk Wd - days y M 1 + 1 ≤ 31 := by omega
    clear i1 em nb nz D2 rb hf
    generalize rdm y M Wk Wd - days y M 1 + 1 = dd at *
    generalize rdm y M Wk Wd = n at *
    generalize mdays y M = len at *
    unfold vrd at D1
    obtain ⟨db0, db1⟩ := db
    obtain ⟨hml0, hml1⟩ := hml
    rcases hwk with ⟨c1, c2⟩ | ⟨rfl, c2⟩
    all_goals
      go_enter Tryd.func4, Tryd.ntmps4
      go_wp2_with fail
      refine (awake _ HT.out).mono ?_
      rintro e w1 ⟨rfl, h1⟩
      replace bx := hide (bx.out.below h1)
      replace HT := hide (HT.out.below h1)
      replace hb := hide (bel_next hb.out h1)
      clear h1
      obtain ⟨x0, x1, x2, x3, x4, x5⟩ := cells6 bx.out
      go_wp2_with fail
      refine (rvalid true _ hv.out).mono ?_
      rintro e w1 ⟨rfl, h1⟩
      replace bx := hide (bx.out.below h1)
      replace HT := hide (HT.out.below h1)
      replace hb := hide (bel_next hb.out h1)
      clear h1
      clear x0 x1 x2 x3 x4 x5
      go_wp2_with fail
      refine (inyear true _ hy.out).mono ?_
      rintro e w2 ⟨rfl, rfl⟩
      go_wp2_with fail
      refine (inyear true _ hz.out).mono ?_
      rintro e w2 ⟨rfl, rfl⟩
      obtain ⟨x0, x1, x2, x3, x4, x5⟩ := cells6 bx.out
      go_wp2_with fail
      refine (D1.out _ HT.out).mono ?_
      rintro e w1 ⟨rfl, h1⟩
      replace bx := hide (bx.out.below h1)
      replace HT := hide (HT.out.below h1)
      replace hb := hide (bel_next hb.out h1)
      clear h1
      clear x0 x1 x2 x3 x4 x5
      go_wp2_with fail
      refine (R1.out _).mono ?_
      rintro e w2 ⟨rfl, rfl⟩
      obtain ⟨x0, x1, x2, x3, x4, x5⟩ := cells6 bx.out
      go_wp2_with fail
      refine (Md.out _).mono ?_
      rintro e w2 ⟨rfl, rfl⟩
      go_wp2_with fail
      go_quiet ((go_at_call 19; refine Calls.quiet_of_same (Wq.out _)))
      go_wp2
      go_ret
      exact ⟨by first | rfl | exact retb (by simp <;> omega), bel_drewN hb.out _⟩
end l6_
end Go.Proofs.YtgonchceckifcaaDoor
