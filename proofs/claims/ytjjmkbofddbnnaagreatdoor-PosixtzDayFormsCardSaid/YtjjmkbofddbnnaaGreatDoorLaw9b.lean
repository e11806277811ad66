/-
  THE WALKS OF THE LAWS OF LAYER 9 (zoneinfolaw09): PosixtzDayForms. No conditions.
-/
import Derived.Test.YtjjmkbofddbnnaaGreatDoorLaw9
import Derived.Test.YtjjmkbofddbnnaaGreatDoorDyF
import Derived.Test.YtjjmkbofddbnnaaGreatDoorRdRef
namespace Go.Proofs.YtjjmkbofddbnnaaGreatDoor
open Go.ChangeShapes Go.WideShapes Go.ChangeAt Go.RowKit
set_option linter.unusedVariables false
/-- a stored cell of a row. -/
theorem Ro.setd {w : World} {g : Nat} {t : TypeId} {K D M Wk Wd T : Value} (h : Ro w g #[K, D, M, Wk, Wd, T] t) (v : Value) : Ro (w.setCell ⟨g, 5, none⟩ v) g #[K, D, M, Wk, Wd, v] t := by
  have := heap_setCell_same w g 5 _ t v h
  simpa [Ro] using this
theorem Ro.setd_ne {w : World} {g g' : Nat} {t : TypeId} {cs : Array Value} (h : Ro w g cs t) (hne : g ≠ g') (i : Nat) (v : Value) : Ro (w.setCell ⟨g', i, none⟩ v) g cs t := by
  have := heap_setCell_other w ⟨g', i, none⟩ g v hne
  unfold Ro
  rw [this]
  exact h
namespace l9_
set_option maxRecDepth 100000 in
set_option maxHeartbeats 4000000 in
theorem dayForms (K D M Wk Wd T : Int) (w : World) (w00 : (Lit.int .i64 K).wf = true) (w01 : (Lit.int .i64 D).wf = true) (w02 : (Lit.int .i64 M).wf = true) (w03 : (Lit.int .i64 Wk).wf = true) (w04 : (Lit.int .i64 Wd).wf = true) (w05 : (Lit.int .i64 T).wf = true) :
    Calls Tryz.prog 5 #[.agg #[.int .i64 K, .int .i64 D, .int .i64 M, .int .i64 Wk, .int .i64 Wd, .int .i64 T]] w fun e w' => e = .returned (.bool true) ∧ Below w.heap.size w w' := by
  clear w00 w01 w02 w03 w04 w05
  have hb := hide (bl_new w (.cells #[.int .i64 K, .int .i64 D, .int .i64 M, .int .i64 Wk, .int .i64 Wd, .int .i64 T] 23))
  have b1 := hide (Ro.new w #[.int .i64 K, .int .i64 D, .int .i64 M, .int .i64 Wk, .int .i64 Wd, .int .i64 T] 23)
  by_cases hv : RdOk K D M Wk Wd T
  · have V : Hid (∀ w, Calls Tryz.prog 8 #[.agg #[.int .i64 K, .int .i64 D, .int .i64 M, .int .i64 Wk, .int .i64 Wd, .int .i64 T]] w fun e w' => e = .returned (.bool true) ∧ Below w.heap.size w w') := hide (fun w => by
      have := r6_.Valid K D M Wk Wd T w
      rwa [decide_eq_true hv] at this)
    have hv1 : rdOk (K, D, M, Wk, Wd, T) := hv
    have hv2 : rdOk (K, D, M, Wk, Wd, 7200) := ⟨by show (-604799 : Int) ≤ 7200; omega, by show (7200 : Int) ≤ 604799; omega, hv.2.2⟩
    obtain ⟨S1, hS1, zS1, yS1⟩ : ∃ S : ByteArray, S = mkS (dayF (K, D, M, Wk, Wd, T)) ∧ S.size ≤ 100 ∧ byt S = dayF (K, D, M, Wk, Wd, T) := ⟨_, rfl, by rw [size_mk]; exact dayF_len hv1, byt_mk _⟩
    obtain ⟨S2, hS2, zS2, yS2⟩ : ∃ S : ByteArray, S = mkS (dayF (K, D, M, Wk, Wd, 7200)) ∧ S.size ≤ 100 ∧ byt S = dayF (K, D, M, Wk, Wd, 7200) := ⟨_, rfl, by rw [size_mk]; exact dayF_len hv2, byt_mk _⟩
    have Y1 := hide (fun w => day (K, D, M, Wk, Wd, T) w hv1)
    have Y2 := hide (fun w => day (K, D, M, Wk, Wd, 7200) w hv2)
    rw [← hS1] at Y1
    rw [← hS2] at Y2
    obtain ⟨A1, zA1, yA1, jA1⟩ := cat S1 ⟨#[44, 74, 49]⟩ 200 (by have : (⟨#[44, 74, 49]⟩ : ByteArray).size = 3 := rfl; omega) (by decide)
    have P1 := hide (fun w => po_.Day A1 w (by omega))
    rw [show ptDay (byt A1) = some ((K, D, M, Wk, Wd, T), S1.size) by rw [yA1, yS1, ← len_byt, yS1]; exact ptDay_full hv1 (hstop44 _)] at P1
    obtain ⟨k, hk⟩ : ∃ k : Nat, S2.size = k + 2 := ⟨(dayCore (K, D, M, Wk, Wd, 7200)).length, by rw [← len_byt, yS2]; simp [dayF]; rfl⟩
    obtain ⟨S3, hS3, zS3, yS3⟩ : ∃ S : ByteArray, S2.extract 0 k = S ∧ S.size = k ∧ byt S = dayCore (K, D, M, Wk, Wd, 7200) := ⟨_, rfl, by rw [ByteArray.size_extract]; omega, by
      rw [byt_extract, yS2]
      have : (dayCore (K, D, M, Wk, Wd, 7200)).length = k := by
        have := hk
        rw [← len_byt, yS2] at this
        simp only [dayF, List.length_append, List.length_cons] at this
        rw [show (hmsFmt (7200 : Int)).length = 1 from rfl] at this
        omega
      rw [← this]
      simp [dayF]⟩
    obtain ⟨A2, zA2, yA2, jA2⟩ := cat S3 ⟨#[44, 74, 49]⟩ 200 (by have : (⟨#[44, 74, 49]⟩ : ByteArray).size = 3 := rfl; omega) (by decide)
    have P2 := hide (fun w => po_.Day A2 w (by omega))
    rw [show ptDay (byt A2) = some ((K, D, M, Wk, Wd, 7200), k) by rw [yA2, yS3, ← zS3, ← len_byt, yS3]; exact ptDay_core hv2 (.inr ⟨44, _, rfl, rfl, by decide⟩) rfl] at P2
    simp only [ptDayRes, vday] at P1 P2 Y1 Y2
    have q1 : ∀ w : World, (binOp .eql 23 (.agg #[.int .i64 K, .int .i64 D, .int .i64 M, .int .i64 Wk, .int .i64 Wd, .int .i64 T]) (.agg #[.int .i64 K, .int .i64 D, .int .i64 M, .int .i64 Wk, .int .i64 Wd, .int .i64 T])).run Tryz.prog w = .ok (.bool true) w := fun _ => by simp [go_sem]
    have q2 : ∀ w : World, (binOp .eql 23 (.agg #[.int .i64 K, .int .i64 D, .int .i64 M, .int .i64 Wk, .int .i64 Wd, .int .i64 7200]) (.agg #[.int .i64 K, .int .i64 D, .int .i64 M, .int .i64 Wk, .int .i64 Wd, .int .i64 7200])).run Tryz.prog w = .ok (.bool true) w := fun _ => by simp [go_sem]
    clear hv hv1 hv2 hS1 hS2 yS1 yS2 yS3 yA1 yA2
    go_enter Tryz.func5, Tryz.ntmps5
    go_wp2_with fail
    refine (awake _).mono ?_
    rintro e w1 ⟨rfl, h1⟩
    replace b1 := hide (b1.out.below h1)
    replace hb := hide (bel_next hb.out h1)
    clear h1
    go_wp2_with (first | (refine load_row_g (by rfl) 23 _ rfl _ rfl _ _ _ b1.out Tryz.underlying23 rfl (by kernel_rfl) ?_))
    refine (V.out _).mono ?_
    rintro e w1 ⟨rfl, h1⟩
    replace b1 := hide (b1.out.below h1)
    replace hb := hide (bel_next hb.out h1)
    clear h1
    go_wp2_with (first | (refine load_row_g (by rfl) 23 _ rfl _ rfl _ _ _ b1.out Tryz.underlying23 rfl (by kernel_rfl) ?_))
    refine (Y1.out _).mono ?_
    rintro e w1 ⟨rfl, h1⟩
    replace b1 := hide (b1.out.below h1)
    replace hb := hide (bel_next hb.out h1)
    clear h1
    go_wp2_with fail
    refine (P1.out _).mono ?_
    rintro e w1 ⟨rfl, h1⟩
    replace b1 := hide (b1.out.below h1)
    replace hb := hide (bel_next hb.out h1)
    clear h1
    have b2 := hide (Ro.new w1 #[.int .i64 K, .int .i64 D, .int .i64 M, .int .i64 Wk, .int .i64 Wd, .int .i64 T] 23)
    replace b1 := hide (b1.out.alloc (.cells #[.int .i64 K, .int .i64 D, .int .i64 M, .int .i64 Wk, .int .i64 Wd, .int .i64 T] 23))
    replace hb := hide (bl_alloc hb.out (.cells #[.int .i64 K, .int .i64 D, .int .i64 M, .int .i64 Wk, .int .i64 Wd, .int .i64 T] 23))
    go_upto_region 6 with (first | (refine load_row_g (by rfl) 23 _ rfl _ rfl _ _ _ b1.out Tryz.underlying23 rfl (by kernel_rfl) ?_) | (refine wpList_store_row rfl 23 _ _ rfl _ _ rfl rfl _ _ (heap_alloc_last _ _) (by kernel_rfl) rfl (by simp [Value.oneCell']) ?_; rw [World.setRow_alloc_new]))
    have b3 := hide (Ro.new (w1.alloc (.cells #[.int .i64 K, .int .i64 D, .int .i64 M, .int .i64 Wk, .int .i64 Wd, .int .i64 T] 23)) #[.int .i64 K, .int .i64 D, .int .i64 M, .int .i64 Wk, .int .i64 Wd, .int .i64 T] 23)
    have n1 := Nat.ne_of_lt b1.out.lt
    have n2 := Nat.ne_of_lt b2.out.lt
    have n3 := Nat.le_of_lt b1.out.lt
    replace b1 := hide (b1.out.alloc (.cells #[.int .i64 K, .int .i64 D, .int .i64 M, .int .i64 Wk, .int .i64 Wd, .int .i64 T] 23))
    replace b2 := hide (b2.out.alloc (.cells #[.int .i64 K, .int .i64 D, .int .i64 M, .int .i64 Wk, .int .i64 Wd, .int .i64 T] 23))
    replace hb := hide (bl_alloc hb.out (.cells #[.int .i64 K, .int .i64 D, .int .i64 M, .int .i64 Wk, .int .i64 Wd, .int .i64 T] 23))
    generalize (w1.alloc (.cells #[.int .i64 K, .int .i64 D, .int .i64 M, .int .i64 Wk, .int .i64 Wd, .int .i64 T] 23)).alloc (.cells #[.int .i64 K, .int .i64 D, .int .i64 M, .int .i64 Wk, .int .i64 Wd, .int .i64 T] 23) = W at *
    have eg : (w1.alloc (.cells #[.int .i64 K, .int .i64 D, .int .i64 M, .int .i64 Wk, .int .i64 Wd, .int .i64 T] 23)).heap.size = w1.heap.size + 1 := by simp
    rw [eg] at n1 n2 n3 b3
    have x5 := b3.out.cell 5
    have fr := b3.out.frozen
    have lt := b3.out.lt
    simp at x5
    clear eg
    replace n1 := hide n1
    replace n2 := hide n2
    replace n3 := hide n3
    go_upto_region 7 with fail
    clear x5 fr lt
    replace b3 := hide (b3.out.setd (.int .i64 7200))
    replace b1 := hide (b1.out.setd_ne n1.out 5 (.int .i64 7200))
    replace b2 := hide (b2.out.setd_ne n2.out 5 (.int .i64 7200))
    replace hb := hide (bl_set (o := 5) hb.out n3.out (.int .i64 7200))
    generalize W.setCell ⟨w1.heap.size + 1, 5, none⟩ (.int .i64 7200) = W2 at *
    go_wp2_with (first | (refine load_row_g (by rfl) 23 _ rfl _ rfl _ _ _ b3.out Tryz.underlying23 rfl (by kernel_rfl) ?_))
    refine (Y2.out _).mono ?_
    rintro e w2 ⟨rfl, h1⟩
    replace b1 := hide (b1.out.below h1)
    replace b2 := hide (b2.out.below h1)
    replace b3 := hide (b3.out.below h1)
    replace hb := hide (bel_next hb.out h1)
    clear h1
    go_wp2_with fail
    refine (P2.out _).mono ?_
    rintro e w2 ⟨rfl, h1⟩
    replace b1 := hide (b1.out.below h1)
    replace b2 := hide (b2.out.below h1)
    replace b3 := hide (b3.out.below h1)
    replace hb := hide (bel_next hb.out h1)
    clear h1
    have b4 := hide (Ro.new w2 #[.int .i64 K, .int .i64 D, .int .i64 M, .int .i64 Wk, .int .i64 Wd, .int .i64 7200] 23)
    replace b1 := hide (b1.out.alloc (.cells #[.int .i64 K, .int .i64 D, .int .i64 M, .int .i64 Wk, .int .i64 Wd, .int .i64 7200] 23))
    replace b2 := hide (b2.out.alloc (.cells #[.int .i64 K, .int .i64 D, .int .i64 M, .int .i64 Wk, .int .i64 Wd, .int .i64 7200] 23))
    replace b3 := hide (b3.out.alloc (.cells #[.int .i64 K, .int .i64 D, .int .i64 M, .int .i64 Wk, .int .i64 Wd, .int .i64 7200] 23))
    replace hb := hide (bl_alloc hb.out (.cells #[.int .i64 K, .int .i64 D, .int .i64 M, .int .i64 Wk, .int .i64 Wd, .int .i64 7200] 23))
    go_upto_region 10 with (refine wpList_store_row rfl 23 _ _ rfl _ _ rfl rfl _ _ (heap_alloc_last _ _) (by kernel_rfl) rfl (by simp [Value.oneCell']) ?_; rw [World.setRow_alloc_new])
    go_wp2_with (first | (refine load_row_g (by rfl) 23 _ rfl _ rfl _ _ _ b2.out Tryz.underlying23 rfl (by kernel_rfl) ?_) | (refine load_row_g (by rfl) 23 _ rfl _ rfl _ _ _ b1.out Tryz.underlying23 rfl (by kernel_rfl) ?_) | (refine load_row_g (by rfl) 23 _ rfl _ rfl _ _ _ b4.out Tryz.underlying23 rfl (by kernel_rfl) ?_) | (refine load_row_g (by rfl) 23 _ rfl _ rfl _ _ _ b3.out Tryz.underlying23 rfl (by kernel_rfl) ?_))
    go_ret
    exact ⟨rfl, hb.out⟩
  · have V : Hid (∀ w, Calls Tryz.prog 8 #[.agg #[.int .i64 K, .int .i64 D, .int .i64 M, .int .i64 Wk, .int .i64 Wd, .int .i64 T]] w fun e w' => e = .returned (.bool false) ∧ Below w.heap.size w w') := hide (fun w => by
      have := r6_.Valid K D M Wk Wd T w
      rwa [decide_eq_false hv] at this)
    clear hv
    go_enter Tryz.func5, Tryz.ntmps5
    go_wp2_with fail
    refine (awake _).mono ?_
    rintro e w1 ⟨rfl, h1⟩
    replace b1 := hide (b1.out.below h1)
    replace hb := hide (bel_next hb.out h1)
    clear h1
    go_wp2_with (first | (refine load_row_g (by rfl) 23 _ rfl _ rfl _ _ _ b1.out Tryz.underlying23 rfl (by kernel_rfl) ?_))
    refine (V.out _).mono ?_
    rintro e w1 ⟨rfl, h1⟩
    replace b1 := hide (b1.out.below h1)
    replace hb := hide (bel_next hb.out h1)
    clear h1
    go_wp2_with fail
    refine (awake _).mono ?_
    rintro e w1 ⟨rfl, h1⟩
    replace hb := hide (bel_next hb.out h1)
    clear h1
    go_wp2
    go_ret
    exact ⟨rfl, hb.out⟩
end l9_
end Go.Proofs.YtjjmkbofddbnnaaGreatDoor
