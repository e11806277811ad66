/-
  THE WALKS OF THE LAWS OF LAYER 11 (zoneinfolaw11): TzevalNames. No conditions beyond the tables'.
-/
import Derived.Test.YtdhogpcoegfopaaGreatDoorLaw11
import Derived.Test.YtdhogpcoegfopaaGreatDoorRow2
import Derived.Deep.RegionHeld3
import Derived.Deep.DeepCutAuto
namespace Go.Proofs.YtdhogpcoegfopaaGreatDoor
open Go.ChangeShapes Go.WideShapes Go.ChangeAt Go.RowKit
set_option linter.unusedVariables false
namespace l11_
theorem tb_set {w : World} (h : Tb w) {g : Nat} (hg : 0 < g) (j : Nat) (v : Value) : Tb (w.setCell ⟨g, j, none⟩ v) :=
  ⟨by have := h.1; simpa [World.setCell] using this, fun i u hi => by rw [World.cell?_setCell_other _ _ _ _ (by intro e; injection e with e; omega)]; exact h.2 i u hi⟩
theorem bexN (p : Prop) : ∃ b : Bool, b = true ↔ p := by
  by_cases h : p
  · exact ⟨true, fun _ => h, fun _ => rfl⟩
  · exact ⟨false, (fun h' => by cases h'), fun h' => absurd h' h⟩
set_option maxRecDepth 100000 in
set_option maxHeartbeats 8000000 in
theorem naC (std : ByteArray) (so : Int) (hd : Bool) (dst : ByteArray) (dof : Int) (st en : RD) (t : Int) (std2 dst2 : ByteArray) (t0 : -9223372036854775808 ≤ t) (t1 : t < 9223372036854775808) (hs2 : std2.size ≤ maxLen) (ht2 : dst2.size ≤ maxLen) (w : World) (hT : Tb w) (hs : std.size ≤ maxLen) (ht : dst.size ≤ maxLen) :
    Calls Tryz.prog 7 #[.agg (crule std so hd dst dof st en), .int .i64 t, .string std2, .string dst2] w fun e w' => e = .returned (.bool true) ∧ Below w.heap.size w w' := by
  have V := hide (fun w => r9_.Valid std so hd dst dof st en w hs ht)
  simp only [vrule_c] at V
  have G := gr_rule std so hd dst dof st en
  obtain ⟨cs, hcs⟩ : ∃ cs, crule std so hd dst dof st en = cs := ⟨_, rfl⟩
  rw [hcs] at V G ⊢
  have hb := hide (bl_new w (.cells cs 25))
  have hB := hide (Ro.new w cs 25)
  have HT := hide (hT.below hb.out)
  have Aw := hide (fun w hT => awake w hT)
  clear hT
  obtain ⟨v, hv⟩ : ∃ v, decide (prOk (byt std, so, hd, byt dst, dof, st, en)) = v := ⟨_, rfl⟩
  rw [hv] at V
  cases v
  · clear hcs hv
    go_enter Tryz.func7, Tryz.ntmps7
    go_wp2_with fail
    refine (Aw.out _ HT.out).mono ?_
    rintro e w1 ⟨rfl, h1⟩
    replace hB := hide (hB.out.below h1)
    replace HT := hide (HT.out.below h1)
    replace hb := hide (bel_next hb.out h1)
    clear h1
    go_wp2_with (refine load_row_g (by rfl) 25 _ rfl _ rfl _ _ _ hB.out Tryz.underlying25 rfl G.1 ?_)
    refine (V.out _).mono ?_
    rintro e w1 ⟨rfl, h1⟩
    replace HT := hide (HT.out.below h1)
    replace hb := hide (bel_next hb.out h1)
    clear h1
    go_wp2_with fail
    refine (Aw.out _ HT.out).mono ?_
    rintro e w1 ⟨rfl, h1⟩
    replace HT := hide (HT.out.below h1)
    replace hb := hide (bel_next hb.out h1)
    clear h1
    go_wp2_with fail
    go_ret
    exact ⟨rfl, hb.out⟩
  have hp := of_decide_eq_true hv
  have rv := RvOk.of hp
  have hz := pr_sz hp
  simp only at rv
  clear hv
  have e2 : cs[2]? = some (.bool hd) := by rw [← hcs]; rfl
  cases hd
  · clear hcs hp rv hz
    go_enter Tryz.func7, Tryz.ntmps7
    go_wp2_with fail
    refine (Aw.out _ HT.out).mono ?_
    rintro e w1 ⟨rfl, h1⟩
    replace hB := hide (hB.out.below h1)
    replace HT := hide (HT.out.below h1)
    replace hb := hide (bel_next hb.out h1)
    clear h1
    go_wp2_with (refine load_row_g (by rfl) 25 _ rfl _ rfl _ _ _ hB.out Tryz.underlying25 rfl G.1 ?_)
    refine (V.out _).mono ?_
    rintro e w1 ⟨rfl, h1⟩
    replace hB := hide (hB.out.below h1)
    replace HT := hide (HT.out.below h1)
    replace hb := hide (bel_next hb.out h1)
    clear h1
    obtain ⟨x2, _⟩ := ro_cf hB.out 2 _ e2
    go_wp2_with fail
    refine (Aw.out _ HT.out).mono ?_
    rintro e w1 ⟨rfl, h1⟩
    replace HT := hide (HT.out.below h1)
    replace hb := hide (bel_next hb.out h1)
    clear h1
    go_wp2_with fail
    go_ret
    exact ⟨rfl, hb.out⟩
  have e0 : cs[0]? = some (.string std) := by rw [← hcs]; rfl
  have e3 : cs[3]? = some (.string dst) := by rw [← hcs]; rfl
  have hset : (cs.setIfInBounds 0 (.string std2)).setIfInBounds 3 (.string dst2) = crule std2 so true dst2 dof st en := by rw [← hcs]; rfl
  obtain ⟨b, hbn⟩ := bexN (ruleS true st en so dof t)
  obtain ⟨n, ok, hn⟩ := nextOk_ex (ruleS true st en so dof) t
  have A1 := hide (fun w hT => te_.At std so true dst dof st en t b w hT hz t0 t1 rv hbn)
  have A2 := hide (fun w hT hz2 => te_.At std2 so true dst2 dof st en t b w hT hz2 t0 t1 rv hbn)
  have N1 := hide (fun w hT => te_.Next std so true dst dof st en t n ok w hT t0 t1 rv hn)
  have N2 := hide (fun w hT => te_.Next std2 so true dst2 dof st en t n ok w hT t0 t1 rv hn)
  have V2 := hide (fun w => r9_.Valid std2 so true dst2 dof st en w hs2 ht2)
  simp only [vrule_c] at V2
  have G2 := gr_rule std2 so true dst2 dof st en
  rw [hcs] at A1 N1
  obtain ⟨cu, hcu⟩ : ∃ c, crule std2 so true dst2 dof st en = c := ⟨_, rfl⟩
  rw [hcu] at A2 N2 V2 G2 hset
  obtain ⟨v2, hv2⟩ : ∃ v, decide (prOk (byt std2, so, true, byt dst2, dof, st, en)) = v := ⟨_, rfl⟩
  rw [hv2] at V2
  have Hz2 := hide (show v2 = true → std2.size ≤ 1000000 ∧ dst2.size ≤ 1000000 from fun h => pr_sz (of_decide_eq_true (hv2.trans h)))
  simp only [vres] at A1 A2
  replace hset := hide hset
  clear hcs hp rv hz hbn hn hcu hv2
  obtain ⟨x2, _⟩ := ro_cf hB.out 2 _ e2
  have hx2 := hide x2
  clear x2
  cases b
  all_goals simp only [Bool.false_eq_true, if_false, if_true] at A1 A2
  · go_enter Tryz.func7, Tryz.ntmps7
    clear hx2
    go_wp2_with fail
    refine (Aw.out _ HT.out).mono ?_
    rintro e w1 ⟨rfl, h1⟩
    replace hB := hide (hB.out.below h1)
    replace HT := hide (HT.out.below h1)
    replace hb := hide (bel_next hb.out h1)
    clear h1
    go_wp2_with (refine load_row_g (by rfl) 25 _ rfl _ rfl _ _ _ hB.out Tryz.underlying25 rfl G.1 ?_)
    refine (V.out _).mono ?_
    rintro e w1 ⟨rfl, h1⟩
    replace hB := hide (hB.out.below h1)
    replace HT := hide (HT.out.below h1)
    replace hb := hide (bel_next hb.out h1)
    clear h1
    obtain ⟨x2, _⟩ := ro_cf hB.out 2 _ e2
    go_upto_region 3 with fail
    go_upto_region 4 with (first | (refine load_row_g (by rfl) 25 _ rfl _ rfl _ _ _ hB.out Tryz.underlying25 rfl G.1 ?_) | (refine wpList_store_row rfl 25 _ _ rfl _ _ rfl rfl _ _ (heap_alloc_last _ _) G.1 (by rw [G.2.1]; rfl) G.2.2 ?_; rw [World.setRow_alloc_new]))
    clear x2
    have l0 := hB.out.lt
    have hU := hide (Ro.new w1 cs 25)
    replace hB := hide (hB.out.alloc (.cells cs 25))
    replace HT := hide (HT.out.below (bl_new w1 (.cells cs 25)))
    have hb0 := hb.out.size
    replace hb := hide (bl_alloc hb.out (.cells cs 25))
    generalize w1.heap.size = gU at *
    generalize w1.alloc (.cells cs 25) = w2 at *
    obtain ⟨y0, z0⟩ := ro_cf hU.out 0 _ e0
    obtain ⟨y3, z3⟩ := ro_cf hU.out 3 _ e3
    go_upto_region 6 with fail
    clear y0 z0 y3 z3
    replace hB := hide (ro_set_ne (ro_set_ne hB.out (show gU ≠ w.heap.size by omega) 0 (.string std2)) (show gU ≠ w.heap.size by omega) 3 (.string dst2))
    replace hU := hide (ro_set (ro_set hU.out 0 (.string std2)) 3 (.string dst2))
    rw [hset.out] at hU
    have hTb := hide (show Tb ((w2.setCell ⟨gU, 0, none⟩ (.string std2)).setCell ⟨gU, 3, none⟩ (.string dst2)) from tb_set (tb_set HT.out (by omega) _ _) (by omega) _ _)
    replace HT := hTb
    clear hTb
    replace hb := hide (bl_set (bl_set hb.out (o := 0) hb0 (.string std2)) (o := 3) hb0 (.string dst2))
    generalize (w2.setCell ⟨gU, 0, none⟩ (.string std2)).setCell ⟨gU, 3, none⟩ (.string dst2) = w3 at *
    cases v2
    · go_wp2_with (refine load_row_g (by rfl) 25 _ rfl _ rfl _ _ _ hU.out Tryz.underlying25 rfl G2.1 ?_)
      refine (V2.out _).mono ?_
      rintro e w1 ⟨rfl, h1⟩
      replace HT := hide (HT.out.below h1)
      replace hb := hide (bel_next hb.out h1)
      clear h1
      go_wp2_with fail
      go_ret
      exact ⟨rfl, hb.out⟩
    · go_wp2_with (refine load_row_g (by rfl) 25 _ rfl _ rfl _ _ _ hU.out Tryz.underlying25 rfl G2.1 ?_)
      refine (V2.out _).mono ?_
      rintro e w1 ⟨rfl, h1⟩
      replace hB := hide (hB.out.below h1)
      replace hU := hide (hU.out.below h1)
      replace HT := hide (HT.out.below h1)
      replace hb := hide (bel_next hb.out h1)
      clear h1
      go_wp2_with (refine load_row_g (by rfl) 25 _ rfl _ rfl _ _ _ hB.out Tryz.underlying25 rfl G.1 ?_)
      refine (A1.out _ HT.out).mono ?_
      rintro e w1 ⟨rfl, h1⟩
      replace hB := hide (hB.out.below h1)
      replace hU := hide (hU.out.below h1)
      replace HT := hide (HT.out.below h1)
      replace hb := hide (bel_next hb.out h1)
      clear h1
      have hP := hide (Ro.new w1 #[.bool true, .int .i64 so, .bool false, .string std] 29)
      replace hB := hide (hB.out.alloc (.cells #[.bool true, .int .i64 so, .bool false, .string std] 29))
      replace hU := hide (hU.out.alloc (.cells #[.bool true, .int .i64 so, .bool false, .string std] 29))
      replace HT := hide (HT.out.below (bl_new w1 (.cells #[.bool true, .int .i64 so, .bool false, .string std] 29)))
      replace hb := hide (bl_alloc hb.out (.cells #[.bool true, .int .i64 so, .bool false, .string std] 29))
      go_upto_region 9 with fail
      generalize w1.heap.size = ghP at *
      generalize w1.alloc (.cells #[.bool true, .int .i64 so, .bool false, .string std] 29) = w4 at *
      go_wp2_with (refine load_row_g (by rfl) 25 _ rfl _ rfl _ _ _ hU.out Tryz.underlying25 rfl G2.1 ?_)
      refine (A2.out _ HT.out (Hz2.out (by first | rfl | trivial))).mono ?_
      rintro e w1 ⟨rfl, h1⟩
      replace hB := hide (hB.out.below h1)
      replace hU := hide (hU.out.below h1)
      replace hP := hide (hP.out.below h1)
      replace HT := hide (HT.out.below h1)
      replace hb := hide (bel_next hb.out h1)
      clear h1
      have hQ := hide (Ro.new w1 #[.bool true, .int .i64 so, .bool false, .string std2] 29)
      replace hB := hide (hB.out.alloc (.cells #[.bool true, .int .i64 so, .bool false, .string std2] 29))
      replace hU := hide (hU.out.alloc (.cells #[.bool true, .int .i64 so, .bool false, .string std2] 29))
      replace hP := hide (hP.out.alloc (.cells #[.bool true, .int .i64 so, .bool false, .string std2] 29))
      replace HT := hide (HT.out.below (bl_new w1 (.cells #[.bool true, .int .i64 so, .bool false, .string std2] 29)))
      replace hb := hide (bl_alloc hb.out (.cells #[.bool true, .int .i64 so, .bool false, .string std2] 29))
      go_upto_region 10 with fail
      generalize w1.heap.size = ghQ at *
      generalize w1.alloc (.cells #[.bool true, .int .i64 so, .bool false, .string std2] 29) = w4 at *
      obtain ⟨hP0, _⟩ := ro_cf hP.out 0 (.bool true) rfl
      obtain ⟨hP1, _⟩ := ro_cf hP.out 1 (.int .i64 so) rfl
      obtain ⟨hP2, _⟩ := ro_cf hP.out 2 (.bool false) rfl
      obtain ⟨hP3, _⟩ := ro_cf hP.out 3 (.string std) rfl
      go_upto_region 13 with fail
      clear hP0 hP1 hP2 hP3
      go_wp2_with (refine load_row_g (by rfl) 25 _ rfl _ rfl _ _ _ hB.out Tryz.underlying25 rfl G.1 ?_)
      refine (N1.out _ HT.out).mono ?_
      rintro e w1 ⟨rfl, h1⟩
      replace hB := hide (hB.out.below h1)
      replace hU := hide (hU.out.below h1)
      replace hP := hide (hP.out.below h1)
      replace hQ := hide (hQ.out.below h1)
      replace HT := hide (HT.out.below h1)
      replace hb := hide (bel_next hb.out h1)
      clear h1
      go_wp2_with (refine load_row_g (by rfl) 25 _ rfl _ rfl _ _ _ hU.out Tryz.underlying25 rfl G2.1 ?_)
      refine (N2.out _ HT.out).mono ?_
      rintro e w1 ⟨rfl, h1⟩
      replace hP := hide (hP.out.below h1)
      replace hQ := hide (hQ.out.below h1)
      replace HT := hide (HT.out.below h1)
      replace hb := hide (bel_next hb.out h1)
      clear h1
      obtain ⟨hP0, _⟩ := ro_cf hP.out 0 (.bool true) rfl
      obtain ⟨hP1, _⟩ := ro_cf hP.out 1 (.int .i64 so) rfl
      obtain ⟨hP2, _⟩ := ro_cf hP.out 2 (.bool false) rfl
      obtain ⟨hP3, _⟩ := ro_cf hP.out 3 (.string std) rfl
      obtain ⟨hQ0, _⟩ := ro_cf hQ.out 0 (.bool true) rfl
      obtain ⟨hQ1, _⟩ := ro_cf hQ.out 1 (.int .i64 so) rfl
      obtain ⟨hQ2, _⟩ := ro_cf hQ.out 2 (.bool false) rfl
      obtain ⟨hQ3, _⟩ := ro_cf hQ.out 3 (.string std2) rfl
      go_wp2_with fail
      go_ret
      exact ⟨rfl, hb.out⟩
  · go_enter Tryz.func7, Tryz.ntmps7
    clear hx2
    go_wp2_with fail
    refine (Aw.out _ HT.out).mono ?_
    rintro e w1 ⟨rfl, h1⟩
    replace hB := hide (hB.out.below h1)
    replace HT := hide (HT.out.below h1)
    replace hb := hide (bel_next hb.out h1)
    clear h1
    go_wp2_with (refine load_row_g (by rfl) 25 _ rfl _ rfl _ _ _ hB.out Tryz.underlying25 rfl G.1 ?_)
    refine (V.out _).mono ?_
    rintro e w1 ⟨rfl, h1⟩
    replace hB := hide (hB.out.below h1)
    replace HT := hide (HT.out.below h1)
    replace hb := hide (bel_next hb.out h1)
    clear h1
    obtain ⟨x2, _⟩ := ro_cf hB.out 2 _ e2
    go_upto_region 3 with fail
    go_upto_region 4 with (first | (refine load_row_g (by rfl) 25 _ rfl _ rfl _ _ _ hB.out Tryz.underlying25 rfl G.1 ?_) | (refine wpList_store_row rfl 25 _ _ rfl _ _ rfl rfl _ _ (heap_alloc_last _ _) G.1 (by rw [G.2.1]; rfl) G.2.2 ?_; rw [World.setRow_alloc_new]))
    clear x2
    have l0 := hB.out.lt
    have hU := hide (Ro.new w1 cs 25)
    replace hB := hide (hB.out.alloc (.cells cs 25))
    replace HT := hide (HT.out.below (bl_new w1 (.cells cs 25)))
    have hb0 := hb.out.size
    replace hb := hide (bl_alloc hb.out (.cells cs 25))
    generalize w1.heap.size = gU at *
    generalize w1.alloc (.cells cs 25) = w2 at *
    obtain ⟨y0, z0⟩ := ro_cf hU.out 0 _ e0
    obtain ⟨y3, z3⟩ := ro_cf hU.out 3 _ e3
    go_upto_region 6 with fail
    clear y0 z0 y3 z3
    replace hB := hide (ro_set_ne (ro_set_ne hB.out (show gU ≠ w.heap.size by omega) 0 (.string std2)) (show gU ≠ w.heap.size by omega) 3 (.string dst2))
    replace hU := hide (ro_set (ro_set hU.out 0 (.string std2)) 3 (.string dst2))
    rw [hset.out] at hU
    have hTb := hide (show Tb ((w2.setCell ⟨gU, 0, none⟩ (.string std2)).setCell ⟨gU, 3, none⟩ (.string dst2)) from tb_set (tb_set HT.out (by omega) _ _) (by omega) _ _)
    replace HT := hTb
    clear hTb
    replace hb := hide (bl_set (bl_set hb.out (o := 0) hb0 (.string std2)) (o := 3) hb0 (.string dst2))
    generalize (w2.setCell ⟨gU, 0, none⟩ (.string std2)).setCell ⟨gU, 3, none⟩ (.string dst2) = w3 at *
    cases v2
    · go_wp2_with (refine load_row_g (by rfl) 25 _ rfl _ rfl _ _ _ hU.out Tryz.underlying25 rfl G2.1 ?_)
      refine (V2.out _).mono ?_
      rintro e w1 ⟨rfl, h1⟩
      replace HT := hide (HT.out.below h1)
      replace hb := hide (bel_next hb.out h1)
      clear h1
      go_wp2_with fail
      go_ret
      exact ⟨rfl, hb.out⟩
    · go_wp2_with (refine load_row_g (by rfl) 25 _ rfl _ rfl _ _ _ hU.out Tryz.underlying25 rfl G2.1 ?_)
      refine (V2.out _).mono ?_
      rintro e w1 ⟨rfl, h1⟩
      replace hB := hide (hB.out.below h1)
      replace hU := hide (hU.out.below h1)
      replace HT := hide (HT.out.below h1)
      replace hb := hide (bel_next hb.out h1)
      clear h1
      go_wp2_with (refine load_row_g (by rfl) 25 _ rfl _ rfl _ _ _ hB.out Tryz.underlying25 rfl G.1 ?_)
      refine (A1.out _ HT.out).mono ?_
      rintro e w1 ⟨rfl, h1⟩
      replace hB := hide (hB.out.below h1)
      replace hU := hide (hU.out.below h1)
      replace HT := hide (HT.out.below h1)
      replace hb := hide (bel_next hb.out h1)
      clear h1
      have hP := hide (Ro.new w1 #[.bool true, .int .i64 dof, .bool true, .string dst] 29)
      replace hB := hide (hB.out.alloc (.cells #[.bool true, .int .i64 dof, .bool true, .string dst] 29))
      replace hU := hide (hU.out.alloc (.cells #[.bool true, .int .i64 dof, .bool true, .string dst] 29))
      replace HT := hide (HT.out.below (bl_new w1 (.cells #[.bool true, .int .i64 dof, .bool true, .string dst] 29)))
      replace hb := hide (bl_alloc hb.out (.cells #[.bool true, .int .i64 dof, .bool true, .string dst] 29))
      go_upto_region 9 with fail
      generalize w1.heap.size = ghP at *
      generalize w1.alloc (.cells #[.bool true, .int .i64 dof, .bool true, .string dst] 29) = w4 at *
      go_wp2_with (refine load_row_g (by rfl) 25 _ rfl _ rfl _ _ _ hU.out Tryz.underlying25 rfl G2.1 ?_)
      refine (A2.out _ HT.out (Hz2.out (by first | rfl | trivial))).mono ?_
      rintro e w1 ⟨rfl, h1⟩
      replace hB := hide (hB.out.below h1)
      replace hU := hide (hU.out.below h1)
      replace hP := hide (hP.out.below h1)
      replace HT := hide (HT.out.below h1)
      replace hb := hide (bel_next hb.out h1)
      clear h1
      have hQ := hide (Ro.new w1 #[.bool true, .int .i64 dof, .bool true, .string dst2] 29)
      replace hB := hide (hB.out.alloc (.cells #[.bool true, .int .i64 dof, .bool true, .string dst2] 29))
      replace hU := hide (hU.out.alloc (.cells #[.bool true, .int .i64 dof, .bool true, .string dst2] 29))
      replace hP := hide (hP.out.alloc (.cells #[.bool true, .int .i64 dof, .bool true, .string dst2] 29))
      replace HT := hide (HT.out.below (bl_new w1 (.cells #[.bool true, .int .i64 dof, .bool true, .string dst2] 29)))
      replace hb := hide (bl_alloc hb.out (.cells #[.bool true, .int .i64 dof, .bool true, .string dst2] 29))
      go_upto_region 10 with fail
      generalize w1.heap.size = ghQ at *
      generalize w1.alloc (.cells #[.bool true, .int .i64 dof, .bool true, .string dst2] 29) = w4 at *
      obtain ⟨hP0, _⟩ := ro_cf hP.out 0 (.bool true) rfl
      obtain ⟨hP1, _⟩ := ro_cf hP.out 1 (.int .i64 dof) rfl
      obtain ⟨hP2, _⟩ := ro_cf hP.out 2 (.bool true) rfl
      obtain ⟨hP3, _⟩ := ro_cf hP.out 3 (.string dst) rfl
      go_upto_region 13 with fail
      clear hP0 hP1 hP2 hP3
      go_wp2_with (refine load_row_g (by rfl) 25 _ rfl _ rfl _ _ _ hB.out Tryz.underlying25 rfl G.1 ?_)
      refine (N1.out _ HT.out).mono ?_
      rintro e w1 ⟨rfl, h1⟩
      replace hB := hide (hB.out.below h1)
      replace hU := hide (hU.out.below h1)
      replace hP := hide (hP.out.below h1)
      replace hQ := hide (hQ.out.below h1)
      replace HT := hide (HT.out.below h1)
      replace hb := hide (bel_next hb.out h1)
      clear h1
      go_wp2_with (refine load_row_g (by rfl) 25 _ rfl _ rfl _ _ _ hU.out Tryz.underlying25 rfl G2.1 ?_)
      refine (N2.out _ HT.out).mono ?_
      rintro e w1 ⟨rfl, h1⟩
      replace hP := hide (hP.out.below h1)
      replace hQ := hide (hQ.out.below h1)
      replace HT := hide (HT.out.below h1)
      replace hb := hide (bel_next hb.out h1)
      clear h1
      obtain ⟨hP0, _⟩ := ro_cf hP.out 0 (.bool true) rfl
      obtain ⟨hP1, _⟩ := ro_cf hP.out 1 (.int .i64 dof) rfl
      obtain ⟨hP2, _⟩ := ro_cf hP.out 2 (.bool true) rfl
      obtain ⟨hP3, _⟩ := ro_cf hP.out 3 (.string dst) rfl
      obtain ⟨hQ0, _⟩ := ro_cf hQ.out 0 (.bool true) rfl
      obtain ⟨hQ1, _⟩ := ro_cf hQ.out 1 (.int .i64 dof) rfl
      obtain ⟨hQ2, _⟩ := ro_cf hQ.out 2 (.bool true) rfl
      obtain ⟨hQ3, _⟩ := ro_cf hQ.out 3 (.string dst2) rfl
      go_wp2_with fail
      go_ret
      exact ⟨rfl, hb.out⟩
theorem names (std : ByteArray) (so : Int) (hd : Bool) (dst : ByteArray) (dof K1 D1 M1 W1 V1 T1 K2 D2 M2 W2 V2 T2 : Int) (t : Int) (std2 dst2 : ByteArray) (w : World) (hT : Tb w) (hs : std.size ≤ maxLen) (wso : (Lit.int .i64 so).wf = true) (ht : dst.size ≤ maxLen) (wdof : (Lit.int .i64 dof).wf = true) (wK1 : (Lit.int .i64 K1).wf = true) (wD1 : (Lit.int .i64 D1).wf = true) (wM1 : (Lit.int .i64 M1).wf = true) (wW1 : (Lit.int .i64 W1).wf = true) (wV1 : (Lit.int .i64 V1).wf = true) (wT1 : (Lit.int .i64 T1).wf = true) (wK2 : (Lit.int .i64 K2).wf = true) (wD2 : (Lit.int .i64 D2).wf = true) (wM2 : (Lit.int .i64 M2).wf = true) (wW2 : (Lit.int .i64 W2).wf = true) (wV2 : (Lit.int .i64 V2).wf = true) (wT2 : (Lit.int .i64 T2).wf = true) (wt : (Lit.int .i64 t).wf = true) (hs2 : std2.size ≤ maxLen) (ht2 : dst2.size ≤ maxLen) : Calls Tryz.prog 7 #[.agg #[.string std, .int .i64 so, .bool hd, .string dst, .int .i64 dof, .int .i64 K1, .int .i64 D1, .int .i64 M1, .int .i64 W1, .int .i64 V1, .int .i64 T1, .int .i64 K2, .int .i64 D2, .int .i64 M2, .int .i64 W2, .int .i64 V2, .int .i64 T2], .int .i64 t, .string std2, .string dst2] w fun e w' => e = .returned (.bool true) ∧ Below w.heap.size w w' := naC std so hd dst dof (K1, D1, M1, W1, V1, T1) (K2, D2, M2, W2, V2, T2) t std2 dst2 (wf_i64 wt).1 (wf_i64 wt).2 hs2 ht2 w hT hs ht
end l11_
end Go.Proofs.YtdhogpcoegfopaaGreatDoor
