/-
  THE WALKS OF THE LAWS OF LAYER 11 (zoneinfolaw11): TzevalWithoutDst. No conditions beyond the tables'.
-/
import Derived.Test.YtdhogpcoegfopaaGreatDoorLaw11
import Derived.Test.YtdhogpcoegfopaaGreatDoorRow2
import Derived.Deep.RegionHeld3
import Derived.Deep.DeepCutAuto
namespace Go.Proofs.YtdhogpcoegfopaaGreatDoor
open Go.ChangeShapes Go.WideShapes Go.ChangeAt Go.RowKit
set_option linter.unusedVariables false
namespace l11_
set_option maxRecDepth 100000 in
set_option maxHeartbeats 8000000 in
theorem woC (std : ByteArray) (so : Int) (hd : Bool) (dst : ByteArray) (dof : Int) (st en : RD) (t u : Int) (t0 : -9223372036854775808 ≤ t) (t1 : t < 9223372036854775808) (u0 : -9223372036854775808 ≤ u) (u1 : u < 9223372036854775808) (w : World) (hT : Tb w) (hs : std.size ≤ maxLen) (ht : dst.size ≤ maxLen) :
    Calls Tryz.prog 6 #[.agg (crule std so hd dst dof st en), .int .i64 t, .int .i64 u] w fun e w' => e = .returned (.bool true) ∧ Below w.heap.size w w' := by
  have V := hide (fun w => r9_.Valid std so hd dst dof st en w hs ht)
  simp only [vrule_c] at V
  have G := gr_rule std so hd dst dof st en
  obtain ⟨cs, hcs⟩ : ∃ cs, crule std so hd dst dof st en = cs := ⟨_, rfl⟩
  rw [hcs] at V G ⊢
  have hb := hide (bl_new w (.cells cs 25))
  have hB := hide (Ro.new w cs 25)
  have HT := hide (hT.below hb.out)
  have Aw := hide (fun w hT => awake w hT)
  clear hT
  obtain ⟨v, hv⟩ : ∃ v, decide (prOk (byt std, so, hd, byt dst, dof, st, en)) = v := ⟨_, rfl⟩
  rw [hv] at V
  cases v
  · clear hcs hv
    go_enter Tryz.func6, Tryz.ntmps6
    go_wp2_with fail
    refine (Aw.out _ HT.out).mono ?_
    rintro e w1 ⟨rfl, h1⟩
    replace hB := hide (hB.out.below h1)
    replace HT := hide (HT.out.below h1)
    replace hb := hide (bel_next hb.out h1)
    clear h1
    go_wp2_with (refine load_row_g (by rfl) 25 _ rfl _ rfl _ _ _ hB.out Tryz.underlying25 rfl G.1 ?_)
    refine (V.out _).mono ?_
    rintro e w1 ⟨rfl, h1⟩
    replace HT := hide (HT.out.below h1)
    replace hb := hide (bel_next hb.out h1)
    clear h1
    go_wp2_with fail
    refine (Aw.out _ HT.out).mono ?_
    rintro e w1 ⟨rfl, h1⟩
    replace HT := hide (HT.out.below h1)
    replace hb := hide (bel_next hb.out h1)
    clear h1
    go_wp2_with fail
    go_ret
    exact ⟨rfl, hb.out⟩
  have hp := of_decide_eq_true hv
  have rv := RvOk.of hp
  have hz := pr_sz hp
  simp only at rv
  clear hv
  have e0 : cs[0]? = some (.string std) := by rw [← hcs]; rfl
  have e1 : cs[1]? = some (.int .i64 so) := by rw [← hcs]; rfl
  have A1 := hide (fun w hT => te_.At std so false ⟨#[]⟩ 0 rd0 rd0 t false w hT ⟨hz.1, by decide⟩ t0 t1 (rv_no _ _ _ _) ⟨(fun h => by cases h), fun h => absurd h ruleS_no⟩)
  have A2 := hide (fun w hT => te_.At std so false ⟨#[]⟩ 0 rd0 rd0 u false w hT ⟨hz.1, by decide⟩ u0 u1 (rv_no _ _ _ _) ⟨(fun h => by cases h), fun h => absurd h ruleS_no⟩)
  have N1 := hide (fun w hT => te_.Next std so false ⟨#[]⟩ 0 rd0 rd0 t 0 false w hT t0 t1 (rv_no _ _ _ _) (no_no _ _ _ _ _))
  simp only [vres, Bool.false_eq_true, if_false] at A1 A2
  have G2 := gr_rule std so false ⟨#[]⟩ 0 rd0 rd0
  have hl : crule std so false ⟨#[]⟩ 0 rd0 rd0 = #[.string std, .int .i64 so, .bool false, .string ⟨#[]⟩, .int .i64 0, .int .i64 0, .int .i64 0, .int .i64 0, .int .i64 0, .int .i64 0, .int .i64 0, .int .i64 0, .int .i64 0, .int .i64 0, .int .i64 0, .int .i64 0, .int .i64 0] := rfl
  obtain ⟨cu, hcu⟩ : ∃ cs, crule std so false ⟨#[]⟩ 0 rd0 rd0 = cs := ⟨_, rfl⟩
  rw [hcu] at A1 A2 N1 G2 hl
  clear hcs hp rv hz
  go_enter Tryz.func6, Tryz.ntmps6
  go_wp2_with fail
  refine (Aw.out _ HT.out).mono ?_
  rintro e w1 ⟨rfl, h1⟩
  replace hB := hide (hB.out.below h1)
  replace HT := hide (HT.out.below h1)
  replace hb := hide (bel_next hb.out h1)
  clear h1
  go_wp2_with (refine load_row_g (by rfl) 25 _ rfl _ rfl _ _ _ hB.out Tryz.underlying25 rfl G.1 ?_)
  refine (V.out _).mono ?_
  rintro e w1 ⟨rfl, h1⟩
  replace hB := hide (hB.out.below h1)
  replace HT := hide (HT.out.below h1)
  replace hb := hide (bel_next hb.out h1)
  clear h1
  obtain ⟨x0, _⟩ := ro_cf hB.out 0 _ e0
  obtain ⟨x1, _⟩ := ro_cf hB.out 1 _ e1
  go_upto_region 4 with (refine wpList_store_row rfl 25 _ _ rfl _ _ rfl rfl _ _ (heap_alloc_last _ _) (by kernel_rfl) rfl (by simp [Value.oneCell']) ?_; rw [World.setRow_alloc_new])
  clear x0 x1
  rw [← hl]
  replace hl := hide hl
  have l0 := hB.out.lt
  have hC := hide (Ro.new w1 cu 25)
  replace hB := hide (hB.out.alloc (.cells cu 25))
  replace HT := hide (HT.out.below (bl_new w1 (.cells cu 25)))
  replace hb := hide (bl_alloc hb.out (.cells cu 25))
  generalize w1.heap.size = gC at *
  generalize w1.alloc (.cells cu 25) = w2 at *
  go_wp2_with (refine load_row_g (by rfl) 25 _ rfl _ rfl _ _ _ hC.out Tryz.underlying25 rfl G2.1 ?_)
  refine (A1.out _ HT.out).mono ?_
  rintro e w1 ⟨rfl, h1⟩
  replace hB := hide (hB.out.below h1)
  replace hC := hide (hC.out.below h1)
  replace HT := hide (HT.out.below h1)
  replace hb := hide (bel_next hb.out h1)
  clear h1
  have hA := hide (Ro.new w1 #[.bool true, .int .i64 so, .bool false, .string std] 29)
  replace hB := hide (hB.out.alloc (.cells #[.bool true, .int .i64 so, .bool false, .string std] 29))
  replace hC := hide (hC.out.alloc (.cells #[.bool true, .int .i64 so, .bool false, .string std] 29))
  replace HT := hide (HT.out.below (bl_new w1 (.cells #[.bool true, .int .i64 so, .bool false, .string std] 29)))
  replace hb := hide (bl_alloc hb.out (.cells #[.bool true, .int .i64 so, .bool false, .string std] 29))
  go_upto_region 5 with fail
  generalize w1.heap.size = gA at *
  generalize w1.alloc (.cells #[.bool true, .int .i64 so, .bool false, .string std] 29) = w2 at *
  go_wp2_with (refine load_row_g (by rfl) 25 _ rfl _ rfl _ _ _ hC.out Tryz.underlying25 rfl G2.1 ?_)
  refine (N1.out _ HT.out).mono ?_
  rintro e w1 ⟨rfl, h1⟩
  replace hB := hide (hB.out.below h1)
  replace hC := hide (hC.out.below h1)
  replace hA := hide (hA.out.below h1)
  replace HT := hide (HT.out.below h1)
  replace hb := hide (bel_next hb.out h1)
  clear h1
  go_upto_region 6 with fail
  refine wp_region_held_drew (S := fun w' => Hid (Ro w' w.heap.size (cs) 25) ∧ Hid (Ro w' gC (cu) 25) ∧ Hid (Ro w' gA (#[.bool true, .int .i64 so, .bool false, .string std]) 29) ∧ Hid (Tb w') ∧ Hid (Below w.heap.size w w')) (by kernel_rfl) (⟨hB, hC, hA, hide (HT.out.below (bl_drew (bl_refl _))), hide (bl_drew hb.out)⟩) (fun hHeld => ?_)
  refine wpAnyH_takeD (i := 0) (d := some 33) (v := ?_) rfl rfl (by kernel_rfl) (by kernel_rfl) (by kernel_rfl) (fun _ _ _ h => h) (Or.inl ⟨by rfl, ?_⟩) (by assumption) ?_
  rotate_left
  · ((intro w hSw; obtain ⟨c0, _⟩ := ro_cf hSw.2.2.1.out 0 (.bool true) rfl; obtain ⟨c1, _⟩ := ro_cf hSw.2.2.1.out 1 (.int .i64 so) rfl; obtain ⟨c2, _⟩ := ro_cf hSw.2.2.1.out 2 (.bool false) rfl; obtain ⟨c3, _⟩ := ro_cf hSw.2.2.1.out 3 (.string std) rfl; go_simp) <;> with_reducible rfl)
  try simp only [Act.put, List.setIfInBounds_toArray, List.set_cons_zero, List.set_cons_succ]
  refine wpAnyH_takeD (i := 1) (d := some 34) rfl rfl (by kernel_rfl) (by kernel_rfl) (by kernel_rfl) (fun _ _ _ h => h) (yieldsIf_load_row (by rfl) 25 _ rfl gC rfl 25 cu _ (fun w hw => hw.2.1.out) Tryz.underlying25 rfl G2.1) (by assumption) ?_
  try simp only [Act.put, List.setIfInBounds_toArray, List.set_cons_zero, List.set_cons_succ]
  refine wpAnyH_takeD (i := 2) (d := some 35) (v := ?_) rfl rfl (by kernel_rfl) (by kernel_rfl) (by kernel_rfl) (fun _ _ _ h => h) (Or.inl ⟨by rfl, ?_⟩) (by assumption) ?_
  rotate_left
  · ((intro w hSw; go_simp) <;> with_reducible rfl)
  try simp only [Act.put, List.setIfInBounds_toArray, List.set_cons_zero, List.set_cons_succ]
  refine wpAnyH_ready (rs := [3]) (by kernel_rfl) (by simp) ?_
  refine AllReadyH.cons rfl (fun K hK => ?_) AllReadyH.nil
  go_simp
  refine (A2.out _ hHeld.2.2.2.1.out).mono ?_
  rintro e w6 ⟨rfl, h1'⟩
  refine hK.out _ _ (⟨hide (hHeld.1.out.below h1'), hide (hHeld.2.1.out.below h1'), hide (hHeld.2.2.1.out.below h1'), hide (hHeld.2.2.2.1.out.below h1'), hide (bel_next hHeld.2.2.2.2.out h1')⟩) (fun hHeld => ?_)
  clear hK K h1'
  try simp only [Act.put, List.setIfInBounds_toArray, List.set_cons_zero, List.set_cons_succ]
  refine wpAnyH_takeD (i := 4) (d := some 37) (v := ?_) rfl rfl (by kernel_rfl) (by kernel_rfl) (by kernel_rfl) (fun _ _ _ h => h) (Or.inl ⟨by rfl, ?_⟩) (by assumption) ?_
  rotate_left
  · ((intro w hSw; go_simp) <;> with_reducible rfl)
  try simp only [Act.put, List.setIfInBounds_toArray, List.set_cons_zero, List.set_cons_succ]
  refine wpAnyH_takeD (i := 5) (d := some 38) (v := ?_) rfl rfl (by kernel_rfl) (by kernel_rfl) (by kernel_rfl) (fun _ _ _ h => h) (Or.inl ⟨by rfl, ?_⟩) (by assumption) ?_
  rotate_left
  · ((intro w hSw; go_simp) <;> with_reducible rfl)
  try simp only [Act.put, List.setIfInBounds_toArray, List.set_cons_zero, List.set_cons_succ]
  refine wpAnyH_takeD (i := 6) (d := some 39) (v := ?_) rfl rfl (by kernel_rfl) (by kernel_rfl) (by kernel_rfl) (fun _ _ _ h => h) (Or.inl ⟨by rfl, ?_⟩) (by assumption) ?_
  rotate_left
  · ((intro w hSw; obtain ⟨c0, _⟩ := ro_cf hSw.2.2.1.out 0 (.bool true) rfl; obtain ⟨c1, _⟩ := ro_cf hSw.2.2.1.out 1 (.int .i64 so) rfl; obtain ⟨c2, _⟩ := ro_cf hSw.2.2.1.out 2 (.bool false) rfl; obtain ⟨c3, _⟩ := ro_cf hSw.2.2.1.out 3 (.string std) rfl; go_simp) <;> with_reducible rfl)
  try simp only [Act.put, List.setIfInBounds_toArray, List.set_cons_zero, List.set_cons_succ]
  refine wpAnyH_takeD (i := 7) (d := some 40) (v := ?_) rfl rfl (by kernel_rfl) (by kernel_rfl) (by kernel_rfl) (fun _ _ _ h => h) (Or.inl ⟨by rfl, ?_⟩) (by assumption) ?_
  rotate_left
  · ((intro w hSw; go_simp) <;> with_reducible rfl)
  try simp only [Act.put, List.setIfInBounds_toArray, List.set_cons_zero, List.set_cons_succ]
  refine wpAnyH_takeD (i := 8) (d := some 41) (v := ?_) rfl rfl (by kernel_rfl) (by kernel_rfl) (by kernel_rfl) (fun _ _ _ h => h) (Or.inl ⟨by rfl, ?_⟩) (by assumption) ?_
  rotate_left
  · ((intro w hSw; obtain ⟨c1, _⟩ := ro_cf hSw.1.out 1 _ e1; go_simp) <;> with_reducible rfl)
  try simp only [Act.put, List.setIfInBounds_toArray, List.set_cons_zero, List.set_cons_succ]
  refine wpAnyH_takeD (i := 9) (d := some 42) (v := ?_) rfl rfl (by kernel_rfl) (by kernel_rfl) (by kernel_rfl) (fun _ _ _ h => h) (Or.inl ⟨by rfl, ?_⟩) (by assumption) ?_
  rotate_left
  · ((intro w hSw; go_simp) <;> with_reducible rfl)
  try simp only [Act.put, List.setIfInBounds_toArray, List.set_cons_zero, List.set_cons_succ]
  refine wpAnyH_takeD (i := 10) (d := some 43) (v := ?_) rfl rfl (by kernel_rfl) (by kernel_rfl) (by kernel_rfl) (fun _ _ _ h => h) (Or.inl ⟨by rfl, ?_⟩) (by assumption) ?_
  rotate_left
  · ((intro w hSw; obtain ⟨c0, _⟩ := ro_cf hSw.1.out 0 _ e0; go_simp) <;> with_reducible rfl)
  try simp only [Act.put, List.setIfInBounds_toArray, List.set_cons_zero, List.set_cons_succ]
  refine wpAnyH_takeD (i := 11) (d := some 44) (v := ?_) rfl rfl (by kernel_rfl) (by kernel_rfl) (by kernel_rfl) (fun _ _ _ h => h) (Or.inl ⟨by rfl, ?_⟩) (by assumption) ?_
  rotate_left
  · ((intro w hSw; go_simp) <;> with_reducible rfl)
  try simp only [Act.put, List.setIfInBounds_toArray, List.set_cons_zero, List.set_cons_succ]
  refine wpAnyH_takeD (i := 12) (d := some 45) (v := ?_) rfl rfl (by kernel_rfl) (by kernel_rfl) (by kernel_rfl) (fun _ _ _ h => h) (Or.inl ⟨by rfl, ?_⟩) (by assumption) ?_
  rotate_left
  · ((intro w hSw; go_simp) <;> with_reducible rfl)
  try simp only [Act.put, List.setIfInBounds_toArray, List.set_cons_zero, List.set_cons_succ]
  refine wpAnyH_takeD (i := 13) (d := some 46) (v := ?_) rfl rfl (by kernel_rfl) (by kernel_rfl) (by kernel_rfl) (fun _ _ _ h => h) (Or.inl ⟨by rfl, ?_⟩) (by assumption) ?_
  rotate_left
  · ((intro w hSw; go_simp) <;> with_reducible rfl)
  try simp only [Act.put, List.setIfInBounds_toArray, List.set_cons_zero, List.set_cons_succ]
  refine wpAnyH_takeD (i := 14) (d := some 47) (v := ?_) rfl rfl (by kernel_rfl) (by kernel_rfl) (by kernel_rfl) (fun _ _ _ h => h) (Or.inl ⟨by rfl, ?_⟩) (by assumption) ?_
  rotate_left
  · ((intro w hSw; go_simp) <;> with_reducible rfl)
  try simp only [Act.put, List.setIfInBounds_toArray, List.set_cons_zero, List.set_cons_succ]
  refine wpAnyH_takeD (i := 15) (d := some 48) (v := ?_) rfl rfl (by kernel_rfl) (by kernel_rfl) (by kernel_rfl) (fun _ _ _ h => h) (Or.inl ⟨by rfl, ?_⟩) (by assumption) ?_
  rotate_left
  · ((intro w hSw; go_simp) <;> with_reducible rfl)
  try simp only [Act.put, List.setIfInBounds_toArray, List.set_cons_zero, List.set_cons_succ]
  refine wpAnyH_takeD (i := 16) (d := some 49) (v := ?_) rfl rfl (by kernel_rfl) (by kernel_rfl) (by kernel_rfl) (fun _ _ _ h => h) (Or.inl ⟨by rfl, ?_⟩) (by assumption) ?_
  rotate_left
  · ((intro w hSw; go_simp) <;> with_reducible rfl)
  try simp only [Act.put, List.setIfInBounds_toArray, List.set_cons_zero, List.set_cons_succ]
  refine wpAnyH_takeD (i := 17) (d := some 50) (v := ?_) rfl rfl (by kernel_rfl) (by kernel_rfl) (by kernel_rfl) (fun _ _ _ h => h) (Or.inl ⟨by rfl, ?_⟩) (by assumption) ?_
  rotate_left
  · ((intro w hSw; go_simp) <;> with_reducible rfl)
  try simp only [Act.put, List.setIfInBounds_toArray, List.set_cons_zero, List.set_cons_succ]
  refine wpAnyH_takeD (i := 18) (d := some 6) (v := ?_) rfl rfl (by kernel_rfl) (by kernel_rfl) (by kernel_rfl) (fun _ _ _ h => h) (Or.inl ⟨by rfl, ?_⟩) (by assumption) ?_
  rotate_left
  · ((intro w hSw; go_simp) <;> with_reducible rfl)
  try simp only [Act.put, List.setIfInBounds_toArray, List.set_cons_zero, List.set_cons_succ]
  refine wpAnyH_done (by kernel_rfl) ?_ _
  replace hb := hide hHeld.2.2.2.2.out
  go_wp2_with fail
  go_ret
  exact ⟨rfl, hb.out⟩
theorem withoutDst (std : ByteArray) (so : Int) (hd : Bool) (dst : ByteArray) (dof K1 D1 M1 W1 V1 T1 K2 D2 M2 W2 V2 T2 : Int) (t u : Int) (w : World) (hT : Tb w) (hs : std.size ≤ maxLen) (wso : (Lit.int .i64 so).wf = true) (ht : dst.size ≤ maxLen) (wdof : (Lit.int .i64 dof).wf = true) (wK1 : (Lit.int .i64 K1).wf = true) (wD1 : (Lit.int .i64 D1).wf = true) (wM1 : (Lit.int .i64 M1).wf = true) (wW1 : (Lit.int .i64 W1).wf = true) (wV1 : (Lit.int .i64 V1).wf = true) (wT1 : (Lit.int .i64 T1).wf = true) (wK2 : (Lit.int .i64 K2).wf = true) (wD2 : (Lit.int .i64 D2).wf = true) (wM2 : (Lit.int .i64 M2).wf = true) (wW2 : (Lit.int .i64 W2).wf = true) (wV2 : (Lit.int .i64 V2).wf = true) (wT2 : (Lit.int .i64 T2).wf = true) (wt : (Lit.int .i64 t).wf = true) (wu : (Lit.int .i64 u).wf = true) : Calls Tryz.prog 6 #[.agg #[.string std, .int .i64 so, .bool hd, .string dst, .int .i64 dof, .int .i64 K1, .int .i64 D1, .int .i64 M1, .int .i64 W1, .int .i64 V1, .int .i64 T1, .int .i64 K2, .int .i64 D2, .int .i64 M2, .int .i64 W2, .int .i64 V2, .int .i64 T2], .int .i64 t, .int .i64 u] w fun e w' => e = .returned (.bool true) ∧ Below w.heap.size w w' := woC std so hd dst dof (K1, D1, M1, W1, V1, T1) (K2, D2, M2, W2, V2, T2) t u (wf_i64 wt).1 (wf_i64 wt).2 (wf_i64 wu).1 (wf_i64 wu).2 w hT hs ht
end l11_
end Go.Proofs.YtdhogpcoegfopaaGreatDoor
