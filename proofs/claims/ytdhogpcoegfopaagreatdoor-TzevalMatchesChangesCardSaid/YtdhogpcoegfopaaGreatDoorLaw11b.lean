/-
  THE WALKS OF THE LAWS OF LAYER 11 (zoneinfolaw11): TzevalMatchesChanges. No conditions beyond the tables'.
-/
import Derived.Test.YtdhogpcoegfopaaGreatDoorLaw11
import Derived.Test.YtdhogpcoegfopaaGreatDoorRow2
import Derived.Deep.RegionHeld3
import Derived.Deep.DeepCutAuto
namespace Go.Proofs.YtdhogpcoegfopaaGreatDoor
open Go.ChangeShapes Go.WideShapes Go.ChangeAt Go.RowKit
set_option linter.unusedVariables false
namespace l11_
/-- between t and u, with no change listed, the state stays. -/
theorem stay {hd : Bool} {st en : RD} {so dof t u Y k : Int} {xs : List Int} (rv : RvOk hd so dof st en) (hd1 : hd = true) (t0 : ystart Y * 86400 ≤ t) (t1 : t < ystart (Y + 1) * 86400) (htu : t ≤ u) (hu : u ≤ t + 34560000) (hm : u ≤ 9223372036854775807) (hk : 3 ≤ k)
    (q : Cnd (fun c => chs st so (Y - 2) (Y + k + 1) c ∨ chs en dof (Y - 2) (Y + k + 1) c) t xs) (hx : ∀ c ∈ xs, u < c) : ruleS hd st en so dof t ↔ ruleS hd st en so dof u := by
  obtain ⟨v1, v2, v3, v4⟩ := rv hd1
  have h := onS_const v1 v2 (so := so) (dof := dof) htu (fun y hy => Classical.byContradiction fun hc => ?_) (fun y hy => Classical.byContradiction fun hc => ?_)
  · exact ⟨fun ⟨a, b⟩ => ⟨a, h.1 b⟩, fun ⟨a, b⟩ => ⟨a, h.2 b⟩⟩
  · have hw := chI_after v1 (o := so) (t := t) (Y := Y) (y := y) (u := u) 2 v3 t0 t1 (by omega) hy (by omega)
    have := hx _ (q.2 (chI st so y) (.inl ⟨y, by omega, by omega, rfl⟩) (by omega) (by omega) (by omega))
    omega
  · have hw := chI_after v2 (o := dof) (t := t) (Y := Y) (y := y) (u := u) 2 v4 t0 t1 (by omega) hy (by omega)
    have := hx _ (q.2 (chI en dof y) (.inr ⟨y, by omega, by omega, rfl⟩) (by omega) (by omega) (by omega))
    omega
set_option maxRecDepth 100000 in
set_option maxHeartbeats 8000000 in
theorem mcC (std : ByteArray) (so : Int) (hd : Bool) (dst : ByteArray) (dof : Int) (st en : RD) (t u : Int) (t0 : -9223372036854775808 ≤ t) (t1 : t < 9223372036854775808) (u0 : -9223372036854775808 ≤ u) (u1 : u < 9223372036854775808) (w : World) (hT : Tb w) (hs : std.size ≤ maxLen) (ht : dst.size ≤ maxLen) :
    Calls Tryz.prog 3 #[.agg (crule std so hd dst dof st en), .int .i64 t, .int .i64 u] w fun e w' => e = .returned (.bool true) ∧ Below w.heap.size w w' := by
  have V := hide (fun w => r9_.Valid std so hd dst dof st en w hs ht)
  simp only [vrule_c] at V
  have G := gr_rule std so hd dst dof st en
  obtain ⟨cs, hcs⟩ : ∃ cs, crule std so hd dst dof st en = cs := ⟨_, rfl⟩
  rw [hcs] at V G ⊢
  have hb := hide (bl_new w (.cells cs 25))
  have hB := hide (Ro.new w cs 25)
  have HT := hide (hT.below hb.out)
  have Aw := hide (fun w hT => awake w hT)
  clear hT
  obtain ⟨v, hv⟩ : ∃ v, decide (prOk (byt std, so, hd, byt dst, dof, st, en)) = v := ⟨_, rfl⟩
  rw [hv] at V
  cases v
  · clear hcs hv
    go_enter Tryz.func3, Tryz.ntmps3
    go_wp2_with fail
    refine (Aw.out _ HT.out).mono ?_
    rintro e w1 ⟨rfl, h1⟩
    replace hB := hide (hB.out.below h1)
    replace HT := hide (HT.out.below h1)
    replace hb := hide (bel_next hb.out h1)
    clear h1
    go_wp2_with (refine load_row_g (by rfl) 25 _ rfl _ rfl _ _ _ hB.out Tryz.underlying25 rfl G.1 ?_)
    refine (V.out _).mono ?_
    rintro e w1 ⟨rfl, h1⟩
    replace HT := hide (HT.out.below h1)
    replace hb := hide (bel_next hb.out h1)
    clear h1
    go_wp2_with fail
    refine (Aw.out _ HT.out).mono ?_
    rintro e w1 ⟨rfl, h1⟩
    replace HT := hide (HT.out.below h1)
    replace hb := hide (bel_next hb.out h1)
    clear h1
    go_wp2_with fail
    go_ret
    exact ⟨rfl, hb.out⟩
  have hp := of_decide_eq_true hv
  have rv := RvOk.of hp
  have hz := pr_sz hp
  simp only at rv
  clear hv
  have e0 : cs[0]? = some (.string std) := by rw [← hcs]; rfl
  have e1 : cs[1]? = some (.int .i64 so) := by rw [← hcs]; rfl
  have e2 : cs[2]? = some (.bool hd) := by rw [← hcs]; rfl
  have e3 : cs[3]? = some (.string dst) := by rw [← hcs]; rfl
  have e4 : cs[4]? = some (.int .i64 dof) := by rw [← hcs]; rfl
  obtain ⟨b, hbn⟩ : ∃ b : Bool, b = true ↔ ruleS hd st en so dof t := by
    by_cases h : ruleS hd st en so dof t
    · exact ⟨true, fun _ => h, fun _ => rfl⟩
    · exact ⟨false, (fun h' => by cases h'), fun h' => absurd h' h⟩
  have A1 := hide (fun w hT => te_.At std so hd dst dof st en t b w hT hz t0 t1 rv hbn)
  have Cd := hide (fun w => r11_.Candidates std so hd dst dof st en t 4 w t0 t1 (by decide) (by decide) rv)
  have A2 := hide (fun w hT (h : ruleS hd st en so dof t ↔ ruleS hd st en so dof u) => te_.At std so hd dst dof st en u b w hT hz u0 u1 rv (hbn.trans h))
  rw [hcs] at A1 Cd A2
  have Rv := hide rv
  have Hbn := hide hbn
  have hon : b = true → hd = true := fun h => (hbn.1 h).1
  clear hcs hp rv hz hbn
  replace hon := hide hon
  simp only [vres] at A1 A2
  cases b
  · simp only [Bool.false_eq_true, if_false] at A1 A2
    have qs : ∀ w, (binOp .neq 29 (.agg #[.bool true, .int .i64 so, .bool false, .string std]) (.agg #[.bool true, .int .i64 so, .bool false, .string std])).run Tryz.prog w = .ok (.bool false) w := fun w => by simp [go_sem]
    have qd : ∀ w, (binOp .neq 29 (.agg #[.bool true, .int .i64 so, .bool false, .string std]) (.agg #[.bool true, .int .i64 dof, .bool true, .string dst])).run Tryz.prog w = .ok (.bool true) w := fun w => by simp [go_sem]
    have qe : ∀ w, (binOp .eql 29 (.agg #[.bool true, .int .i64 so, .bool false, .string std]) (.agg #[.bool true, .int .i64 so, .bool false, .string std])).run Tryz.prog w = .ok (.bool true) w := fun w => by simp [go_sem]
    rcases (show hd = false ∨ (hd = true ∧ u ≤ t) ∨ (hd = true ∧ t < u ∧ 34560000 < u - t ∧ u - t ≤ 9223372036854775807) ∨ (hd = true ∧ t < u ∧ 9223372036854775807 < u - t) ∨ (hd = true ∧ t < u ∧ u - t ≤ 34560000) by cases hd <;> simp <;> omega) with rfl | ⟨rfl, k1⟩ | ⟨rfl, k1, k2, k3⟩ | ⟨rfl, k1, k2⟩ | ⟨rfl, k1, k2⟩
    · go_enter Tryz.func3, Tryz.ntmps3
      go_wp2_with fail
      refine (Aw.out _ HT.out).mono ?_
      rintro e w1 ⟨rfl, h1⟩
      replace hB := hide (hB.out.below h1)
      replace HT := hide (HT.out.below h1)
      replace hb := hide (bel_next hb.out h1)
      clear h1
      go_wp2_with (refine load_row_g (by rfl) 25 _ rfl _ rfl _ _ _ hB.out Tryz.underlying25 rfl G.1 ?_)
      refine (V.out _).mono ?_
      rintro e w1 ⟨rfl, h1⟩
      replace hB := hide (hB.out.below h1)
      replace HT := hide (HT.out.below h1)
      replace hb := hide (bel_next hb.out h1)
      clear h1
      go_wp2_with (refine load_row_g (by rfl) 25 _ rfl _ rfl _ _ _ hB.out Tryz.underlying25 rfl G.1 ?_)
      refine (A1.out _ HT.out).mono ?_
      rintro e w1 ⟨rfl, h1⟩
      replace hB := hide (hB.out.below h1)
      replace HT := hide (HT.out.below h1)
      replace hb := hide (bel_next hb.out h1)
      clear h1
      have hA := hide (Ro.new w1 #[.bool true, .int .i64 so, .bool false, .string std] 29)
      replace hB := hide (hB.out.alloc (.cells #[.bool true, .int .i64 so, .bool false, .string std] 29))
      replace HT := hide (HT.out.below (bl_new w1 (.cells #[.bool true, .int .i64 so, .bool false, .string std] 29)))
      replace hb := hide (bl_alloc hb.out (.cells #[.bool true, .int .i64 so, .bool false, .string std] 29))
      go_upto_region 4 with fail
      generalize w1.heap.size = gA at *
      generalize w1.alloc (.cells #[.bool true, .int .i64 so, .bool false, .string std] 29) = w2 at *
      obtain ⟨x0, _⟩ := ro_cf hB.out 0 _ e0
      obtain ⟨x1, _⟩ := ro_cf hB.out 1 _ e1
      obtain ⟨x2, _⟩ := ro_cf hB.out 2 _ e2
      obtain ⟨x3, _⟩ := ro_cf hB.out 3 _ e3
      obtain ⟨x4, _⟩ := ro_cf hB.out 4 _ e4
      have hS := hide (Ro.new w2 #[.bool true, .int .i64 so, .bool false, .string std] 29)
      replace hB := hide (hB.out.alloc (.cells #[.bool true, .int .i64 so, .bool false, .string std] 29))
      replace hA := hide (hA.out.alloc (.cells #[.bool true, .int .i64 so, .bool false, .string std] 29))
      replace HT := hide (HT.out.below (bl_new w2 (.cells #[.bool true, .int .i64 so, .bool false, .string std] 29)))
      replace hb := hide (bl_alloc hb.out (.cells #[.bool true, .int .i64 so, .bool false, .string std] 29))
      go_upto_region 5 with fail
      generalize w2.heap.size = ghS at *
      generalize w2.alloc (.cells #[.bool true, .int .i64 so, .bool false, .string std] 29) = w3 at *
      clear x0 x1 x2 x3 x4
      obtain ⟨x0, _⟩ := ro_cf hB.out 0 _ e0
      obtain ⟨x1, _⟩ := ro_cf hB.out 1 _ e1
      obtain ⟨x2, _⟩ := ro_cf hB.out 2 _ e2
      obtain ⟨x3, _⟩ := ro_cf hB.out 3 _ e3
      obtain ⟨x4, _⟩ := ro_cf hB.out 4 _ e4
      have hD := hide (Ro.new w3 #[.bool true, .int .i64 dof, .bool true, .string dst] 29)
      replace hB := hide (hB.out.alloc (.cells #[.bool true, .int .i64 dof, .bool true, .string dst] 29))
      replace hA := hide (hA.out.alloc (.cells #[.bool true, .int .i64 dof, .bool true, .string dst] 29))
      replace hS := hide (hS.out.alloc (.cells #[.bool true, .int .i64 dof, .bool true, .string dst] 29))
      replace HT := hide (HT.out.below (bl_new w3 (.cells #[.bool true, .int .i64 dof, .bool true, .string dst] 29)))
      replace hb := hide (bl_alloc hb.out (.cells #[.bool true, .int .i64 dof, .bool true, .string dst] 29))
      go_upto_region 6 with fail
      generalize w3.heap.size = ghD at *
      generalize w3.alloc (.cells #[.bool true, .int .i64 dof, .bool true, .string dst] 29) = w4 at *
      clear x0 x1 x2 x3 x4
      obtain ⟨x0, _⟩ := ro_cf hB.out 0 _ e0
      obtain ⟨x1, _⟩ := ro_cf hB.out 1 _ e1
      obtain ⟨x2, _⟩ := ro_cf hB.out 2 _ e2
      obtain ⟨x3, _⟩ := ro_cf hB.out 3 _ e3
      obtain ⟨x4, _⟩ := ro_cf hB.out 4 _ e4
      obtain ⟨hS0, _⟩ := ro_cf hS.out 0 (.bool true) rfl
      obtain ⟨hS1, _⟩ := ro_cf hS.out 1 (.int .i64 so) rfl
      obtain ⟨hS2, _⟩ := ro_cf hS.out 2 (.bool false) rfl
      obtain ⟨hS3, _⟩ := ro_cf hS.out 3 (.string std) rfl
      obtain ⟨hD0, _⟩ := ro_cf hD.out 0 (.bool true) rfl
      obtain ⟨hD1, _⟩ := ro_cf hD.out 1 (.int .i64 dof) rfl
      obtain ⟨hD2, _⟩ := ro_cf hD.out 2 (.bool true) rfl
      obtain ⟨hD3, _⟩ := ro_cf hD.out 3 (.string dst) rfl
      obtain ⟨hA0, _⟩ := ro_cf hA.out 0 (.bool true) rfl
      obtain ⟨hA1, _⟩ := ro_cf hA.out 1 (.int .i64 so) rfl
      obtain ⟨hA2, _⟩ := ro_cf hA.out 2 (.bool false) rfl
      obtain ⟨hA3, _⟩ := ro_cf hA.out 3 (.string std) rfl
      go_wp2_with fail
      go_ret
      exact ⟨rfl, hb.out⟩
    · have d1 : decide (u ≤ t) = true := by simpa using k1
      go_enter Tryz.func3, Tryz.ntmps3
      go_wp2_with fail
      refine (Aw.out _ HT.out).mono ?_
      rintro e w1 ⟨rfl, h1⟩
      replace hB := hide (hB.out.below h1)
      replace HT := hide (HT.out.below h1)
      replace hb := hide (bel_next hb.out h1)
      clear h1
      go_wp2_with (refine load_row_g (by rfl) 25 _ rfl _ rfl _ _ _ hB.out Tryz.underlying25 rfl G.1 ?_)
      refine (V.out _).mono ?_
      rintro e w1 ⟨rfl, h1⟩
      replace hB := hide (hB.out.below h1)
      replace HT := hide (HT.out.below h1)
      replace hb := hide (bel_next hb.out h1)
      clear h1
      go_wp2_with (refine load_row_g (by rfl) 25 _ rfl _ rfl _ _ _ hB.out Tryz.underlying25 rfl G.1 ?_)
      refine (A1.out _ HT.out).mono ?_
      rintro e w1 ⟨rfl, h1⟩
      replace hB := hide (hB.out.below h1)
      replace HT := hide (HT.out.below h1)
      replace hb := hide (bel_next hb.out h1)
      clear h1
      have hA := hide (Ro.new w1 #[.bool true, .int .i64 so, .bool false, .string std] 29)
      replace hB := hide (hB.out.alloc (.cells #[.bool true, .int .i64 so, .bool false, .string std] 29))
      replace HT := hide (HT.out.below (bl_new w1 (.cells #[.bool true, .int .i64 so, .bool false, .string std] 29)))
      replace hb := hide (bl_alloc hb.out (.cells #[.bool true, .int .i64 so, .bool false, .string std] 29))
      go_upto_region 4 with fail
      generalize w1.heap.size = gA at *
      generalize w1.alloc (.cells #[.bool true, .int .i64 so, .bool false, .string std] 29) = w2 at *
      obtain ⟨x0, _⟩ := ro_cf hB.out 0 _ e0
      obtain ⟨x1, _⟩ := ro_cf hB.out 1 _ e1
      obtain ⟨x2, _⟩ := ro_cf hB.out 2 _ e2
      obtain ⟨x3, _⟩ := ro_cf hB.out 3 _ e3
      obtain ⟨x4, _⟩ := ro_cf hB.out 4 _ e4
      have hS := hide (Ro.new w2 #[.bool true, .int .i64 so, .bool false, .string std] 29)
      replace hB := hide (hB.out.alloc (.cells #[.bool true, .int .i64 so, .bool false, .string std] 29))
      replace hA := hide (hA.out.alloc (.cells #[.bool true, .int .i64 so, .bool false, .string std] 29))
      replace HT := hide (HT.out.below (bl_new w2 (.cells #[.bool true, .int .i64 so, .bool false, .string std] 29)))
      replace hb := hide (bl_alloc hb.out (.cells #[.bool true, .int .i64 so, .bool false, .string std] 29))
      go_upto_region 5 with fail
      generalize w2.heap.size = ghS at *
      generalize w2.alloc (.cells #[.bool true, .int .i64 so, .bool false, .string std] 29) = w3 at *
      clear x0 x1 x2 x3 x4
      obtain ⟨x0, _⟩ := ro_cf hB.out 0 _ e0
      obtain ⟨x1, _⟩ := ro_cf hB.out 1 _ e1
      obtain ⟨x2, _⟩ := ro_cf hB.out 2 _ e2
      obtain ⟨x3, _⟩ := ro_cf hB.out 3 _ e3
      obtain ⟨x4, _⟩ := ro_cf hB.out 4 _ e4
      have hD := hide (Ro.new w3 #[.bool true, .int .i64 dof, .bool true, .string dst] 29)
      replace hB := hide (hB.out.alloc (.cells #[.bool true, .int .i64 dof, .bool true, .string dst] 29))
      replace hA := hide (hA.out.alloc (.cells #[.bool true, .int .i64 dof, .bool true, .string dst] 29))
      replace hS := hide (hS.out.alloc (.cells #[.bool true, .int .i64 dof, .bool true, .string dst] 29))
      replace HT := hide (HT.out.below (bl_new w3 (.cells #[.bool true, .int .i64 dof, .bool true, .string dst] 29)))
      replace hb := hide (bl_alloc hb.out (.cells #[.bool true, .int .i64 dof, .bool true, .string dst] 29))
      go_upto_region 6 with fail
      generalize w3.heap.size = ghD at *
      generalize w3.alloc (.cells #[.bool true, .int .i64 dof, .bool true, .string dst] 29) = w4 at *
      clear x0 x1 x2 x3 x4
      obtain ⟨x0, _⟩ := ro_cf hB.out 0 _ e0
      obtain ⟨x1, _⟩ := ro_cf hB.out 1 _ e1
      obtain ⟨x2, _⟩ := ro_cf hB.out 2 _ e2
      obtain ⟨x3, _⟩ := ro_cf hB.out 3 _ e3
      obtain ⟨x4, _⟩ := ro_cf hB.out 4 _ e4
      obtain ⟨hS0, _⟩ := ro_cf hS.out 0 (.bool true) rfl
      obtain ⟨hS1, _⟩ := ro_cf hS.out 1 (.int .i64 so) rfl
      obtain ⟨hS2, _⟩ := ro_cf hS.out 2 (.bool false) rfl
      obtain ⟨hS3, _⟩ := ro_cf hS.out 3 (.string std) rfl
      obtain ⟨hD0, _⟩ := ro_cf hD.out 0 (.bool true) rfl
      obtain ⟨hD1, _⟩ := ro_cf hD.out 1 (.int .i64 dof) rfl
      obtain ⟨hD2, _⟩ := ro_cf hD.out 2 (.bool true) rfl
      obtain ⟨hD3, _⟩ := ro_cf hD.out 3 (.string dst) rfl
      obtain ⟨hA0, _⟩ := ro_cf hA.out 0 (.bool true) rfl
      obtain ⟨hA1, _⟩ := ro_cf hA.out 1 (.int .i64 so) rfl
      obtain ⟨hA2, _⟩ := ro_cf hA.out 2 (.bool false) rfl
      obtain ⟨hA3, _⟩ := ro_cf hA.out 3 (.string std) rfl
      go_wp2_with fail
      go_ret
      exact ⟨rfl, hb.out⟩
    · have d1 : decide (u ≤ t) = false := by simp; omega
      have d2 : IntKind.i64.wrap (u - t) = u - t := by rw [IntKind.wrap_i64]; omega
      have d3 : decide (34560000 < u - t) = true := by simpa using k2
      go_enter Tryz.func3, Tryz.ntmps3
      go_wp2_with fail
      refine (Aw.out _ HT.out).mono ?_
      rintro e w1 ⟨rfl, h1⟩
      replace hB := hide (hB.out.below h1)
      replace HT := hide (HT.out.below h1)
      replace hb := hide (bel_next hb.out h1)
      clear h1
      go_wp2_with (refine load_row_g (by rfl) 25 _ rfl _ rfl _ _ _ hB.out Tryz.underlying25 rfl G.1 ?_)
      refine (V.out _).mono ?_
      rintro e w1 ⟨rfl, h1⟩
      replace hB := hide (hB.out.below h1)
      replace HT := hide (HT.out.below h1)
      replace hb := hide (bel_next hb.out h1)
      clear h1
      go_wp2_with (refine load_row_g (by rfl) 25 _ rfl _ rfl _ _ _ hB.out Tryz.underlying25 rfl G.1 ?_)
      refine (A1.out _ HT.out).mono ?_
      rintro e w1 ⟨rfl, h1⟩
      replace hB := hide (hB.out.below h1)
      replace HT := hide (HT.out.below h1)
      replace hb := hide (bel_next hb.out h1)
      clear h1
      have hA := hide (Ro.new w1 #[.bool true, .int .i64 so, .bool false, .string std] 29)
      replace hB := hide (hB.out.alloc (.cells #[.bool true, .int .i64 so, .bool false, .string std] 29))
      replace HT := hide (HT.out.below (bl_new w1 (.cells #[.bool true, .int .i64 so, .bool false, .string std] 29)))
      replace hb := hide (bl_alloc hb.out (.cells #[.bool true, .int .i64 so, .bool false, .string std] 29))
      go_upto_region 4 with fail
      generalize w1.heap.size = gA at *
      generalize w1.alloc (.cells #[.bool true, .int .i64 so, .bool false, .string std] 29) = w2 at *
      obtain ⟨x0, _⟩ := ro_cf hB.out 0 _ e0
      obtain ⟨x1, _⟩ := ro_cf hB.out 1 _ e1
      obtain ⟨x2, _⟩ := ro_cf hB.out 2 _ e2
      obtain ⟨x3, _⟩ := ro_cf hB.out 3 _ e3
      obtain ⟨x4, _⟩ := ro_cf hB.out 4 _ e4
      have hS := hide (Ro.new w2 #[.bool true, .int .i64 so, .bool false, .string std] 29)
      replace hB := hide (hB.out.alloc (.cells #[.bool true, .int .i64 so, .bool false, .string std] 29))
      replace hA := hide (hA.out.alloc (.cells #[.bool true, .int .i64 so, .bool false, .string std] 29))
      replace HT := hide (HT.out.below (bl_new w2 (.cells #[.bool true, .int .i64 so, .bool false, .string std] 29)))
      replace hb := hide (bl_alloc hb.out (.cells #[.bool true, .int .i64 so, .bool false, .string std] 29))
      go_upto_region 5 with fail
      generalize w2.heap.size = ghS at *
      generalize w2.alloc (.cells #[.bool true, .int .i64 so, .bool false, .string std] 29) = w3 at *
      clear x0 x1 x2 x3 x4
      obtain ⟨x0, _⟩ := ro_cf hB.out 0 _ e0
      obtain ⟨x1, _⟩ := ro_cf hB.out 1 _ e1
      obtain ⟨x2, _⟩ := ro_cf hB.out 2 _ e2
      obtain ⟨x3, _⟩ := ro_cf hB.out 3 _ e3
      obtain ⟨x4, _⟩ := ro_cf hB.out 4 _ e4
      have hD := hide (Ro.new w3 #[.bool true, .int .i64 dof, .bool true, .string dst] 29)
      replace hB := hide (hB.out.alloc (.cells #[.bool true, .int .i64 dof, .bool true, .string dst] 29))
      replace hA := hide (hA.out.alloc (.cells #[.bool true, .int .i64 dof, .bool true, .string dst] 29))
      replace hS := hide (hS.out.alloc (.cells #[.bool true, .int .i64 dof, .bool true, .string dst] 29))
      replace HT := hide (HT.out.below (bl_new w3 (.cells #[.bool true, .int .i64 dof, .bool true, .string dst] 29)))
      replace hb := hide (bl_alloc hb.out (.cells #[.bool true, .int .i64 dof, .bool true, .string dst] 29))
      go_upto_region 6 with fail
      generalize w3.heap.size = ghD at *
      generalize w3.alloc (.cells #[.bool true, .int .i64 dof, .bool true, .string dst] 29) = w4 at *
      clear x0 x1 x2 x3 x4
      obtain ⟨x0, _⟩ := ro_cf hB.out 0 _ e0
      obtain ⟨x1, _⟩ := ro_cf hB.out 1 _ e1
      obtain ⟨x2, _⟩ := ro_cf hB.out 2 _ e2
      obtain ⟨x3, _⟩ := ro_cf hB.out 3 _ e3
      obtain ⟨x4, _⟩ := ro_cf hB.out 4 _ e4
      obtain ⟨hS0, _⟩ := ro_cf hS.out 0 (.bool true) rfl
      obtain ⟨hS1, _⟩ := ro_cf hS.out 1 (.int .i64 so) rfl
      obtain ⟨hS2, _⟩ := ro_cf hS.out 2 (.bool false) rfl
      obtain ⟨hS3, _⟩ := ro_cf hS.out 3 (.string std) rfl
      obtain ⟨hD0, _⟩ := ro_cf hD.out 0 (.bool true) rfl
      obtain ⟨hD1, _⟩ := ro_cf hD.out 1 (.int .i64 dof) rfl
      obtain ⟨hD2, _⟩ := ro_cf hD.out 2 (.bool true) rfl
      obtain ⟨hD3, _⟩ := ro_cf hD.out 3 (.string dst) rfl
      obtain ⟨hA0, _⟩ := ro_cf hA.out 0 (.bool true) rfl
      obtain ⟨hA1, _⟩ := ro_cf hA.out 1 (.int .i64 so) rfl
      obtain ⟨hA2, _⟩ := ro_cf hA.out 2 (.bool false) rfl
      obtain ⟨hA3, _⟩ := ro_cf hA.out 3 (.string std) rfl
      go_wp2_with fail
      go_ret
      exact ⟨rfl, hb.out⟩
    · have d1 : decide (u ≤ t) = false := by simp; omega
      obtain ⟨z, hz⟩ : ∃ z, IntKind.i64.wrap (u - t) = z := ⟨_, rfl⟩
      have hz' : z = u - t - 18446744073709551616 := by rw [← hz, IntKind.wrap_i64]; omega
      have d3 : decide (34560000 < z) = false := by simp; omega
      have d4 : decide (z < 0) = true := by simp; omega
      clear hz'
      go_enter Tryz.func3, Tryz.ntmps3
      go_wp2_with fail
      refine (Aw.out _ HT.out).mono ?_
      rintro e w1 ⟨rfl, h1⟩
      replace hB := hide (hB.out.below h1)
      replace HT := hide (HT.out.below h1)
      replace hb := hide (bel_next hb.out h1)
      clear h1
      go_wp2_with (refine load_row_g (by rfl) 25 _ rfl _ rfl _ _ _ hB.out Tryz.underlying25 rfl G.1 ?_)
      refine (V.out _).mono ?_
      rintro e w1 ⟨rfl, h1⟩
      replace hB := hide (hB.out.below h1)
      replace HT := hide (HT.out.below h1)
      replace hb := hide (bel_next hb.out h1)
      clear h1
      go_wp2_with (refine load_row_g (by rfl) 25 _ rfl _ rfl _ _ _ hB.out Tryz.underlying25 rfl G.1 ?_)
      refine (A1.out _ HT.out).mono ?_
      rintro e w1 ⟨rfl, h1⟩
      replace hB := hide (hB.out.below h1)
      replace HT := hide (HT.out.below h1)
      replace hb := hide (bel_next hb.out h1)
      clear h1
      have hA := hide (Ro.new w1 #[.bool true, .int .i64 so, .bool false, .string std] 29)
      replace hB := hide (hB.out.alloc (.cells #[.bool true, .int .i64 so, .bool false, .string std] 29))
      replace HT := hide (HT.out.below (bl_new w1 (.cells #[.bool true, .int .i64 so, .bool false, .string std] 29)))
      replace hb := hide (bl_alloc hb.out (.cells #[.bool true, .int .i64 so, .bool false, .string std] 29))
      go_upto_region 4 with fail
      generalize w1.heap.size = gA at *
      generalize w1.alloc (.cells #[.bool true, .int .i64 so, .bool false, .string std] 29) = w2 at *
      obtain ⟨x0, _⟩ := ro_cf hB.out 0 _ e0
      obtain ⟨x1, _⟩ := ro_cf hB.out 1 _ e1
      obtain ⟨x2, _⟩ := ro_cf hB.out 2 _ e2
      obtain ⟨x3, _⟩ := ro_cf hB.out 3 _ e3
      obtain ⟨x4, _⟩ := ro_cf hB.out 4 _ e4
      have hS := hide (Ro.new w2 #[.bool true, .int .i64 so, .bool false, .string std] 29)
      replace hB := hide (hB.out.alloc (.cells #[.bool true, .int .i64 so, .bool false, .string std] 29))
      replace hA := hide (hA.out.alloc (.cells #[.bool true, .int .i64 so, .bool false, .string std] 29))
      replace HT := hide (HT.out.below (bl_new w2 (.cells #[.bool true, .int .i64 so, .bool false, .string std] 29)))
      replace hb := hide (bl_alloc hb.out (.cells #[.bool true, .int .i64 so, .bool false, .string std] 29))
      go_upto_region 5 with fail
      generalize w2.heap.size = ghS at *
      generalize w2.alloc (.cells #[.bool true, .int .i64 so, .bool false, .string std] 29) = w3 at *
      clear x0 x1 x2 x3 x4
      obtain ⟨x0, _⟩ := ro_cf hB.out 0 _ e0
      obtain ⟨x1, _⟩ := ro_cf hB.out 1 _ e1
      obtain ⟨x2, _⟩ := ro_cf hB.out 2 _ e2
      obtain ⟨x3, _⟩ := ro_cf hB.out 3 _ e3
      obtain ⟨x4, _⟩ := ro_cf hB.out 4 _ e4
      have hD := hide (Ro.new w3 #[.bool true, .int .i64 dof, .bool true, .string dst] 29)
      replace hB := hide (hB.out.alloc (.cells #[.bool true, .int .i64 dof, .bool true, .string dst] 29))
      replace hA := hide (hA.out.alloc (.cells #[.bool true, .int .i64 dof, .bool true, .string dst] 29))
      replace hS := hide (hS.out.alloc (.cells #[.bool true, .int .i64 dof, .bool true, .string dst] 29))
      replace HT := hide (HT.out.below (bl_new w3 (.cells #[.bool true, .int .i64 dof, .bool true, .string dst] 29)))
      replace hb := hide (bl_alloc hb.out (.cells #[.bool true, .int .i64 dof, .bool true, .string dst] 29))
      go_upto_region 6 with fail
      generalize w3.heap.size = ghD at *
      generalize w3.alloc (.cells #[.bool true, .int .i64 dof, .bool true, .string dst] 29) = w4 at *
      clear x0 x1 x2 x3 x4
      obtain ⟨x0, _⟩ := ro_cf hB.out 0 _ e0
      obtain ⟨x1, _⟩ := ro_cf hB.out 1 _ e1
      obtain ⟨x2, _⟩ := ro_cf hB.out 2 _ e2
      obtain ⟨x3, _⟩ := ro_cf hB.out 3 _ e3
      obtain ⟨x4, _⟩ := ro_cf hB.out 4 _ e4
      obtain ⟨hS0, _⟩ := ro_cf hS.out 0 (.bool true) rfl
      obtain ⟨hS1, _⟩ := ro_cf hS.out 1 (.int .i64 so) rfl
      obtain ⟨hS2, _⟩ := ro_cf hS.out 2 (.bool false) rfl
      obtain ⟨hS3, _⟩ := ro_cf hS.out 3 (.string std) rfl
      obtain ⟨hD0, _⟩ := ro_cf hD.out 0 (.bool true) rfl
      obtain ⟨hD1, _⟩ := ro_cf hD.out 1 (.int .i64 dof) rfl
      obtain ⟨hD2, _⟩ := ro_cf hD.out 2 (.bool true) rfl
      obtain ⟨hD3, _⟩ := ro_cf hD.out 3 (.string dst) rfl
      obtain ⟨hA0, _⟩ := ro_cf hA.out 0 (.bool true) rfl
      obtain ⟨hA1, _⟩ := ro_cf hA.out 1 (.int .i64 so) rfl
      obtain ⟨hA2, _⟩ := ro_cf hA.out 2 (.bool false) rfl
      obtain ⟨hA3, _⟩ := ro_cf hA.out 3 (.string std) rfl
      go_wp2_with fail
      go_ret
      exact ⟨rfl, hb.out⟩
    · have d1 : decide (u ≤ t) = false := by simp; omega
      have d2 : IntKind.i64.wrap (u - t) = u - t := by rw [IntKind.wrap_i64]; omega
      have d3 : decide (34560000 < u - t) = false := by simp; omega
      have d4 : decide (u - t < 0) = false := by simp; omega
      go_enter Tryz.func3, Tryz.ntmps3
      go_wp2_with fail
      refine (Aw.out _ HT.out).mono ?_
      rintro e w1 ⟨rfl, h1⟩
      replace hB := hide (hB.out.below h1)
      replace HT := hide (HT.out.below h1)
      replace hb := hide (bel_next hb.out h1)
      clear h1
      go_wp2_with (refine load_row_g (by rfl) 25 _ rfl _ rfl _ _ _ hB.out Tryz.underlying25 rfl G.1 ?_)
      refine (V.out _).mono ?_
      rintro e w1 ⟨rfl, h1⟩
      replace hB := hide (hB.out.below h1)
      replace HT := hide (HT.out.below h1)
      replace hb := hide (bel_next hb.out h1)
      clear h1
      go_wp2_with (refine load_row_g (by rfl) 25 _ rfl _ rfl _ _ _ hB.out Tryz.underlying25 rfl G.1 ?_)
      refine (A1.out _ HT.out).mono ?_
      rintro e w1 ⟨rfl, h1⟩
      replace hB := hide (hB.out.below h1)
      replace HT := hide (HT.out.below h1)
      replace hb := hide (bel_next hb.out h1)
      clear h1
      have hA := hide (Ro.new w1 #[.bool true, .int .i64 so, .bool false, .string std] 29)
      replace hB := hide (hB.out.alloc (.cells #[.bool true, .int .i64 so, .bool false, .string std] 29))
      replace HT := hide (HT.out.below (bl_new w1 (.cells #[.bool true, .int .i64 so, .bool false, .string std] 29)))
      replace hb := hide (bl_alloc hb.out (.cells #[.bool true, .int .i64 so, .bool false, .string std] 29))
      go_upto_region 4 with fail
      generalize w1.heap.size = gA at *
      generalize w1.alloc (.cells #[.bool true, .int .i64 so, .bool false, .string std] 29) = w2 at *
      obtain ⟨x0, _⟩ := ro_cf hB.out 0 _ e0
      obtain ⟨x1, _⟩ := ro_cf hB.out 1 _ e1
      obtain ⟨x2, _⟩ := ro_cf hB.out 2 _ e2
      obtain ⟨x3, _⟩ := ro_cf hB.out 3 _ e3
      obtain ⟨x4, _⟩ := ro_cf hB.out 4 _ e4
      have hS := hide (Ro.new w2 #[.bool true, .int .i64 so, .bool false, .string std] 29)
      replace hB := hide (hB.out.alloc (.cells #[.bool true, .int .i64 so, .bool false, .string std] 29))
      replace hA := hide (hA.out.alloc (.cells #[.bool true, .int .i64 so, .bool false, .string std] 29))
      replace HT := hide (HT.out.below (bl_new w2 (.cells #[.bool true, .int .i64 so, .bool false, .string std] 29)))
      replace hb := hide (bl_alloc hb.out (.cells #[.bool true, .int .i64 so, .bool false, .string std] 29))
      go_upto_region 5 with fail
      generalize w2.heap.size = ghS at *
      generalize w2.alloc (.cells #[.bool true, .int .i64 so, .bool false, .string std] 29) = w3 at *
      clear x0 x1 x2 x3 x4
      obtain ⟨x0, _⟩ := ro_cf hB.out 0 _ e0
      obtain ⟨x1, _⟩ := ro_cf hB.out 1 _ e1
      obtain ⟨x2, _⟩ := ro_cf hB.out 2 _ e2
      obtain ⟨x3, _⟩ := ro_cf hB.out 3 _ e3
      obtain ⟨x4, _⟩ := ro_cf hB.out 4 _ e4
      have hD := hide (Ro.new w3 #[.bool true, .int .i64 dof, .bool true, .string dst] 29)
      replace hB := hide (hB.out.alloc (.cells #[.bool true, .int .i64 dof, .bool true, .string dst] 29))
      replace hA := hide (hA.out.alloc (.cells #[.bool true, .int .i64 dof, .bool true, .string dst] 29))
      replace hS := hide (hS.out.alloc (.cells #[.bool true, .int .i64 dof, .bool true, .string dst] 29))
      replace HT := hide (HT.out.below (bl_new w3 (.cells #[.bool true, .int .i64 dof, .bool true, .string dst] 29)))
      replace hb := hide (bl_alloc hb.out (.cells #[.bool true, .int .i64 dof, .bool true, .string dst] 29))
      go_upto_region 6 with fail
      generalize w3.heap.size = ghD at *
      generalize w3.alloc (.cells #[.bool true, .int .i64 dof, .bool true, .string dst] 29) = w4 at *
      clear x0 x1 x2 x3 x4
      obtain ⟨x0, _⟩ := ro_cf hB.out 0 _ e0
      obtain ⟨x1, _⟩ := ro_cf hB.out 1 _ e1
      obtain ⟨x2, _⟩ := ro_cf hB.out 2 _ e2
      obtain ⟨x3, _⟩ := ro_cf hB.out 3 _ e3
      obtain ⟨x4, _⟩ := ro_cf hB.out 4 _ e4
      obtain ⟨hS0, _⟩ := ro_cf hS.out 0 (.bool true) rfl
      obtain ⟨hS1, _⟩ := ro_cf hS.out 1 (.int .i64 so) rfl
      obtain ⟨hS2, _⟩ := ro_cf hS.out 2 (.bool false) rfl
      obtain ⟨hS3, _⟩ := ro_cf hS.out 3 (.string std) rfl
      obtain ⟨hD0, _⟩ := ro_cf hD.out 0 (.bool true) rfl
      obtain ⟨hD1, _⟩ := ro_cf hD.out 1 (.int .i64 dof) rfl
      obtain ⟨hD2, _⟩ := ro_cf hD.out 2 (.bool true) rfl
      obtain ⟨hD3, _⟩ := ro_cf hD.out 3 (.string dst) rfl
      obtain ⟨hA0, _⟩ := ro_cf hA.out 0 (.bool true) rfl
      obtain ⟨hA1, _⟩ := ro_cf hA.out 1 (.int .i64 so) rfl
      obtain ⟨hA2, _⟩ := ro_cf hA.out 2 (.bool false) rfl
      obtain ⟨hA3, _⟩ := ro_cf hA.out 3 (.string std) rfl
      go_upto_region 10 with fail
      go_wp2_with (refine load_row_g (by rfl) 25 _ rfl _ rfl _ _ _ hB.out Tryz.underlying25 rfl G.1 ?_)
      refine (Cd.out _).mono ?_
      rintro e w5 ⟨A, n, c, xs, Y, rfl, hO, h1, hn, hY, _, q⟩
      clear hS0 hS1 hS2 hS3 hD0 hD1 hD2 hD3 hA0 hA1 hA2 hA3 x0 x1 x2 x3 x4
      replace hB := hide (hB.out.below h1)
      replace hA := hide (hA.out.below h1)
      replace HT := hide (HT.out.below h1)
      replace hb := hide (bel_next hb.out h1)
      clear h1 qs qd d1 d2 d3 d4
      have hq := hide (q (by first | rfl | trivial))
      replace hY := hide hY
      have hlen : xs.length = n := by have := hO.len; simpa using this
      have hRd := hide (show ∀ i (hi : i < n), ∃ g x, A = some ⟨g, 0, none⟩ ∧ xs[i]? = some x ∧ w5.cell? ⟨g, i, none⟩ = some (.int .i64 x) from fun i hi => by
        obtain ⟨g, rfl, _, _⟩ := hO.form (by omega)
        have hx : xs[i]? = some (xs[i]'(by omega)) := List.getElem?_eq_getElem (by omega)
        exact ⟨g, _, rfl, hx, by rw [hO.cell i hi, List.getElem?_map, hx]; rfl⟩)
      replace hlen := hide hlen
      clear hO q
      go_wp2_with fail
      go_loop [11] (fun iv => ∃ i : Nat, iv = .int .i64 i ∧ i ≤ n ∧ ∀ j x, j < i → xs[j]? = some x → u < x) (fun iv => n + 1 - (intOf iv).toNat)
      case atStart => exact ⟨0, rfl, by omega, fun j x hj => by omega⟩
      case round =>
        obtain ⟨i, rfl, hi, hall⟩ := hrel
        replace hall := hide hall
        by_cases hlt : i < n
        · obtain ⟨g, x, rfl, hx, hcell⟩ := hRd.out i hlt
          replace hx := hide hx
          have dl : decide ((i : Int) < (n : Int)) = true := by simpa using hlt
          by_cases hxu : x ≤ u
          · have du : decide (x ≤ u) = true := by simpa using hxu
            go_wp2_with fail
            go_ret
            exact ⟨rfl, hb.out⟩
          · have du : decide (x ≤ u) = false := by simpa using hxu
            go_wp2_with fail
            go_round
            case rel => exact ⟨i + 1, by go_num, by omega, fun j y hj hy => by
              by_cases hji : j = i
              · subst hji
                rw [hx.out] at hy
                cases hy
                omega
              · exact hall.out j y (by omega) hy⟩
            case measure => simp [intOf]; omega
        · obtain rfl : i = n := by omega
          have hst := stay (t := t) (u := u) (k := 4) Rv.out rfl hY.out.1 hY.out.2 (by omega) (by omega) (by omega) (by decide) hq.out (fun c hc => by
            obtain ⟨j, hj, rfl⟩ := List.getElem_of_mem hc
            exact hall.out j _ (by have := hlen.out; omega) (List.getElem?_eq_getElem hj))
          have A3 := hide (fun w hT => A2.out w hT hst)
          clear hst hall hRd hq
          have dl : decide ((i : Int) < (i : Int)) = false := by simp
          go_upto_region 16 with fail
          refine wp_region_held_drew (S := fun w' => Hid (Ro w' w.heap.size (cs) 25) ∧ Hid (Ro w' gA (#[.bool true, .int .i64 so, .bool false, .string std]) 29) ∧ Hid (Tb w') ∧ Hid (Below w.heap.size w w')) (by kernel_rfl) (⟨hB, hA, hide (HT.out.below (bl_drew (bl_refl _))), hide (bl_drew hb.out)⟩) (fun hHeld => ?_)
          refine wpAnyH_takeD (i := 0) (d := some 81) rfl rfl (by kernel_rfl) (by kernel_rfl) (by kernel_rfl) (fun _ _ _ h => h) (yieldsIf_load_row (by rfl) 25 _ rfl w.heap.size rfl 25 cs _ (fun w hw => hw.1.out) Tryz.underlying25 rfl G.1) (by assumption) ?_
          try simp only [Act.put, List.setIfInBounds_toArray, List.set_cons_zero, List.set_cons_succ]
          refine wpAnyH_takeD (i := 1) (d := some 82) (v := ?_) rfl rfl (by kernel_rfl) (by kernel_rfl) (by kernel_rfl) (fun _ _ _ h => h) (Or.inl ⟨by rfl, ?_⟩) (by assumption) ?_
          rotate_left
          · ((intro w hSw; go_simp) <;> with_reducible rfl)
          try simp only [Act.put, List.setIfInBounds_toArray, List.set_cons_zero, List.set_cons_succ]
          refine wpAnyH_takeD (i := 3) (d := some 84) (v := ?_) rfl rfl (by kernel_rfl) (by kernel_rfl) (by kernel_rfl) (fun _ _ _ h => h) (Or.inl ⟨by rfl, ?_⟩) (by assumption) ?_
          rotate_left
          · ((intro w hSw; obtain ⟨c0, _⟩ := ro_cf hSw.2.1.out 0 (.bool true) rfl; obtain ⟨c1, _⟩ := ro_cf hSw.2.1.out 1 (.int .i64 so) rfl; obtain ⟨c2, _⟩ := ro_cf hSw.2.1.out 2 (.bool false) rfl; obtain ⟨c3, _⟩ := ro_cf hSw.2.1.out 3 (.string std) rfl; go_simp) <;> with_reducible rfl)
          try simp only [Act.put, List.setIfInBounds_toArray, List.set_cons_zero, List.set_cons_succ]
          refine wpAnyH_ready (rs := [2]) (by kernel_rfl) (by simp) ?_
          refine AllReadyH.cons rfl (fun K hK => ?_) AllReadyH.nil
          go_simp
          refine (A3.out _ hHeld.2.2.1.out).mono ?_
          rintro e w6 ⟨rfl, h1'⟩
          refine hK.out _ _ (⟨hide (hHeld.1.out.below h1'), hide (hHeld.2.1.out.below h1'), hide (hHeld.2.2.1.out.below h1'), hide (bel_next hHeld.2.2.2.out h1')⟩) (fun hHeld => ?_)
          clear hK K h1'
          try simp only [Act.put, List.setIfInBounds_toArray, List.set_cons_zero, List.set_cons_succ]
          refine wpAnyH_takeD (i := 4) (d := some 85) (v := ?_) rfl rfl (by kernel_rfl) (by kernel_rfl) (by kernel_rfl) (fun _ _ _ h => h) (Or.inl ⟨by rfl, ?_⟩) (by assumption) ?_
          rotate_left
          · ((intro w hSw; go_simp) <;> with_reducible rfl)
          try simp only [Act.put, List.setIfInBounds_toArray, List.set_cons_zero, List.set_cons_succ]
          refine wpAnyH_takeD (i := 5) (d := some 6) (v := ?_) rfl rfl (by kernel_rfl) (by kernel_rfl) (by kernel_rfl) (fun _ _ _ h => h) (Or.inl ⟨by rfl, ?_⟩) (by assumption) ?_
          rotate_left
          · ((intro w hSw; go_simp) <;> with_reducible rfl)
          try simp only [Act.put, List.setIfInBounds_toArray, List.set_cons_zero, List.set_cons_succ]
          refine wpAnyH_done (by kernel_rfl) ?_ _
          replace hb := hide hHeld.2.2.2.out
          go_wp2_with fail
          go_ret
          exact ⟨rfl, hb.out⟩
  · simp only [if_true] at A1 A2
    obtain rfl : hd = true := hon.out rfl
    have qs : ∀ w, (binOp .neq 29 (.agg #[.bool true, .int .i64 dof, .bool true, .string dst]) (.agg #[.bool true, .int .i64 so, .bool false, .string std])).run Tryz.prog w = .ok (.bool true) w := fun w => by simp [go_sem]
    have qd : ∀ w, (binOp .neq 29 (.agg #[.bool true, .int .i64 dof, .bool true, .string dst]) (.agg #[.bool true, .int .i64 dof, .bool true, .string dst])).run Tryz.prog w = .ok (.bool false) w := fun w => by simp [go_sem]
    have qe : ∀ w, (binOp .eql 29 (.agg #[.bool true, .int .i64 dof, .bool true, .string dst]) (.agg #[.bool true, .int .i64 dof, .bool true, .string dst])).run Tryz.prog w = .ok (.bool true) w := fun w => by simp [go_sem]
    rcases (show u ≤ t ∨ (t < u ∧ 34560000 < u - t ∧ u - t ≤ 9223372036854775807) ∨ (t < u ∧ 9223372036854775807 < u - t) ∨ (t < u ∧ u - t ≤ 34560000) by omega) with k1 | ⟨k1, k2, k3⟩ | ⟨k1, k2⟩ | ⟨k1, k2⟩
    · have d1 : decide (u ≤ t) = true := by simpa using k1
      go_enter Tryz.func3, Tryz.ntmps3
      go_wp2_with fail
      refine (Aw.out _ HT.out).mono ?_
      rintro e w1 ⟨rfl, h1⟩
      replace hB := hide (hB.out.below h1)
      replace HT := hide (HT.out.below h1)
      replace hb := hide (bel_next hb.out h1)
      clear h1
      go_wp2_with (refine load_row_g (by rfl) 25 _ rfl _ rfl _ _ _ hB.out Tryz.underlying25 rfl G.1 ?_)
      refine (V.out _).mono ?_
      rintro e w1 ⟨rfl, h1⟩
      replace hB := hide (hB.out.below h1)
      replace HT := hide (HT.out.below h1)
      replace hb := hide (bel_next hb.out h1)
      clear h1
      go_wp2_with (refine load_row_g (by rfl) 25 _ rfl _ rfl _ _ _ hB.out Tryz.underlying25 rfl G.1 ?_)
      refine (A1.out _ HT.out).mono ?_
      rintro e w1 ⟨rfl, h1⟩
      replace hB := hide (hB.out.below h1)
      replace HT := hide (HT.out.below h1)
      replace hb := hide (bel_next hb.out h1)
      clear h1
      have hA := hide (Ro.new w1 #[.bool true, .int .i64 dof, .bool true, .string dst] 29)
      replace hB := hide (hB.out.alloc (.cells #[.bool true, .int .i64 dof, .bool true, .string dst] 29))
      replace HT := hide (HT.out.below (bl_new w1 (.cells #[.bool true, .int .i64 dof, .bool true, .string dst] 29)))
      replace hb := hide (bl_alloc hb.out (.cells #[.bool true, .int .i64 dof, .bool true, .string dst] 29))
      go_upto_region 4 with fail
      generalize w1.heap.size = gA at *
      generalize w1.alloc (.cells #[.bool true, .int .i64 dof, .bool true, .string dst] 29) = w2 at *
      obtain ⟨x0, _⟩ := ro_cf hB.out 0 _ e0
      obtain ⟨x1, _⟩ := ro_cf hB.out 1 _ e1
      obtain ⟨x2, _⟩ := ro_cf hB.out 2 _ e2
      obtain ⟨x3, _⟩ := ro_cf hB.out 3 _ e3
      obtain ⟨x4, _⟩ := ro_cf hB.out 4 _ e4
      have hS := hide (Ro.new w2 #[.bool true, .int .i64 so, .bool false, .string std] 29)
      replace hB := hide (hB.out.alloc (.cells #[.bool true, .int .i64 so, .bool false, .string std] 29))
      replace hA := hide (hA.out.alloc (.cells #[.bool true, .int .i64 so, .bool false, .string std] 29))
      replace HT := hide (HT.out.below (bl_new w2 (.cells #[.bool true, .int .i64 so, .bool false, .string std] 29)))
      replace hb := hide (bl_alloc hb.out (.cells #[.bool true, .int .i64 so, .bool false, .string std] 29))
      go_upto_region 5 with fail
      generalize w2.heap.size = ghS at *
      generalize w2.alloc (.cells #[.bool true, .int .i64 so, .bool false, .string std] 29) = w3 at *
      clear x0 x1 x2 x3 x4
      obtain ⟨x0, _⟩ := ro_cf hB.out 0 _ e0
      obtain ⟨x1, _⟩ := ro_cf hB.out 1 _ e1
      obtain ⟨x2, _⟩ := ro_cf hB.out 2 _ e2
      obtain ⟨x3, _⟩ := ro_cf hB.out 3 _ e3
      obtain ⟨x4, _⟩ := ro_cf hB.out 4 _ e4
      have hD := hide (Ro.new w3 #[.bool true, .int .i64 dof, .bool true, .string dst] 29)
      replace hB := hide (hB.out.alloc (.cells #[.bool true, .int .i64 dof, .bool true, .string dst] 29))
      replace hA := hide (hA.out.alloc (.cells #[.bool true, .int .i64 dof, .bool true, .string dst] 29))
      replace hS := hide (hS.out.alloc (.cells #[.bool true, .int .i64 dof, .bool true, .string dst] 29))
      replace HT := hide (HT.out.below (bl_new w3 (.cells #[.bool true, .int .i64 dof, .bool true, .string dst] 29)))
      replace hb := hide (bl_alloc hb.out (.cells #[.bool true, .int .i64 dof, .bool true, .string dst] 29))
      go_upto_region 6 with fail
      generalize w3.heap.size = ghD at *
      generalize w3.alloc (.cells #[.bool true, .int .i64 dof, .bool true, .string dst] 29) = w4 at *
      clear x0 x1 x2 x3 x4
      obtain ⟨x0, _⟩ := ro_cf hB.out 0 _ e0
      obtain ⟨x1, _⟩ := ro_cf hB.out 1 _ e1
      obtain ⟨x2, _⟩ := ro_cf hB.out 2 _ e2
      obtain ⟨x3, _⟩ := ro_cf hB.out 3 _ e3
      obtain ⟨x4, _⟩ := ro_cf hB.out 4 _ e4
      obtain ⟨hS0, _⟩ := ro_cf hS.out 0 (.bool true) rfl
      obtain ⟨hS1, _⟩ := ro_cf hS.out 1 (.int .i64 so) rfl
      obtain ⟨hS2, _⟩ := ro_cf hS.out 2 (.bool false) rfl
      obtain ⟨hS3, _⟩ := ro_cf hS.out 3 (.string std) rfl
      obtain ⟨hD0, _⟩ := ro_cf hD.out 0 (.bool true) rfl
      obtain ⟨hD1, _⟩ := ro_cf hD.out 1 (.int .i64 dof) rfl
      obtain ⟨hD2, _⟩ := ro_cf hD.out 2 (.bool true) rfl
      obtain ⟨hD3, _⟩ := ro_cf hD.out 3 (.string dst) rfl
      obtain ⟨hA0, _⟩ := ro_cf hA.out 0 (.bool true) rfl
      obtain ⟨hA1, _⟩ := ro_cf hA.out 1 (.int .i64 dof) rfl
      obtain ⟨hA2, _⟩ := ro_cf hA.out 2 (.bool true) rfl
      obtain ⟨hA3, _⟩ := ro_cf hA.out 3 (.string dst) rfl
      go_wp2_with fail
      go_ret
      exact ⟨rfl, hb.out⟩
    · have d1 : decide (u ≤ t) = false := by simp; omega
      have d2 : IntKind.i64.wrap (u - t) = u - t := by rw [IntKind.wrap_i64]; omega
      have d3 : decide (34560000 < u - t) = true := by simpa using k2
      go_enter Tryz.func3, Tryz.ntmps3
      go_wp2_with fail
      refine (Aw.out _ HT.out).mono ?_
      rintro e w1 ⟨rfl, h1⟩
      replace hB := hide (hB.out.below h1)
      replace HT := hide (HT.out.below h1)
      replace hb := hide (bel_next hb.out h1)
      clear h1
      go_wp2_with (refine load_row_g (by rfl) 25 _ rfl _ rfl _ _ _ hB.out Tryz.underlying25 rfl G.1 ?_)
      refine (V.out _).mono ?_
      rintro e w1 ⟨rfl, h1⟩
      replace hB := hide (hB.out.below h1)
      replace HT := hide (HT.out.below h1)
      replace hb := hide (bel_next hb.out h1)
      clear h1
      go_wp2_with (refine load_row_g (by rfl) 25 _ rfl _ rfl _ _ _ hB.out Tryz.underlying25 rfl G.1 ?_)
      refine (A1.out _ HT.out).mono ?_
      rintro e w1 ⟨rfl, h1⟩
      replace hB := hide (hB.out.below h1)
      replace HT := hide (HT.out.below h1)
      replace hb := hide (bel_next hb.out h1)
      clear h1
      have hA := hide (Ro.new w1 #[.bool true, .int .i64 dof, .bool true, .string dst] 29)
      replace hB := hide (hB.out.alloc (.cells #[.bool true, .int .i64 dof, .bool true, .string dst] 29))
      replace HT := hide (HT.out.below (bl_new w1 (.cells #[.bool true, .int .i64 dof, .bool true, .string dst] 29)))
      replace hb := hide (bl_alloc hb.out (.cells #[.bool true, .int .i64 dof, .bool true, .string dst] 29))
      go_upto_region 4 with fail
      generalize w1.heap.size = gA at *
      generalize w1.alloc (.cells #[.bool true, .int .i64 dof, .bool true, .string dst] 29) = w2 at *
      obtain ⟨x0, _⟩ := ro_cf hB.out 0 _ e0
      obtain ⟨x1, _⟩ := ro_cf hB.out 1 _ e1
      obtain ⟨x2, _⟩ := ro_cf hB.out 2 _ e2
      obtain ⟨x3, _⟩ := ro_cf hB.out 3 _ e3
      obtain ⟨x4, _⟩ := ro_cf hB.out 4 _ e4
      have hS := hide (Ro.new w2 #[.bool true, .int .i64 so, .bool false, .string std] 29)
      replace hB := hide (hB.out.alloc (.cells #[.bool true, .int .i64 so, .bool false, .string std] 29))
      replace hA := hide (hA.out.alloc (.cells #[.bool true, .int .i64 so, .bool false, .string std] 29))
      replace HT := hide (HT.out.below (bl_new w2 (.cells #[.bool true, .int .i64 so, .bool false, .string std] 29)))
      replace hb := hide (bl_alloc hb.out (.cells #[.bool true, .int .i64 so, .bool false, .string std] 29))
      go_upto_region 5 with fail
      generalize w2.heap.size = ghS at *
      generalize w2.alloc (.cells #[.bool true, .int .i64 so, .bool false, .string std] 29) = w3 at *
      clear x0 x1 x2 x3 x4
      obtain ⟨x0, _⟩ := ro_cf hB.out 0 _ e0
      obtain ⟨x1, _⟩ := ro_cf hB.out 1 _ e1
      obtain ⟨x2, _⟩ := ro_cf hB.out 2 _ e2
      obtain ⟨x3, _⟩ := ro_cf hB.out 3 _ e3
      obtain ⟨x4, _⟩ := ro_cf hB.out 4 _ e4
      have hD := hide (Ro.new w3 #[.bool true, .int .i64 dof, .bool true, .string dst] 29)
      replace hB := hide (hB.out.alloc (.cells #[.bool true, .int .i64 dof, .bool true, .string dst] 29))
      replace hA := hide (hA.out.alloc (.cells #[.bool true, .int .i64 dof, .bool true, .string dst] 29))
      replace hS := hide (hS.out.alloc (.cells #[.bool true, .int .i64 dof, .bool true, .string dst] 29))
      replace HT := hide (HT.out.below (bl_new w3 (.cells #[.bool true, .int .i64 dof, .bool true, .string dst] 29)))
      replace hb := hide (bl_alloc hb.out (.cells #[.bool true, .int .i64 dof, .bool true, .string dst] 29))
      go_upto_region 6 with fail
      generalize w3.heap.size = ghD at *
      generalize w3.alloc (.cells #[.bool true, .int .i64 dof, .bool true, .string dst] 29) = w4 at *
      clear x0 x1 x2 x3 x4
      obtain ⟨x0, _⟩ := ro_cf hB.out 0 _ e0
      obtain ⟨x1, _⟩ := ro_cf hB.out 1 _ e1
      obtain ⟨x2, _⟩ := ro_cf hB.out 2 _ e2
      obtain ⟨x3, _⟩ := ro_cf hB.out 3 _ e3
      obtain ⟨x4, _⟩ := ro_cf hB.out 4 _ e4
      obtain ⟨hS0, _⟩ := ro_cf hS.out 0 (.bool true) rfl
      obtain ⟨hS1, _⟩ := ro_cf hS.out 1 (.int .i64 so) rfl
      obtain ⟨hS2, _⟩ := ro_cf hS.out 2 (.bool false) rfl
      obtain ⟨hS3, _⟩ := ro_cf hS.out 3 (.string std) rfl
      obtain ⟨hD0, _⟩ := ro_cf hD.out 0 (.bool true) rfl
      obtain ⟨hD1, _⟩ := ro_cf hD.out 1 (.int .i64 dof) rfl
      obtain ⟨hD2, _⟩ := ro_cf hD.out 2 (.bool true) rfl
      obtain ⟨hD3, _⟩ := ro_cf hD.out 3 (.string dst) rfl
      obtain ⟨hA0, _⟩ := ro_cf hA.out 0 (.bool true) rfl
      obtain ⟨hA1, _⟩ := ro_cf hA.out 1 (.int .i64 dof) rfl
      obtain ⟨hA2, _⟩ := ro_cf hA.out 2 (.bool true) rfl
      obtain ⟨hA3, _⟩ := ro_cf hA.out 3 (.string dst) rfl
      go_wp2_with fail
      go_ret
      exact ⟨rfl, hb.out⟩
    · have d1 : decide (u ≤ t) = false := by simp; omega
      obtain ⟨z, hz⟩ : ∃ z, IntKind.i64.wrap (u - t) = z := ⟨_, rfl⟩
      have hz' : z = u - t - 18446744073709551616 := by rw [← hz, IntKind.wrap_i64]; omega
      have d3 : decide (34560000 < z) = false := by simp; omega
      have d4 : decide (z < 0) = true := by simp; omega
      clear hz'
      go_enter Tryz.func3, Tryz.ntmps3
      go_wp2_with fail
      refine (Aw.out _ HT.out).mono ?_
      rintro e w1 ⟨rfl, h1⟩
      replace hB := hide (hB.out.below h1)
      replace HT := hide (HT.out.below h1)
      replace hb := hide (bel_next hb.out h1)
      clear h1
      go_wp2_with (refine load_row_g (by rfl) 25 _ rfl _ rfl _ _ _ hB.out Tryz.underlying25 rfl G.1 ?_)
      refine (V.out _).mono ?_
      rintro e w1 ⟨rfl, h1⟩
      replace hB := hide (hB.out.below h1)
      replace HT := hide (HT.out.below h1)
      replace hb := hide (bel_next hb.out h1)
      clear h1
      go_wp2_with (refine load_row_g (by rfl) 25 _ rfl _ rfl _ _ _ hB.out Tryz.underlying25 rfl G.1 ?_)
      refine (A1.out _ HT.out).mono ?_
      rintro e w1 ⟨rfl, h1⟩
      replace hB := hide (hB.out.below h1)
      replace HT := hide (HT.out.below h1)
      replace hb := hide (bel_next hb.out h1)
      clear h1
      have hA := hide (Ro.new w1 #[.bool true, .int .i64 dof, .bool true, .string dst] 29)
      replace hB := hide (hB.out.alloc (.cells #[.bool true, .int .i64 dof, .bool true, .string dst] 29))
      replace HT := hide (HT.out.below (bl_new w1 (.cells #[.bool true, .int .i64 dof, .bool true, .string dst] 29)))
      replace hb := hide (bl_alloc hb.out (.cells #[.bool true, .int .i64 dof, .bool true, .string dst] 29))
      go_upto_region 4 with fail
      generalize w1.heap.size = gA at *
      generalize w1.alloc (.cells #[.bool true, .int .i64 dof, .bool true, .string dst] 29) = w2 at *
      obtain ⟨x0, _⟩ := ro_cf hB.out 0 _ e0
      obtain ⟨x1, _⟩ := ro_cf hB.out 1 _ e1
      obtain ⟨x2, _⟩ := ro_cf hB.out 2 _ e2
      obtain ⟨x3, _⟩ := ro_cf hB.out 3 _ e3
      obtain ⟨x4, _⟩ := ro_cf hB.out 4 _ e4
      have hS := hide (Ro.new w2 #[.bool true, .int .i64 so, .bool false, .string std] 29)
      replace hB := hide (hB.out.alloc (.cells #[.bool true, .int .i64 so, .bool false, .string std] 29))
      replace hA := hide (hA.out.alloc (.cells #[.bool true, .int .i64 so, .bool false, .string std] 29))
      replace HT := hide (HT.out.below (bl_new w2 (.cells #[.bool true, .int .i64 so, .bool false, .string std] 29)))
      replace hb := hide (bl_alloc hb.out (.cells #[.bool true, .int .i64 so, .bool false, .string std] 29))
      go_upto_region 5 with fail
      generalize w2.heap.size = ghS at *
      generalize w2.alloc (.cells #[.bool true, .int .i64 so, .bool false, .string std] 29) = w3 at *
      clear x0 x1 x2 x3 x4
      obtain ⟨x0, _⟩ := ro_cf hB.out 0 _ e0
      obtain ⟨x1, _⟩ := ro_cf hB.out 1 _ e1
      obtain ⟨x2, _⟩ := ro_cf hB.out 2 _ e2
      obtain ⟨x3, _⟩ := ro_cf hB.out 3 _ e3
      obtain ⟨x4, _⟩ := ro_cf hB.out 4 _ e4
      have hD := hide (Ro.new w3 #[.bool true, .int .i64 dof, .bool true, .string dst] 29)
      replace hB := hide (hB.out.alloc (.cells #[.bool true, .int .i64 dof, .bool true, .string dst] 29))
      replace hA := hide (hA.out.alloc (.cells #[.bool true, .int .i64 dof, .bool true, .string dst] 29))
      replace hS := hide (hS.out.alloc (.cells #[.bool true, .int .i64 dof, .bool true, .string dst] 29))
      replace HT := hide (HT.out.below (bl_new w3 (.cells #[.bool true, .int .i64 dof, .bool true, .string dst] 29)))
      replace hb := hide (bl_alloc hb.out (.cells #[.bool true, .int .i64 dof, .bool true, .string dst] 29))
      go_upto_region 6 with fail
      generalize w3.heap.size = ghD at *
      generalize w3.alloc (.cells #[.bool true, .int .i64 dof, .bool true, .string dst] 29) = w4 at *
      clear x0 x1 x2 x3 x4
      obtain ⟨x0, _⟩ := ro_cf hB.out 0 _ e0
      obtain ⟨x1, _⟩ := ro_cf hB.out 1 _ e1
      obtain ⟨x2, _⟩ := ro_cf hB.out 2 _ e2
      obtain ⟨x3, _⟩ := ro_cf hB.out 3 _ e3
      obtain ⟨x4, _⟩ := ro_cf hB.out 4 _ e4
      obtain ⟨hS0, _⟩ := ro_cf hS.out 0 (.bool true) rfl
      obtain ⟨hS1, _⟩ := ro_cf hS.out 1 (.int .i64 so) rfl
      obtain ⟨hS2, _⟩ := ro_cf hS.out 2 (.bool false) rfl
      obtain ⟨hS3, _⟩ := ro_cf hS.out 3 (.string std) rfl
      obtain ⟨hD0, _⟩ := ro_cf hD.out 0 (.bool true) rfl
      obtain ⟨hD1, _⟩ := ro_cf hD.out 1 (.int .i64 dof) rfl
      obtain ⟨hD2, _⟩ := ro_cf hD.out 2 (.bool true) rfl
      obtain ⟨hD3, _⟩ := ro_cf hD.out 3 (.string dst) rfl
      obtain ⟨hA0, _⟩ := ro_cf hA.out 0 (.bool true) rfl
      obtain ⟨hA1, _⟩ := ro_cf hA.out 1 (.int .i64 dof) rfl
      obtain ⟨hA2, _⟩ := ro_cf hA.out 2 (.bool true) rfl
      obtain ⟨hA3, _⟩ := ro_cf hA.out 3 (.string dst) rfl
      go_wp2_with fail
      go_ret
      exact ⟨rfl, hb.out⟩
    · have d1 : decide (u ≤ t) = false := by simp; omega
      have d2 : IntKind.i64.wrap (u - t) = u - t := by rw [IntKind.wrap_i64]; omega
      have d3 : decide (34560000 < u - t) = false := by simp; omega
      have d4 : decide (u - t < 0) = false := by simp; omega
      go_enter Tryz.func3, Tryz.ntmps3
      go_wp2_with fail
      refine (Aw.out _ HT.out).mono ?_
      rintro e w1 ⟨rfl, h1⟩
      replace hB := hide (hB.out.below h1)
      replace HT := hide (HT.out.below h1)
      replace hb := hide (bel_next hb.out h1)
      clear h1
      go_wp2_with (refine load_row_g (by rfl) 25 _ rfl _ rfl _ _ _ hB.out Tryz.underlying25 rfl G.1 ?_)
      refine (V.out _).mono ?_
      rintro e w1 ⟨rfl, h1⟩
      replace hB := hide (hB.out.below h1)
      replace HT := hide (HT.out.below h1)
      replace hb := hide (bel_next hb.out h1)
      clear h1
      go_wp2_with (refine load_row_g (by rfl) 25 _ rfl _ rfl _ _ _ hB.out Tryz.underlying25 rfl G.1 ?_)
      refine (A1.out _ HT.out).mono ?_
      rintro e w1 ⟨rfl, h1⟩
      replace hB := hide (hB.out.below h1)
      replace HT := hide (HT.out.below h1)
      replace hb := hide (bel_next hb.out h1)
      clear h1
      have hA := hide (Ro.new w1 #[.bool true, .int .i64 dof, .bool true, .string dst] 29)
      replace hB := hide (hB.out.alloc (.cells #[.bool true, .int .i64 dof, .bool true, .string dst] 29))
      replace HT := hide (HT.out.below (bl_new w1 (.cells #[.bool true, .int .i64 dof, .bool true, .string dst] 29)))
      replace hb := hide (bl_alloc hb.out (.cells #[.bool true, .int .i64 dof, .bool true, .string dst] 29))
      go_upto_region 4 with fail
      generalize w1.heap.size = gA at *
      generalize w1.alloc (.cells #[.bool true, .int .i64 dof, .bool true, .string dst] 29) = w2 at *
      obtain ⟨x0, _⟩ := ro_cf hB.out 0 _ e0
      obtain ⟨x1, _⟩ := ro_cf hB.out 1 _ e1
      obtain ⟨x2, _⟩ := ro_cf hB.out 2 _ e2
      obtain ⟨x3, _⟩ := ro_cf hB.out 3 _ e3
      obtain ⟨x4, _⟩ := ro_cf hB.out 4 _ e4
      have hS := hide (Ro.new w2 #[.bool true, .int .i64 so, .bool false, .string std] 29)
      replace hB := hide (hB.out.alloc (.cells #[.bool true, .int .i64 so, .bool false, .string std] 29))
      replace hA := hide (hA.out.alloc (.cells #[.bool true, .int .i64 so, .bool false, .string std] 29))
      replace HT := hide (HT.out.below (bl_new w2 (.cells #[.bool true, .int .i64 so, .bool false, .string std] 29)))
      replace hb := hide (bl_alloc hb.out (.cells #[.bool true, .int .i64 so, .bool false, .string std] 29))
      go_upto_region 5 with fail
      generalize w2.heap.size = ghS at *
      generalize w2.alloc (.cells #[.bool true, .int .i64 so, .bool false, .string std] 29) = w3 at *
      clear x0 x1 x2 x3 x4
      obtain ⟨x0, _⟩ := ro_cf hB.out 0 _ e0
      obtain ⟨x1, _⟩ := ro_cf hB.out 1 _ e1
      obtain ⟨x2, _⟩ := ro_cf hB.out 2 _ e2
      obtain ⟨x3, _⟩ := ro_cf hB.out 3 _ e3
      obtain ⟨x4, _⟩ := ro_cf hB.out 4 _ e4
      have hD := hide (Ro.new w3 #[.bool true, .int .i64 dof, .bool true, .string dst] 29)
      replace hB := hide (hB.out.alloc (.cells #[.bool true, .int .i64 dof, .bool true, .string dst] 29))
      replace hA := hide (hA.out.alloc (.cells #[.bool true, .int .i64 dof, .bool true, .string dst] 29))
      replace hS := hide (hS.out.alloc (.cells #[.bool true, .int .i64 dof, .bool true, .string dst] 29))
      replace HT := hide (HT.out.below (bl_new w3 (.cells #[.bool true, .int .i64 dof, .bool true, .string dst] 29)))
      replace hb := hide (bl_alloc hb.out (.cells #[.bool true, .int .i64 dof, .bool true, .string dst] 29))
      go_upto_region 6 with fail
      generalize w3.heap.size = ghD at *
      generalize w3.alloc (.cells #[.bool true, .int .i64 dof, .bool true, .string dst] 29) = w4 at *
      clear x0 x1 x2 x3 x4
      obtain ⟨x0, _⟩ := ro_cf hB.out 0 _ e0
      obtain ⟨x1, _⟩ := ro_cf hB.out 1 _ e1
      obtain ⟨x2, _⟩ := ro_cf hB.out 2 _ e2
      obtain ⟨x3, _⟩ := ro_cf hB.out 3 _ e3
      obtain ⟨x4, _⟩ := ro_cf hB.out 4 _ e4
      obtain ⟨hS0, _⟩ := ro_cf hS.out 0 (.bool true) rfl
      obtain ⟨hS1, _⟩ := ro_cf hS.out 1 (.int .i64 so) rfl
      obtain ⟨hS2, _⟩ := ro_cf hS.out 2 (.bool false) rfl
      obtain ⟨hS3, _⟩ := ro_cf hS.out 3 (.string std) rfl
      obtain ⟨hD0, _⟩ := ro_cf hD.out 0 (.bool true) rfl
      obtain ⟨hD1, _⟩ := ro_cf hD.out 1 (.int .i64 dof) rfl
      obtain ⟨hD2, _⟩ := ro_cf hD.out 2 (.bool true) rfl
      obtain ⟨hD3, _⟩ := ro_cf hD.out 3 (.string dst) rfl
      obtain ⟨hA0, _⟩ := ro_cf hA.out 0 (.bool true) rfl
      obtain ⟨hA1, _⟩ := ro_cf hA.out 1 (.int .i64 dof) rfl
      obtain ⟨hA2, _⟩ := ro_cf hA.out 2 (.bool true) rfl
      obtain ⟨hA3, _⟩ := ro_cf hA.out 3 (.string dst) rfl
      go_upto_region 10 with fail
      go_wp2_with (refine load_row_g (by rfl) 25 _ rfl _ rfl _ _ _ hB.out Tryz.underlying25 rfl G.1 ?_)
      refine (Cd.out _).mono ?_
      rintro e w5 ⟨A, n, c, xs, Y, rfl, hO, h1, hn, hY, _, q⟩
      clear hS0 hS1 hS2 hS3 hD0 hD1 hD2 hD3 hA0 hA1 hA2 hA3 x0 x1 x2 x3 x4
      replace hB := hide (hB.out.below h1)
      replace hA := hide (hA.out.below h1)
      replace HT := hide (HT.out.below h1)
      replace hb := hide (bel_next hb.out h1)
      clear h1 qs qd d1 d2 d3 d4
      have hq := hide (q (by first | rfl | trivial))
      replace hY := hide hY
      have hlen : xs.length = n := by have := hO.len; simpa using this
      have hRd := hide (show ∀ i (hi : i < n), ∃ g x, A = some ⟨g, 0, none⟩ ∧ xs[i]? = some x ∧ w5.cell? ⟨g, i, none⟩ = some (.int .i64 x) from fun i hi => by
        obtain ⟨g, rfl, _, _⟩ := hO.form (by omega)
        have hx : xs[i]? = some (xs[i]'(by omega)) := List.getElem?_eq_getElem (by omega)
        exact ⟨g, _, rfl, hx, by rw [hO.cell i hi, List.getElem?_map, hx]; rfl⟩)
      replace hlen := hide hlen
      clear hO q
      go_wp2_with fail
      go_loop [11] (fun iv => ∃ i : Nat, iv = .int .i64 i ∧ i ≤ n ∧ ∀ j x, j < i → xs[j]? = some x → u < x) (fun iv => n + 1 - (intOf iv).toNat)
      case atStart => exact ⟨0, rfl, by omega, fun j x hj => by omega⟩
      case round =>
        obtain ⟨i, rfl, hi, hall⟩ := hrel
        replace hall := hide hall
        by_cases hlt : i < n
        · obtain ⟨g, x, rfl, hx, hcell⟩ := hRd.out i hlt
          replace hx := hide hx
          have dl : decide ((i : Int) < (n : Int)) = true := by simpa using hlt
          by_cases hxu : x ≤ u
          · have du : decide (x ≤ u) = true := by simpa using hxu
            go_wp2_with fail
            go_ret
            exact ⟨rfl, hb.out⟩
          · have du : decide (x ≤ u) = false := by simpa using hxu
            go_wp2_with fail
            go_round
            case rel => exact ⟨i + 1, by go_num, by omega, fun j y hj hy => by
              by_cases hji : j = i
              · subst hji
                rw [hx.out] at hy
                cases hy
                omega
              · exact hall.out j y (by omega) hy⟩
            case measure => simp [intOf]; omega
        · obtain rfl : i = n := by omega
          have hst := stay (t := t) (u := u) (k := 4) Rv.out rfl hY.out.1 hY.out.2 (by omega) (by omega) (by omega) (by decide) hq.out (fun c hc => by
            obtain ⟨j, hj, rfl⟩ := List.getElem_of_mem hc
            exact hall.out j _ (by have := hlen.out; omega) (List.getElem?_eq_getElem hj))
          have A3 := hide (fun w hT => A2.out w hT hst)
          clear hst hall hRd hq
          have dl : decide ((i : Int) < (i : Int)) = false := by simp
          go_upto_region 16 with fail
          refine wp_region_held_drew (S := fun w' => Hid (Ro w' w.heap.size (cs) 25) ∧ Hid (Ro w' gA (#[.bool true, .int .i64 dof, .bool true, .string dst]) 29) ∧ Hid (Tb w') ∧ Hid (Below w.heap.size w w')) (by kernel_rfl) (⟨hB, hA, hide (HT.out.below (bl_drew (bl_refl _))), hide (bl_drew hb.out)⟩) (fun hHeld => ?_)
          refine wpAnyH_takeD (i := 0) (d := some 81) rfl rfl (by kernel_rfl) (by kernel_rfl) (by kernel_rfl) (fun _ _ _ h => h) (yieldsIf_load_row (by rfl) 25 _ rfl w.heap.size rfl 25 cs _ (fun w hw => hw.1.out) Tryz.underlying25 rfl G.1) (by assumption) ?_
          try simp only [Act.put, List.setIfInBounds_toArray, List.set_cons_zero, List.set_cons_succ]
          refine wpAnyH_takeD (i := 1) (d := some 82) (v := ?_) rfl rfl (by kernel_rfl) (by kernel_rfl) (by kernel_rfl) (fun _ _ _ h => h) (Or.inl ⟨by rfl, ?_⟩) (by assumption) ?_
          rotate_left
          · ((intro w hSw; go_simp) <;> with_reducible rfl)
          try simp only [Act.put, List.setIfInBounds_toArray, List.set_cons_zero, List.set_cons_succ]
          refine wpAnyH_takeD (i := 3) (d := some 84) (v := ?_) rfl rfl (by kernel_rfl) (by kernel_rfl) (by kernel_rfl) (fun _ _ _ h => h) (Or.inl ⟨by rfl, ?_⟩) (by assumption) ?_
          rotate_left
          · ((intro w hSw; obtain ⟨c0, _⟩ := ro_cf hSw.2.1.out 0 (.bool true) rfl; obtain ⟨c1, _⟩ := ro_cf hSw.2.1.out 1 (.int .i64 dof) rfl; obtain ⟨c2, _⟩ := ro_cf hSw.2.1.out 2 (.bool true) rfl; obtain ⟨c3, _⟩ := ro_cf hSw.2.1.out 3 (.string dst) rfl; go_simp) <;> with_reducible rfl)
          try simp only [Act.put, List.setIfInBounds_toArray, List.set_cons_zero, List.set_cons_succ]
          refine wpAnyH_ready (rs := [2]) (by kernel_rfl) (by simp) ?_
          refine AllReadyH.cons rfl (fun K hK => ?_) AllReadyH.nil
          go_simp
          refine (A3.out _ hHeld.2.2.1.out).mono ?_
          rintro e w6 ⟨rfl, h1'⟩
          refine hK.out _ _ (⟨hide (hHeld.1.out.below h1'), hide (hHeld.2.1.out.below h1'), hide (hHeld.2.2.1.out.below h1'), hide (bel_next hHeld.2.2.2.out h1')⟩) (fun hHeld => ?_)
          clear hK K h1'
          try simp only [Act.put, List.setIfInBounds_toArray, List.set_cons_zero, List.set_cons_succ]
          refine wpAnyH_takeD (i := 4) (d := some 85) (v := ?_) rfl rfl (by kernel_rfl) (by kernel_rfl) (by kernel_rfl) (fun _ _ _ h => h) (Or.inl ⟨by rfl, ?_⟩) (by assumption) ?_
          rotate_left
          · ((intro w hSw; go_simp) <;> with_reducible rfl)
          try simp only [Act.put, List.setIfInBounds_toArray, List.set_cons_zero, List.set_cons_succ]
          refine wpAnyH_takeD (i := 5) (d := some 6) (v := ?_) rfl rfl (by kernel_rfl) (by kernel_rfl) (by kernel_rfl) (fun _ _ _ h => h) (Or.inl ⟨by rfl, ?_⟩) (by assumption) ?_
          rotate_left
          · ((intro w hSw; go_simp) <;> with_reducible rfl)
          try simp only [Act.put, List.setIfInBounds_toArray, List.set_cons_zero, List.set_cons_succ]
          refine wpAnyH_done (by kernel_rfl) ?_ _
          replace hb := hide hHeld.2.2.2.out
          go_wp2_with fail
          go_ret
          exact ⟨rfl, hb.out⟩
theorem matchesChanges (std : ByteArray) (so : Int) (hd : Bool) (dst : ByteArray) (dof K1 D1 M1 W1 V1 T1 K2 D2 M2 W2 V2 T2 : Int) (t u : Int) (w : World) (hT : Tb w) (hs : std.size ≤ maxLen) (wso : (Lit.int .i64 so).wf = true) (ht : dst.size ≤ maxLen) (wdof : (Lit.int .i64 dof).wf = true) (wK1 : (Lit.int .i64 K1).wf = true) (wD1 : (Lit.int .i64 D1).wf = true) (wM1 : (Lit.int .i64 M1).wf = true) (wW1 : (Lit.int .i64 W1).wf = true) (wV1 : (Lit.int .i64 V1).wf = true) (wT1 : (Lit.int .i64 T1).wf = true) (wK2 : (Lit.int .i64 K2).wf = true) (wD2 : (Lit.int .i64 D2).wf = true) (wM2 : (Lit.int .i64 M2).wf = true) (wW2 : (Lit.int .i64 W2).wf = true) (wV2 : (Lit.int .i64 V2).wf = true) (wT2 : (Lit.int .i64 T2).wf = true) (wt : (Lit.int .i64 t).wf = true) (wu : (Lit.int .i64 u).wf = true) : Calls Tryz.prog 3 #[.agg #[.string std, .int .i64 so, .bool hd, .string dst, .int .i64 dof, .int .i64 K1, .int .i64 D1, .int .i64 M1, .int .i64 W1, .int .i64 V1, .int .i64 T1, .int .i64 K2, .int .i64 D2, .int .i64 M2, .int .i64 W2, .int .i64 V2, .int .i64 T2], .int .i64 t, .int .i64 u] w fun e w' => e = .returned (.bool true) ∧ Below w.heap.size w w' := mcC std so hd dst dof (K1, D1, M1, W1, V1, T1) (K2, D2, M2, W2, V2, T2) t u (wf_i64 wt).1 (wf_i64 wt).2 (wf_i64 wu).1 (wf_i64 wu).2 w hT hs ht
end l11_
end Go.Proofs.YtdhogpcoegfopaaGreatDoor
