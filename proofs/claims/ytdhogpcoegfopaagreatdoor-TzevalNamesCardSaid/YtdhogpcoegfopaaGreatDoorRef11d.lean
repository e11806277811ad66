/-
  CONTRACTS of zoneinforef11 (the reference of layer 11): At. Conditions: a rule's offsets and days valid where it has daylight saving time; a time within 64 bits.
-/
import Derived.Test.YtdhogpcoegfopaaGreatDoorRef11c
namespace Go.Proofs.YtdhogpcoegfopaaGreatDoor
open Go.ChangeShapes Go.WideShapes Go.ChangeAt Go.RowKit
set_option linter.unusedVariables false
/-- the result of a state. -/
def vres (b : Bool) (std : ByteArray) (so : Int) (dst : ByteArray) (dof : Int) : Value := .agg #[.bool true, .int .i64 (if b then dof else so), .bool b, .string (if b then dst else std)]
/-- what a rule asks of its days and offsets. -/
def RvOk (hd : Bool) (so dof : Int) (st en : RD) : Prop := hd = true → rdOk st ∧ rdOk en ∧ offOk so ∧ offOk dof
theorem RvOk.of {r : PR} (h : prOk r) : RvOk r.2.2.1 r.2.1 r.2.2.2.2.1 r.2.2.2.2.2.1 r.2.2.2.2.2.2 := fun hd => by
  obtain ⟨h1, h2, h3⟩ := h
  rw [if_pos hd] at h3
  exact ⟨h3.2.2.1, h3.2.2.2, h2, h3.2.1⟩
/-- a 64-bit time's year. -/
theorem year64 (t : Int) (h0 : -9223372036854775808 ≤ t) (h1 : t < 9223372036854775808) : ∃ Y M D, IsDate (t / 86400) Y M D ∧ ystart Y * 86400 ≤ t ∧ t < ystart (Y + 1) * 86400 ∧ -500000000000 ≤ Y ∧ Y ≤ 500000000000 := by
  obtain ⟨Y, M, D, h⟩ := IsDate.ex (t / 86400)
  have := h.year
  refine ⟨Y, M, D, h, by omega, by omega, ?_, ?_⟩ <;> (have := h.year; unfold ystart at this; omega)
theorem bl_set4' {w0 w : World} {a b c d : Value} (h : Below w0.heap.size w0 w) {g : Nat} (hg : w0.heap.size ≤ g) : Below w0.heap.size w0 ((((w.setCell ⟨g, 0, none⟩ a).setCell ⟨g, 1, none⟩ b).setCell ⟨g, 2, none⟩ c).setCell ⟨g, 3, none⟩ d) :=
  bl_set (bl_set (bl_set (bl_set h hg _) hg _) hg _) hg _
namespace r11_
theorem On (std : ByteArray) (so : Int) (hd : Bool) (dst : ByteArray) (dof : Int) (st en : RD) (t Y : Int) (b : Bool) (w : World) (hv : RvOk hd so dof st en) (t0 : ystart Y * 86400 ≤ t) (t1 : t < ystart (Y + 1) * 86400) (y0 : -500000000000 ≤ Y) (y1 : Y ≤ 500000000000) (hb : b = true ↔ ruleS hd st en so dof t) :
    Calls Tryz.prog 32 #[.agg (crule std so hd dst dof st en), vin t, .int .i64 Y] w fun e w' => e = .returned (.bool b) ∧ Below w.heap.size w w' := by
  cases hd
  · have : b = false := by
      cases b
      · rfl
      · exact absurd (hb.1 rfl) ruleS_no
    subst this
    exact On_no std so dst dof st en t Y w
  · obtain ⟨v1, v2, v3, v4⟩ := hv rfl
    refine On_yes std so dst dof st en t Y b w v1 v2 v3 v4 t0 t1 y0 y1 ?_
    rw [hb]
    exact ⟨fun h => h.2, fun h => ⟨rfl, h⟩⟩
set_option maxRecDepth 100000 in
set_option maxHeartbeats 8000000 in
theorem At (std : ByteArray) (so : Int) (hd : Bool) (dst : ByteArray) (dof : Int) (st en : RD) (t : Int) (b : Bool) (w : World) (h0 : -9223372036854775808 ≤ t) (h1 : t < 9223372036854775808) (hv : RvOk hd so dof st en) (hbn : b = true ↔ ruleS hd st en so dof t) :
    Calls Tryz.prog 13 #[.agg (crule std so hd dst dof st en), .int .i64 t] w fun e w' => e = .returned (vres b std so dst dof) ∧ Below w.heap.size w w' := by
  obtain ⟨Y, M, D, hd8, t0, t1, y0, y1⟩ := year64 t h0 h1
  have S1 := hide (fun w => r5_.Split t w h0 h1)
  have O1 := hide (fun w => r5_.Of t Y M D w h0 h1 hd8)
  have N1 := hide (fun w => On std so hd dst dof st en t Y b w hv t0 t1 y0 y1 hbn)
  unfold vof vdt at O1
  unfold vin cin at N1
  have G := gr_rule std so hd dst dof st en
  obtain ⟨cs, hcs⟩ : ∃ cs, crule std so hd dst dof st en = cs := ⟨_, rfl⟩
  have e0 : cs[0]? = some (.string std) := by rw [← hcs]; rfl
  have e1 : cs[1]? = some (.int .i64 so) := by rw [← hcs]; rfl
  have e3 : cs[3]? = some (.string dst) := by rw [← hcs]; rfl
  have e4 : cs[4]? = some (.int .i64 dof) := by rw [← hcs]; rfl
  rw [hcs] at N1 G ⊢
  clear hcs hd8 t0 t1 y0 y1 hv hbn
  have hR := hide ((Ro.new w cs 25).alloc (.cells #[.bool false, .int .i64 0, .bool false, .string ⟨#[]⟩] 29))
  have hS := hide (show Ro ((w.alloc (.cells cs 25)).alloc (.cells #[.bool false, .int .i64 0, .bool false, .string ⟨#[]⟩] 29)) (w.heap.size + 1) #[.bool false, .int .i64 0, .bool false, .string ⟨#[]⟩] 29 by have := Ro.new (w.alloc (.cells cs 25)) #[.bool false, .int .i64 0, .bool false, .string ⟨#[]⟩] 29; simpa using this)
  have hb := hide (bl_alloc (bl_new w (.cells cs 25)) (.cells #[.bool false, .int .i64 0, .bool false, .string ⟨#[]⟩] 29))
  generalize t / 86400 = d at *
  generalize t % 86400 = s at *
  generalize s / 3600 = f1 at *
  generalize s % 3600 / 60 = f2 at *
  generalize s % 60 = f3 at *
  generalize (d + 4) % 7 = f4 at *
  have fy : ∀ w, (Instr.field 54 (.agg #[.int .i64 Y, .int .i64 M, .int .i64 D, .int .i64 f1, .int .i64 f2, .int .i64 f3, .int .i64 f4]) 0).run Tryz.prog w = .ok (.int .i64 Y) w := fun _ => rfl
  go_enter Tryz.func13, Tryz.ntmps13
  go_upto_region 1 with fail
  generalize (w.alloc (.cells cs 25)).alloc (.cells #[.bool false, .int .i64 0, .bool false, .string ⟨#[]⟩] 29) = u at *
  go_wp2_with fail
  refine (S1.out _).mono ?_
  rintro e w1 ⟨rfl, rfl⟩
  go_upto_region 2 with fail
  refine wp_region_held_drew (S := fun w' => Hid (Ro w' w.heap.size (cs) 25) ∧ Hid (Ro w' (w.heap.size + 1) (#[.bool false, .int .i64 0, .bool false, .string ⟨#[]⟩]) 29) ∧ Hid (Below w.heap.size w w')) (by kernel_rfl) (⟨hR, hS, hide (bl_drew hb.out)⟩) (fun hHeld => ?_)
  refine wpAnyH_takeD (i := 1) (d := some 13) (v := ?_) rfl rfl (by kernel_rfl) (by kernel_rfl) (by kernel_rfl) (fun _ _ _ h => h) (Or.inl ⟨by rfl, ?_⟩) (by assumption) ?_
  rotate_left
  · ((intro w hSw; go_simp) <;> with_reducible rfl)
  try simp only [Act.put, List.setIfInBounds_toArray, List.set_cons_zero, List.set_cons_succ]
  refine wpAnyH_takeD (i := 2) (d := some 14) (v := ?_) rfl rfl (by kernel_rfl) (by kernel_rfl) (by kernel_rfl) (fun _ _ _ h => h) (Or.inl ⟨by rfl, ?_⟩) (by assumption) ?_
  rotate_left
  · ((intro w hSw; go_simp) <;> with_reducible rfl)
  try simp only [Act.put, List.setIfInBounds_toArray, List.set_cons_zero, List.set_cons_succ]
  refine wpAnyH_takeD (i := 3) (d := some 15) (v := ?_) rfl rfl (by kernel_rfl) (by kernel_rfl) (by kernel_rfl) (fun _ _ _ h => h) (Or.inl ⟨by rfl, ?_⟩) (by assumption) ?_
  rotate_left
  · ((intro w hSw; go_simp) <;> with_reducible rfl)
  try simp only [Act.put, List.setIfInBounds_toArray, List.set_cons_zero, List.set_cons_succ]
  refine wpAnyH_takeD (i := 4) (d := some 16) (v := ?_) rfl rfl (by kernel_rfl) (by kernel_rfl) (by kernel_rfl) (fun _ _ _ h => h) (Or.inl ⟨by rfl, ?_⟩) (by assumption) ?_
  rotate_left
  · ((intro w hSw; go_simp) <;> with_reducible rfl)
  try simp only [Act.put, List.setIfInBounds_toArray, List.set_cons_zero, List.set_cons_succ]
  refine wpAnyH_takeD (i := 0) (d := some 12) rfl rfl (by kernel_rfl) (by kernel_rfl) (by kernel_rfl) (fun _ _ _ h => h) (yieldsIf_load_row (by rfl) 25 _ rfl w.heap.size rfl 25 cs _ (fun w hw => hw.1.out) Tryz.underlying25 rfl G.1) (by assumption) ?_
  try simp only [Act.put, List.setIfInBounds_toArray, List.set_cons_zero, List.set_cons_succ]
  refine wpAnyH_ready (rs := [5]) (by kernel_rfl) (by simp) ?_
  refine AllReadyH.cons rfl (fun K hK => ?_) AllReadyH.nil
  · go_simp
    refine (O1.out _).mono ?_
    rintro e w6 ⟨rfl, h1'⟩
    refine hK.out _ _ (⟨hide (hHeld.1.out.below h1'), hide (hHeld.2.1.out.below h1'), hide (bel_next hHeld.2.2.out h1')⟩) (fun hHeld => ?_)
    clear hK K h1'
    try simp only [Act.put, List.setIfInBounds_toArray, List.set_cons_zero, List.set_cons_succ]
    refine wpAnyH_takeD (i := 6) (d := some 18) (v := ?_) rfl rfl (by kernel_rfl) (by kernel_rfl) (by kernel_rfl) (fun _ _ _ h => h) (Or.inl ⟨by rfl, ?_⟩) (by assumption) ?_
    rotate_left
    · ((intro w hSw; go_simp) <;> with_reducible rfl)
    try simp only [Act.put, List.setIfInBounds_toArray, List.set_cons_zero, List.set_cons_succ]
    refine wpAnyH_ready (rs := [7]) (by kernel_rfl) (by simp) ?_
    refine AllReadyH.cons rfl (fun K hK => ?_) AllReadyH.nil
    · go_simp
      refine (N1.out _).mono ?_
      rintro e w7 ⟨rfl, h1'⟩
      refine hK.out _ _ (⟨hide (hHeld.1.out.below h1'), hide (hHeld.2.1.out.below h1'), hide (bel_next hHeld.2.2.out h1')⟩) (fun hHeld => ?_)
      clear hK K h1'
      try simp only [Act.put, List.setIfInBounds_toArray, List.set_cons_zero, List.set_cons_succ]
      refine wpAnyH_done (by kernel_rfl) ?_ _
      obtain ⟨hR2, hS2, hb2⟩ := hHeld
      clear hR hS hb S1 O1 N1 fy
      obtain ⟨x0, _⟩ := ro_cf hR2.out 0 _ e0
      obtain ⟨x1, _⟩ := ro_cf hR2.out 1 _ e1
      obtain ⟨x3, _⟩ := ro_cf hR2.out 3 _ e3
      obtain ⟨x4, _⟩ := ro_cf hR2.out 4 _ e4
      obtain ⟨y0, z0⟩ := ro_cf hS2.out 0 (.bool false) rfl
      obtain ⟨y1, z1⟩ := ro_cf hS2.out 1 (.int .i64 0) rfl
      obtain ⟨y2, z2⟩ := ro_cf hS2.out 2 (.bool false) rfl
      obtain ⟨y3, z3⟩ := ro_cf hS2.out 3 (.string ⟨#[]⟩) rfl
      cases b
      all_goals
        go_wp2_with fail
        refine bodyPost_ret (v := ?_) (by simp [results, Tryz.results13, go_sem, y0, y1, y2, y3]; rfl) rfl ⟨rfl, bl_set4' hb2.out (by omega)⟩
set_option maxRecDepth 100000 in
set_option maxHeartbeats 4000000 in
theorem Time (x : Int) (b : Bool) (v : Int) (w : World) (hb : (b = true ∧ v = x ∧ -9223372036854775808 ≤ x ∧ x ≤ 9223372036854775807) ∨ (b = false ∧ v = 0 ∧ (x < -9223372036854775808 ∨ 9223372036854775807 < x))) :
    Calls Tryz.prog 25 #[vin x] w fun e w' => e = .returned (.tuple #[.int .i64 v, .bool b]) ∧ Below w.heap.size w w' := by
  have A1 := hide (fun w => r5_.Split (-9223372036854775808) w (by decide) (by decide))
  have A2 := hide (fun w => r5_.Split 9223372036854775807 w (by decide) (by decide))
  obtain ⟨v1, C1, i1, i2, i3, i4⟩ := Cmp x (-9223372036854775808)
  obtain ⟨v2, C2, j1, j2, j3, j4⟩ := Cmp x 9223372036854775807
  unfold vin cin at *
  rw [show (-9223372036854775808 : Int) / 86400 = -106751991167301 from rfl, show (-9223372036854775808 : Int) % 86400 = 30592 from rfl] at *
  rw [show (9223372036854775807 : Int) / 86400 = 106751991167300 from rfl, show (9223372036854775807 : Int) % 86400 = 55807 from rfl] at *
  replace C1 := hide C1
  replace C2 := hide C2
  obtain ⟨d, hd⟩ : ∃ d, x / 86400 = d := ⟨_, rfl⟩
  obtain ⟨s, hs⟩ : ∃ s, x % 86400 = s := ⟨_, rfl⟩
  rw [hd, hs] at C1 C2 ⊢
  have e0 : d * 86400 + s = x ∧ 0 ≤ s ∧ s < 86400 := by omega
  have hB := hide (Ro.new w #[.int .i64 d, .int .i64 s] 38)
  have hbl := hide (bl_new w (.cells #[.int .i64 d, .int .i64 s] 38))
  clear hd hs
  obtain ⟨y0, _⟩ := ro_cf hB.out 0 (.int .i64 d) rfl
  obtain ⟨y1, _⟩ := ro_cf hB.out 1 (.int .i64 s) rfl
  rcases (show (x < -9223372036854775808 ∧ b = false ∧ v = 0) ∨ (-9223372036854775808 ≤ x ∧ 9223372036854775807 < x ∧ b = false ∧ v = 0) ∨ (-9223372036854775808 ≤ x ∧ x ≤ 9223372036854775807 ∧ d < 0 ∧ b = true ∧ v = x) ∨ (-9223372036854775808 ≤ x ∧ x ≤ 9223372036854775807 ∧ 0 ≤ d ∧ b = true ∧ v = x) by
    rcases hb with ⟨rfl, rfl, h1, h2⟩ | ⟨rfl, rfl, h1 | h1⟩
    · by_cases hh : d < 0
      · exact .inr (.inr (.inl ⟨h1, h2, hh, rfl, rfl⟩))
      · exact .inr (.inr (.inr ⟨h1, h2, by omega, rfl, rfl⟩))
    · exact .inl ⟨h1, rfl, rfl⟩
    · exact .inr (.inl ⟨by omega, h1, rfl, rfl⟩)) with ⟨k1, rfl, rfl⟩ | ⟨k1, k2, rfl, rfl⟩ | ⟨k1, k2, k3, rfl, rfl⟩ | ⟨k1, k2, k3, rfl, rfl⟩
  · have d1 : decide (v1 < 0) = true := by simp; exact i4.2 k1
    clear i1 i2 i3 i4 j1 j2 j3 j4 hb e0 k1
    go_enter Tryz.func25, Tryz.ntmps25
    go_wp2_with fail
    refine (A1.out _).mono ?_
    rintro e w1 ⟨rfl, rfl⟩
    go_wp2_with fail
    refine (A2.out _).mono ?_
    rintro e w1 ⟨rfl, rfl⟩
    go_wp2_with fail
    refine (C1.out _).mono ?_
    rintro e w2 ⟨rfl, h1⟩
    replace hB := hide (hB.out.below h1)
    replace hbl := hide (bel_next hbl.out h1)
    clear h1 y0 y1
    obtain ⟨y0, _⟩ := ro_cf hB.out 0 (.int .i64 d) rfl
    obtain ⟨y1, _⟩ := ro_cf hB.out 1 (.int .i64 s) rfl
    go_wp2_with fail
    go_ret2
    exact ⟨rfl, hbl.out⟩
  · have d1 : decide (v1 < 0) = false := by simp only [decide_eq_false_iff_not]; intro h; have := i4.1 h; omega
    have d2 : decide (0 < v2) = true := by simp; exact j2.2 k2
    clear i1 i2 i3 i4 j1 j2 j3 j4 hb e0 k1 k2
    go_enter Tryz.func25, Tryz.ntmps25
    go_wp2_with fail
    refine (A1.out _).mono ?_
    rintro e w1 ⟨rfl, rfl⟩
    go_wp2_with fail
    refine (A2.out _).mono ?_
    rintro e w1 ⟨rfl, rfl⟩
    go_wp2_with fail
    refine (C1.out _).mono ?_
    rintro e w2 ⟨rfl, h1⟩
    replace hB := hide (hB.out.below h1)
    replace hbl := hide (bel_next hbl.out h1)
    clear h1 y0 y1
    obtain ⟨y0, _⟩ := ro_cf hB.out 0 (.int .i64 d) rfl
    obtain ⟨y1, _⟩ := ro_cf hB.out 1 (.int .i64 s) rfl
    go_wp2_with fail
    refine (C2.out _).mono ?_
    rintro e w2 ⟨rfl, h1⟩
    replace hB := hide (hB.out.below h1)
    replace hbl := hide (bel_next hbl.out h1)
    clear h1 y0 y1
    obtain ⟨y0, _⟩ := ro_cf hB.out 0 (.int .i64 d) rfl
    obtain ⟨y1, _⟩ := ro_cf hB.out 1 (.int .i64 s) rfl
    go_wp2_with fail
    go_ret2
    exact ⟨rfl, hbl.out⟩
  · have d1 : decide (v1 < 0) = false := by simp only [decide_eq_false_iff_not]; intro h; have := i4.1 h; omega
    have d2 : decide (0 < v2) = false := by simp only [decide_eq_false_iff_not]; intro h; have := j2.1 h; omega
    have q1 : IntKind.i64.wrap (d + 1) = d + 1 := by rw [IntKind.wrap_i64]; omega
    have q2 : IntKind.i64.wrap ((d + 1) * 86400) = (d + 1) * 86400 := by rw [IntKind.wrap_i64]; omega
    have q3 : IntKind.i64.wrap (s - 86400) = s - 86400 := by rw [IntKind.wrap_i64]; omega
    have q4 : IntKind.i64.wrap ((d + 1) * 86400 + (s - 86400)) = v := by rw [IntKind.wrap_i64]; omega
    have d3 : decide (d < 0) = true := by simpa using k3
    clear i1 i2 i3 i4 j1 j2 j3 j4 hb e0 k1 k2 k3
    go_enter Tryz.func25, Tryz.ntmps25
    go_wp2_with fail
    refine (A1.out _).mono ?_
    rintro e w1 ⟨rfl, rfl⟩
    go_wp2_with fail
    refine (A2.out _).mono ?_
    rintro e w1 ⟨rfl, rfl⟩
    go_wp2_with fail
    refine (C1.out _).mono ?_
    rintro e w2 ⟨rfl, h1⟩
    replace hB := hide (hB.out.below h1)
    replace hbl := hide (bel_next hbl.out h1)
    clear h1 y0 y1
    obtain ⟨y0, _⟩ := ro_cf hB.out 0 (.int .i64 d) rfl
    obtain ⟨y1, _⟩ := ro_cf hB.out 1 (.int .i64 s) rfl
    go_wp2_with fail
    refine (C2.out _).mono ?_
    rintro e w2 ⟨rfl, h1⟩
    replace hB := hide (hB.out.below h1)
    replace hbl := hide (bel_next hbl.out h1)
    clear h1 y0 y1
    obtain ⟨y0, _⟩ := ro_cf hB.out 0 (.int .i64 d) rfl
    obtain ⟨y1, _⟩ := ro_cf hB.out 1 (.int .i64 s) rfl
    go_wp2_with fail
    go_ret2
    exact ⟨rfl, hbl.out⟩
  · have d1 : decide (v1 < 0) = false := by simp only [decide_eq_false_iff_not]; intro h; have := i4.1 h; omega
    have d2 : decide (0 < v2) = false := by simp only [decide_eq_false_iff_not]; intro h; have := j2.1 h; omega
    have q2 : IntKind.i64.wrap (d * 86400) = d * 86400 := by rw [IntKind.wrap_i64]; omega
    have q4 : IntKind.i64.wrap (d * 86400 + s) = v := by rw [IntKind.wrap_i64]; omega
    have d3 : decide (d < 0) = false := by simp; omega
    clear i1 i2 i3 i4 j1 j2 j3 j4 hb e0 k1 k2 k3
    go_enter Tryz.func25, Tryz.ntmps25
    go_wp2_with fail
    refine (A1.out _).mono ?_
    rintro e w1 ⟨rfl, rfl⟩
    go_wp2_with fail
    refine (A2.out _).mono ?_
    rintro e w1 ⟨rfl, rfl⟩
    go_wp2_with fail
    refine (C1.out _).mono ?_
    rintro e w2 ⟨rfl, h1⟩
    replace hB := hide (hB.out.below h1)
    replace hbl := hide (bel_next hbl.out h1)
    clear h1 y0 y1
    obtain ⟨y0, _⟩ := ro_cf hB.out 0 (.int .i64 d) rfl
    obtain ⟨y1, _⟩ := ro_cf hB.out 1 (.int .i64 s) rfl
    go_wp2_with fail
    refine (C2.out _).mono ?_
    rintro e w2 ⟨rfl, h1⟩
    replace hB := hide (hB.out.below h1)
    replace hbl := hide (bel_next hbl.out h1)
    clear h1 y0 y1
    obtain ⟨y0, _⟩ := ro_cf hB.out 0 (.int .i64 d) rfl
    obtain ⟨y1, _⟩ := ro_cf hB.out 1 (.int .i64 s) rfl
    go_wp2_with fail
    go_ret2
    exact ⟨rfl, hbl.out⟩
end r11_
end Go.Proofs.YtdhogpcoegfopaaGreatDoor
