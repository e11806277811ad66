/-
  THE WALKS OF THE LAWS OF LAYER 11 (zoneinfolaw11): TzevalCycle. No conditions beyond the tables'.
-/
import Derived.Test.YtdhogpcoegfopaaGreatDoorLaw11
import Derived.Test.YtdhogpcoegfopaaGreatDoorRow2
import Derived.Deep.RegionHeld3
import Derived.Deep.DeepCutAuto
namespace Go.Proofs.YtdhogpcoegfopaaGreatDoor
open Go.ChangeShapes Go.WideShapes Go.ChangeAt Go.RowKit
set_option linter.unusedVariables false
namespace l11_
theorem bexC (p : Prop) : ∃ b : Bool, b = true ↔ p := by
  by_cases h : p
  · exact ⟨true, fun _ => h, fun _ => rfl⟩
  · exact ⟨false, (fun h' => by cases h'), fun h' => absurd h' h⟩
theorem cin_per (x : Int) : cin (x + 12622780800) = #[.int .i64 (x / 86400 + 146097), .int .i64 (x % 86400)] := by
  unfold cin
  rw [show (x + 12622780800) / 86400 = x / 86400 + 146097 by omega, show (x + 12622780800) % 86400 = x % 86400 by omega]
set_option maxRecDepth 100000 in
set_option maxHeartbeats 8000000 in
theorem cyC (std : ByteArray) (so : Int) (hd : Bool) (dst : ByteArray) (dof : Int) (st en : RD) (t y : Int) (t0 : -9223372036854775808 ≤ t) (t1 : t < 9223372036854775808) (y0 : -9223372036854775808 ≤ y) (y1 : y < 9223372036854775808) (w : World) (hT : Tb w) (hs : std.size ≤ maxLen) (ht : dst.size ≤ maxLen) :
    Calls Tryz.prog 5 #[.agg (crule std so hd dst dof st en), .int .i64 t, .int .i64 y] w fun e w' => e = .returned (.bool true) ∧ Below w.heap.size w w' := by
  have V := hide (fun w => r9_.Valid std so hd dst dof st en w hs ht)
  simp only [vrule_c] at V
  have G := gr_rule std so hd dst dof st en
  obtain ⟨cs, hcs⟩ : ∃ cs, crule std so hd dst dof st en = cs := ⟨_, rfl⟩
  rw [hcs] at V G ⊢
  have hb := hide (bl_new w (.cells cs 25))
  have hB := hide (Ro.new w cs 25)
  have HT := hide (hT.below hb.out)
  have Aw := hide (fun w hT => awake w hT)
  clear hT
  obtain ⟨v, hv⟩ : ∃ v, decide (prOk (byt std, so, hd, byt dst, dof, st, en)) = v := ⟨_, rfl⟩
  rw [hv] at V
  cases v
  · clear hcs hv
    go_enter Tryz.func5, Tryz.ntmps5
    go_wp2_with fail
    refine (Aw.out _ HT.out).mono ?_
    rintro e w1 ⟨rfl, h1⟩
    replace hB := hide (hB.out.below h1)
    replace HT := hide (HT.out.below h1)
    replace hb := hide (bel_next hb.out h1)
    clear h1
    go_wp2_with (refine load_row_g (by rfl) 25 _ rfl _ rfl _ _ _ hB.out Tryz.underlying25 rfl G.1 ?_)
    refine (V.out _).mono ?_
    rintro e w1 ⟨rfl, h1⟩
    replace HT := hide (HT.out.below h1)
    replace hb := hide (bel_next hb.out h1)
    clear h1
    go_wp2_with fail
    refine (Aw.out _ HT.out).mono ?_
    rintro e w1 ⟨rfl, h1⟩
    replace HT := hide (HT.out.below h1)
    replace hb := hide (bel_next hb.out h1)
    clear h1
    go_wp2_with fail
    go_ret
    exact ⟨rfl, hb.out⟩
  have hp := of_decide_eq_true hv
  have rv := RvOk.of hp
  have hz := pr_sz hp
  simp only at rv
  clear hv
  have e2 : cs[2]? = some (.bool hd) := by rw [← hcs]; rfl
  obtain ⟨b, hbn⟩ := bexC (ruleS hd st en so dof t)
  have A1 := hide (fun w hT => te_.At std so hd dst dof st en t b w hT hz t0 t1 rv hbn)
  have A2 := hide (fun w hT (h : t ≤ 4611686018427387904) => te_.At std so hd dst dof st en (t + 12622780800) b w hT hz (by omega) (by omega) rv (hbn.trans (by
    constructor
    · rintro ⟨h1, h2⟩
      obtain ⟨v1, v2, _, _⟩ := rv h1
      exact ⟨h1, (onS_cycle v1 v2 so dof t).2 h2⟩
    · rintro ⟨h1, h2⟩
      obtain ⟨v1, v2, _, _⟩ := rv h1
      exact ⟨h1, (onS_cycle v1 v2 so dof t).1 h2⟩)))
  have Sp := hide (fun w => r5_.Split t w t0 t1)
  have Cmp' := hide (fun a b c d w (hT : Tb w) => te_.Compare a b c d w)
  have Rv := hide rv
  have hcs' := hide hcs
  rw [hcs] at A1 A2
  simp only [vres] at A1 A2
  generalize (if b = true then dof else so) = o8 at *
  generalize (if b = true then dst else std) = s8 at *
  clear hcs hp rv hz hbn
  rcases (show 274877906944 < y ∨ (y ≤ 274877906944 ∧ y < -274877906944) ∨ (y ≤ 274877906944 ∧ -274877906944 ≤ y ∧ 4611686018427387904 < t) ∨ (y ≤ 274877906944 ∧ -274877906944 ≤ y ∧ t ≤ 4611686018427387904) by omega) with k1 | ⟨k1, k2⟩ | ⟨k1, k2, k3⟩ | ⟨k1, k2, k3⟩
  · have d_gt : decide (274877906944 < y) = true := by simp; omega
    go_enter Tryz.func5, Tryz.ntmps5
    go_wp2_with fail
    refine (Aw.out _ HT.out).mono ?_
    rintro e w1 ⟨rfl, h1⟩
    replace hB := hide (hB.out.below h1)
    replace HT := hide (HT.out.below h1)
    replace hb := hide (bel_next hb.out h1)
    clear h1
    go_wp2_with (refine load_row_g (by rfl) 25 _ rfl _ rfl _ _ _ hB.out Tryz.underlying25 rfl G.1 ?_)
    refine (V.out _).mono ?_
    rintro e w1 ⟨rfl, h1⟩
    replace HT := hide (HT.out.below h1)
    replace hb := hide (bel_next hb.out h1)
    clear h1
    go_wp2_with fail
    refine (Aw.out _ HT.out).mono ?_
    rintro e w1 ⟨rfl, h1⟩
    replace HT := hide (HT.out.below h1)
    replace hb := hide (bel_next hb.out h1)
    clear h1
    go_wp2_with fail
    go_ret
    exact ⟨rfl, hb.out⟩
  · have d_gt : decide (274877906944 < y) = false := by simp; omega
    have d_lt : decide (y < -274877906944) = true := by simp; omega
    go_enter Tryz.func5, Tryz.ntmps5
    go_wp2_with fail
    refine (Aw.out _ HT.out).mono ?_
    rintro e w1 ⟨rfl, h1⟩
    replace hB := hide (hB.out.below h1)
    replace HT := hide (HT.out.below h1)
    replace hb := hide (bel_next hb.out h1)
    clear h1
    go_wp2_with (refine load_row_g (by rfl) 25 _ rfl _ rfl _ _ _ hB.out Tryz.underlying25 rfl G.1 ?_)
    refine (V.out _).mono ?_
    rintro e w1 ⟨rfl, h1⟩
    replace HT := hide (HT.out.below h1)
    replace hb := hide (bel_next hb.out h1)
    clear h1
    go_wp2_with fail
    refine (Aw.out _ HT.out).mono ?_
    rintro e w1 ⟨rfl, h1⟩
    replace HT := hide (HT.out.below h1)
    replace hb := hide (bel_next hb.out h1)
    clear h1
    go_wp2_with fail
    go_ret
    exact ⟨rfl, hb.out⟩
  · have d_gt : decide (274877906944 < y) = false := by simp; omega
    have d_lt : decide (y < -274877906944) = false := by simp; omega
    have d_tt : decide (4611686018427387904 < t) = true := by simp; omega
    go_enter Tryz.func5, Tryz.ntmps5
    go_wp2_with fail
    refine (Aw.out _ HT.out).mono ?_
    rintro e w1 ⟨rfl, h1⟩
    replace hB := hide (hB.out.below h1)
    replace HT := hide (HT.out.below h1)
    replace hb := hide (bel_next hb.out h1)
    clear h1
    go_wp2_with (refine load_row_g (by rfl) 25 _ rfl _ rfl _ _ _ hB.out Tryz.underlying25 rfl G.1 ?_)
    refine (V.out _).mono ?_
    rintro e w1 ⟨rfl, h1⟩
    replace HT := hide (HT.out.below h1)
    replace hb := hide (bel_next hb.out h1)
    clear h1
    go_wp2_with fail
    refine (Aw.out _ HT.out).mono ?_
    rintro e w1 ⟨rfl, h1⟩
    replace HT := hide (HT.out.below h1)
    replace hb := hide (bel_next hb.out h1)
    clear h1
    go_wp2_with fail
    go_ret
    exact ⟨rfl, hb.out⟩
  · have d_gt : decide (274877906944 < y) = false := by simp; omega
    have d_lt : decide (y < -274877906944) = false := by simp; omega
    have d_tt : decide (4611686018427387904 < t) = false := by simp; omega
    have A3 := hide (fun w hT => A2.out w hT k3)
    have et : IntKind.i64.wrap (t + 12622780800) = t + 12622780800 := by rw [IntKind.wrap_i64]; omega
    go_enter Tryz.func5, Tryz.ntmps5
    go_wp2_with fail
    refine (Aw.out _ HT.out).mono ?_
    rintro e w1 ⟨rfl, h1⟩
    replace hB := hide (hB.out.below h1)
    replace HT := hide (HT.out.below h1)
    replace hb := hide (bel_next hb.out h1)
    clear h1
    go_wp2_with (refine load_row_g (by rfl) 25 _ rfl _ rfl _ _ _ hB.out Tryz.underlying25 rfl G.1 ?_)
    refine (V.out _).mono ?_
    rintro e w1 ⟨rfl, h1⟩
    replace hB := hide (hB.out.below h1)
    replace HT := hide (HT.out.below h1)
    replace hb := hide (bel_next hb.out h1)
    clear h1
    go_upto_region 3 with fail
    refine wp_region_held_drew (S := fun w' => Hid (Ro w' w.heap.size (cs) 25) ∧ Hid (Tb w') ∧ Hid (Below w.heap.size w w')) (by kernel_rfl) (⟨hB, hide (HT.out.below (bl_drew (bl_refl _))), hide (bl_drew hb.out)⟩) (fun hHeld => ?_)
    refine wpAnyH_takeD (i := 0) (d := some 33) rfl rfl (by kernel_rfl) (by kernel_rfl) (by kernel_rfl) (fun _ _ _ h => h) (yieldsIf_load_row (by rfl) 25 _ rfl w.heap.size rfl 25 cs _ (fun w hw => hw.1.out) Tryz.underlying25 rfl G.1) (by assumption) ?_
    try simp only [Act.put, List.setIfInBounds_toArray, List.set_cons_zero, List.set_cons_succ]
    refine wpAnyH_takeD (i := 1) (d := some 34) (v := ?_) rfl rfl (by kernel_rfl) (by kernel_rfl) (by kernel_rfl) (fun _ _ _ h => h) (Or.inl ⟨by rfl, ?_⟩) (by assumption) ?_
    rotate_left
    · ((intro w hSw; go_simp) <;> with_reducible rfl)
    try simp only [Act.put, List.setIfInBounds_toArray, List.set_cons_zero, List.set_cons_succ]
    refine wpAnyH_takeD (i := 3) (d := some 36) rfl rfl (by kernel_rfl) (by kernel_rfl) (by kernel_rfl) (fun _ _ _ h => h) (yieldsIf_load_row (by rfl) 25 _ rfl w.heap.size rfl 25 cs _ (fun w hw => hw.1.out) Tryz.underlying25 rfl G.1) (by assumption) ?_
    try simp only [Act.put, List.setIfInBounds_toArray, List.set_cons_zero, List.set_cons_succ]
    refine wpAnyH_takeD (i := 4) (d := some 37) (v := ?_) rfl rfl (by kernel_rfl) (by kernel_rfl) (by kernel_rfl) (fun _ _ _ h => h) (Or.inl ⟨by rfl, ?_⟩) (by assumption) ?_
    rotate_left
    · ((intro w hSw; go_simp) <;> with_reducible rfl)
    try simp only [Act.put, List.setIfInBounds_toArray, List.set_cons_zero, List.set_cons_succ]
    refine wpAnyH_takeD (i := 5) (d := some 38) (v := ?_) rfl rfl (by kernel_rfl) (by kernel_rfl) (by kernel_rfl) (fun _ _ _ h => h) (Or.inl ⟨by rfl, ?_⟩) (by assumption) ?_
    rotate_left
    · ((intro w hSw; go_simp) <;> with_reducible rfl)
    try simp only [Act.put, List.setIfInBounds_toArray, List.set_cons_zero, List.set_cons_succ]
    refine wpAnyH_ready (rs := [2]) (by kernel_rfl) (by simp) ?_
    refine AllReadyH.cons rfl (fun K hK => ?_) AllReadyH.nil
    go_simp
    refine (A1.out _ hHeld.2.1.out).mono ?_
    rintro e w6 ⟨rfl, h1'⟩
    refine hK.out _ _ (⟨hide (hHeld.1.out.below h1'), hide (hHeld.2.1.out.below h1'), hide (bel_next hHeld.2.2.out h1')⟩) (fun hHeld => ?_)
    clear hK K h1'
    try simp only [Act.put, List.setIfInBounds_toArray, List.set_cons_zero, List.set_cons_succ]
    refine wpAnyH_ready (rs := [6]) (by kernel_rfl) (by simp) ?_
    refine AllReadyH.cons rfl (fun K hK => ?_) AllReadyH.nil
    go_simp
    refine (A3.out _ hHeld.2.1.out).mono ?_
    rintro e w6 ⟨rfl, h1'⟩
    refine hK.out _ _ (⟨hide (hHeld.1.out.below h1'), hide (hHeld.2.1.out.below h1'), hide (bel_next hHeld.2.2.out h1')⟩) (fun hHeld => ?_)
    clear hK K h1'
    try simp only [Act.put, List.setIfInBounds_toArray, List.set_cons_zero, List.set_cons_succ]
    refine wpAnyH_takeD (i := 7) (d := some 40) (v := ?_) rfl rfl (by kernel_rfl) (by kernel_rfl) (by kernel_rfl) (fun _ _ _ h => h) (Or.inl ⟨by rfl, ?_⟩) (by assumption) ?_
    rotate_left
    · ((intro w hSw; go_simp) <;> with_reducible rfl)
    try simp only [Act.put, List.setIfInBounds_toArray, List.set_cons_zero, List.set_cons_succ]
    refine wpAnyH_done (by kernel_rfl) ?_ _
    obtain ⟨hB2, HT2, hb2⟩ := hHeld
    replace hB := hide hB2.out
    replace HT := hide HT2.out
    replace hb := hide hb2.out
    clear hB2 HT2 hb2 A1 A2 A3
    cases hd
    · obtain ⟨x2, _⟩ := ro_cf hB.out 2 _ e2
      go_wp2_with fail
      go_ret
      exact ⟨rfl, hb.out⟩
    · obtain ⟨v1, v2, v3, v4⟩ := Rv.out rfl
      have H1 := hide (fun w hT => te_.Changes std so dst dof st en y w hT v1 v2 v3 v4 (by omega) (by omega))
      have H2 := hide (fun w hT => te_.Changes std so dst dof st en (y + 400) w hT v1 v2 v3 v4 (by omega) (by omega))
      rw [chI_per v1, chI_per v2] at H2
      simp only [vin, cin_per] at H2
      simp only [vin, cin] at H1
      rw [hcs'.out] at H1 H2
      have r1 : 0 ≤ chI st so y % 86400 ∧ chI st so y % 86400 < 86400 := by omega
      generalize chI st so y / 86400 = a1 at *
      generalize chI st so y % 86400 = a2 at *
      generalize chI en dof y / 86400 = b1 at *
      generalize chI en dof y % 86400 = b2 at *
      obtain ⟨r1, r2⟩ := r1
      have g1 := hide (fun w hT => Cmp'.out a1 a2 (a1 + 146097) a2 w hT)
      rw [show cmpI a1 a2 (a1 + 146097) a2 = -1 by unfold cmpI; rw [if_pos (by omega)]] at g1
      have dd : -200000000000000 ≤ t / 86400 ∧ t / 86400 ≤ 200000000000000 := by omega
      generalize t / 86400 = d at *
      generalize t % 86400 = s at *
      obtain ⟨dd0, dd1⟩ := dd
      have g2 := hide (fun w hT => Cmp'.out d 0 (d + 1) 0 w hT)
      rw [show cmpI d 0 (d + 1) 0 = -1 by unfold cmpI; rw [if_pos (by omega)]] at g2
      have w1' : IntKind.i64.wrap (d + 1) = d + 1 := by rw [IntKind.wrap_i64]; omega
      obtain ⟨c1, hc1⟩ : ∃ c, a1 + 146097 = c := ⟨_, rfl⟩
      obtain ⟨d1, hd1⟩ : ∃ c, b1 + 146097 = c := ⟨_, rfl⟩
      rw [hc1] at H2 g1
      rw [hd1] at H2
      have w2' : IntKind.i64.wrap (c1 - a1) = 146097 := by rw [← hc1, show a1 + 146097 - a1 = 146097 by omega]; rfl
      have w3' : IntKind.i64.wrap (d1 - b1) = 146097 := by rw [← hd1, show b1 + 146097 - b1 = 146097 by omega]; rfl
      have w4' : IntKind.i64.wrap (y + 400) = y + 400 := by rw [IntKind.wrap_i64]; omega
      have p1 : decide (0 ≤ a2) = true := by simpa using r1
      have p2 : decide (a2 < 86400) = true := by simpa using r2
      clear hc1 hd1 r1 r2 dd0 dd1 v1 v2 v3 v4
      obtain ⟨x2, _⟩ := ro_cf hB.out 2 _ e2
      go_upto_region 7 with fail
      clear x2
      go_wp2_with (refine load_row_g (by rfl) 25 _ rfl _ rfl _ _ _ hB.out Tryz.underlying25 rfl G.1 ?_)
      refine (H1.out _ HT.out).mono ?_
      rintro e w1 ⟨rfl, h1⟩
      replace hB := hide (hB.out.below h1)
      replace HT := hide (HT.out.below h1)
      replace hb := hide (bel_next hb.out h1)
      clear h1
      have hgA := hide ((Ro.new w1 #[.int .i64 a1, .int .i64 a2] 38).alloc (.cells #[.int .i64 b1, .int .i64 b2] 38))
      have hgB := hide (show Ro ((w1.alloc (.cells #[.int .i64 a1, .int .i64 a2] 38)).alloc (.cells #[.int .i64 b1, .int .i64 b2] 38)) (w1.heap.size + 1) #[.int .i64 b1, .int .i64 b2] 38 by have := Ro.new (w1.alloc (.cells #[.int .i64 a1, .int .i64 a2] 38)) #[.int .i64 b1, .int .i64 b2] 38; simpa using this)
      replace hB := hide ((hB.out.alloc (.cells #[.int .i64 a1, .int .i64 a2] 38)).alloc (.cells #[.int .i64 b1, .int .i64 b2] 38))
      replace HT := hide ((HT.out.below (bl_new w1 (.cells #[.int .i64 a1, .int .i64 a2] 38))).below (bl_new _ (.cells #[.int .i64 b1, .int .i64 b2] 38)))
      replace hb := hide (bl_alloc (bl_alloc hb.out (.cells #[.int .i64 a1, .int .i64 a2] 38)) (.cells #[.int .i64 b1, .int .i64 b2] 38))
      go_upto_region 8 with fail
      generalize w1.heap.size + 1 = gB at *
      generalize w1.heap.size = gA at *
      generalize (w1.alloc (.cells #[.int .i64 a1, .int .i64 a2] 38)).alloc (.cells #[.int .i64 b1, .int .i64 b2] 38) = w2 at *
      go_wp2_with (refine load_row_g (by rfl) 25 _ rfl _ rfl _ _ _ hB.out Tryz.underlying25 rfl G.1 ?_)
      refine (H2.out _ HT.out).mono ?_
      rintro e w1 ⟨rfl, h1⟩
      replace hB := hide (hB.out.below h1)
      replace hgA := hide (hgA.out.below h1)
      replace hgB := hide (hgB.out.below h1)
      replace HT := hide (HT.out.below h1)
      replace hb := hide (bel_next hb.out h1)
      clear h1
      have hgC := hide ((Ro.new w1 #[.int .i64 c1, .int .i64 a2] 38).alloc (.cells #[.int .i64 d1, .int .i64 b2] 38))
      have hgD := hide (show Ro ((w1.alloc (.cells #[.int .i64 c1, .int .i64 a2] 38)).alloc (.cells #[.int .i64 d1, .int .i64 b2] 38)) (w1.heap.size + 1) #[.int .i64 d1, .int .i64 b2] 38 by have := Ro.new (w1.alloc (.cells #[.int .i64 c1, .int .i64 a2] 38)) #[.int .i64 d1, .int .i64 b2] 38; simpa using this)
      replace hB := hide ((hB.out.alloc (.cells #[.int .i64 c1, .int .i64 a2] 38)).alloc (.cells #[.int .i64 d1, .int .i64 b2] 38))
      replace hgA := hide ((hgA.out.alloc (.cells #[.int .i64 c1, .int .i64 a2] 38)).alloc (.cells #[.int .i64 d1, .int .i64 b2] 38))
      replace hgB := hide ((hgB.out.alloc (.cells #[.int .i64 c1, .int .i64 a2] 38)).alloc (.cells #[.int .i64 d1, .int .i64 b2] 38))
      replace HT := hide ((HT.out.below (bl_new w1 (.cells #[.int .i64 c1, .int .i64 a2] 38))).below (bl_new _ (.cells #[.int .i64 d1, .int .i64 b2] 38)))
      replace hb := hide (bl_alloc (bl_alloc hb.out (.cells #[.int .i64 c1, .int .i64 a2] 38)) (.cells #[.int .i64 d1, .int .i64 b2] 38))
      go_upto_region 9 with fail
      generalize w1.heap.size + 1 = gD at *
      generalize w1.heap.size = gC at *
      generalize (w1.alloc (.cells #[.int .i64 c1, .int .i64 a2] 38)).alloc (.cells #[.int .i64 d1, .int .i64 b2] 38) = w2 at *
      go_wp2_with fail
      refine (Sp.out _).mono ?_
      rintro e w1 ⟨rfl, rfl⟩
      obtain ⟨cgA0, _⟩ := ro_cf hgA.out 0 (.int .i64 a1) rfl
      obtain ⟨cgA1, _⟩ := ro_cf hgA.out 1 (.int .i64 a2) rfl
      obtain ⟨cgB0, _⟩ := ro_cf hgB.out 0 (.int .i64 b1) rfl
      obtain ⟨cgB1, _⟩ := ro_cf hgB.out 1 (.int .i64 b2) rfl
      obtain ⟨cgC0, _⟩ := ro_cf hgC.out 0 (.int .i64 c1) rfl
      obtain ⟨cgC1, _⟩ := ro_cf hgC.out 1 (.int .i64 a2) rfl
      obtain ⟨cgD0, _⟩ := ro_cf hgD.out 0 (.int .i64 d1) rfl
      obtain ⟨cgD1, _⟩ := ro_cf hgD.out 1 (.int .i64 b2) rfl
      go_wp2_with fail
      refine (g1.out _ HT.out).mono ?_
      rintro e w1 ⟨rfl, h1⟩
      replace hgA := hide (hgA.out.below h1)
      replace hgB := hide (hgB.out.below h1)
      replace hgC := hide (hgC.out.below h1)
      replace hgD := hide (hgD.out.below h1)
      replace HT := hide (HT.out.below h1)
      replace hb := hide (bel_next hb.out h1)
      clear h1
      clear cgA0 cgA1 cgB0 cgB1 cgC0 cgC1 cgD0 cgD1
      go_wp2_with fail
      refine (g2.out _ HT.out).mono ?_
      rintro e w1 ⟨rfl, h1⟩
      replace HT := hide (HT.out.below h1)
      replace hb := hide (bel_next hb.out h1)
      clear h1
      go_wp2_with fail
      go_ret
      exact ⟨rfl, hb.out⟩
theorem cycle (std : ByteArray) (so : Int) (hd : Bool) (dst : ByteArray) (dof K1 D1 M1 W1 V1 T1 K2 D2 M2 W2 V2 T2 : Int) (t y : Int) (w : World) (hT : Tb w) (hs : std.size ≤ maxLen) (wso : (Lit.int .i64 so).wf = true) (ht : dst.size ≤ maxLen) (wdof : (Lit.int .i64 dof).wf = true) (wK1 : (Lit.int .i64 K1).wf = true) (wD1 : (Lit.int .i64 D1).wf = true) (wM1 : (Lit.int .i64 M1).wf = true) (wW1 : (Lit.int .i64 W1).wf = true) (wV1 : (Lit.int .i64 V1).wf = true) (wT1 : (Lit.int .i64 T1).wf = true) (wK2 : (Lit.int .i64 K2).wf = true) (wD2 : (Lit.int .i64 D2).wf = true) (wM2 : (Lit.int .i64 M2).wf = true) (wW2 : (Lit.int .i64 W2).wf = true) (wV2 : (Lit.int .i64 V2).wf = true) (wT2 : (Lit.int .i64 T2).wf = true) (wt : (Lit.int .i64 t).wf = true) (wy : (Lit.int .i64 y).wf = true) : Calls Tryz.prog 5 #[.agg #[.string std, .int .i64 so, .bool hd, .string dst, .int .i64 dof, .int .i64 K1, .int .i64 D1, .int .i64 M1, .int .i64 W1, .int .i64 V1, .int .i64 T1, .int .i64 K2, .int .i64 D2, .int .i64 M2, .int .i64 W2, .int .i64 V2, .int .i64 T2], .int .i64 t, .int .i64 y] w fun e w' => e = .returned (.bool true) ∧ Below w.heap.size w w' := cyC std so hd dst dof (K1, D1, M1, W1, V1, T1) (K2, D2, M2, W2, V2, T2) t y (wf_i64 wt).1 (wf_i64 wt).2 (wf_i64 wy).1 (wf_i64 wy).2 w hT hs ht
end l11_
end Go.Proofs.YtdhogpcoegfopaaGreatDoor
