/-
  CONTRACTS OF PACKAGE tzeval, as it landed at 52ef5f9: Changes, changes, result, horizon, seconds. Conditions: valid rule days and offsets; years up to 2^39; the tables' fact.
-/
import Derived.Test.YtdhogpcoegfopaaGreatDoorTea
namespace Go.Proofs.YtdhogpcoegfopaaGreatDoor
open Go.ChangeShapes Go.WideShapes Go.ChangeAt Go.RowKit
set_option linter.unusedVariables false
set_option maxRecDepth 100000
namespace te_
set_option maxHeartbeats 8000000 in
theorem Changes_ (std : ByteArray) (so : Int) (dst : ByteArray) (dof : Int) (st en : RD) (y : Int) (w : World) (hT : Tb w) (hs : rdOk st) (he : rdOk en) (so0 : offOk so) (do0 : offOk dof) (y0 : -549755813888 ≤ y) (y1 : y ≤ 549755813888) :
    Calls Tryz.prog 14 #[.agg (crule std so true dst dof st en), .int .i64 y] w fun e w' => e = .returned (.tuple #[vin (chI st so y), vin (chI en dof y)]) ∧ Below w.heap.size w w' := by
  have D1 := hide (fun w hT => toDaylight_ std so dst dof st en y w hT hs so0 (by omega) (by omega))
  have D2 := hide (fun w hT => toStandard_ std so dst dof st en y w hT he do0 (by omega) (by omega))
  unfold vin cin at *
  generalize chI st so y / 86400 = a1 at *
  generalize chI st so y % 86400 = a2 at *
  generalize chI en dof y / 86400 = b1 at *
  generalize chI en dof y % 86400 = b2 at *
  have G := gr_rule std so true dst dof st en
  obtain ⟨cs, hcs⟩ : ∃ cs, crule std so true dst dof st en = cs := ⟨_, rfl⟩
  rw [hcs] at D1 D2 G ⊢
  clear hcs hs he so0 do0 y0 y1
  have hR := hide (((Ro.new w cs 25).alloc (.cells #[.int .i64 0, .int .i64 0] 38)).alloc (.cells #[.int .i64 0, .int .i64 0] 38))
  have hz_p := hide ((show Ro ((w.alloc (.cells cs 25)).alloc (.cells #[.int .i64 0, .int .i64 0] 38)) (w.heap.size + 1) #[.int .i64 0, .int .i64 0] 38 by have := Ro.new (w.alloc (.cells cs 25)) #[.int .i64 0, .int .i64 0] 38; simpa using this).alloc (.cells #[.int .i64 0, .int .i64 0] 38))
  have hz_q := hide (show Ro (((w.alloc (.cells cs 25)).alloc (.cells #[.int .i64 0, .int .i64 0] 38)).alloc (.cells #[.int .i64 0, .int .i64 0] 38)) (w.heap.size + 1 + 1) #[.int .i64 0, .int .i64 0] 38 by have := Ro.new ((w.alloc (.cells cs 25)).alloc (.cells #[.int .i64 0, .int .i64 0] 38)) #[.int .i64 0, .int .i64 0] 38; simpa using this)
  have hb := hide (bl_alloc (bl_alloc (bl_new w (.cells cs 25)) (.cells #[.int .i64 0, .int .i64 0] 38)) (.cells #[.int .i64 0, .int .i64 0] 38))
  go_enter Tryz.func14, Tryz.ntmps14
  go_upto_region 1 with fail
  generalize ((w.alloc (.cells cs 25)).alloc (.cells #[.int .i64 0, .int .i64 0] 38)).alloc (.cells #[.int .i64 0, .int .i64 0] 38) = u at *
  replace hz_p := hide (hz_p.out.drew)
  replace hz_q := hide (hz_q.out.drew)
  refine wp_region_held_drew (S := fun w' => Hid (Ro w' (w.heap.size) (cs) 25) ∧ Hid (Below w.heap.size w w')) (by kernel_rfl) (⟨hide hR.out.drew, hide (bl_drew hb.out)⟩) (fun hHeld => ?_)
  generalize u.drew = u0 at *
  refine wpAnyH_takeD (i := 0) (d := (some 6)) rfl rfl (by kernel_rfl) (by kernel_rfl) (by kernel_rfl) (fun _ _ _ h => h) (yieldsIf_load_row (by rfl) 25 _ rfl w.heap.size rfl 25 cs _ (fun w hw => hw.1.out) Tryz.underlying25 rfl G.1) (by assumption) ?_
  try simp only [Act.put, List.setIfInBounds_toArray, List.set_cons_zero, List.set_cons_succ]
  refine wpAnyH_takeD (i := 1) (d := (some 7)) (v := ?_) rfl rfl (by kernel_rfl) (by kernel_rfl) (by kernel_rfl) (fun _ _ _ h => h) (Or.inl ⟨by rfl, ?_⟩) (by assumption) ?_
  rotate_left
  · ((intro w hSw; go_simp) <;> with_reducible rfl)
  try simp only [Act.put, List.setIfInBounds_toArray, List.set_cons_zero, List.set_cons_succ]
  refine wpAnyH_takeD (i := 3) (d := (some 9)) rfl rfl (by kernel_rfl) (by kernel_rfl) (by kernel_rfl) (fun _ _ _ h => h) (yieldsIf_load_row (by rfl) 25 _ rfl w.heap.size rfl 25 cs _ (fun w hw => hw.1.out) Tryz.underlying25 rfl G.1) (by assumption) ?_
  try simp only [Act.put, List.setIfInBounds_toArray, List.set_cons_zero, List.set_cons_succ]
  refine wpAnyH_takeD (i := 4) (d := (some 10)) (v := ?_) rfl rfl (by kernel_rfl) (by kernel_rfl) (by kernel_rfl) (fun _ _ _ h => h) (Or.inl ⟨by rfl, ?_⟩) (by assumption) ?_
  rotate_left
  · ((intro w hSw; go_simp) <;> with_reducible rfl)
  try simp only [Act.put, List.setIfInBounds_toArray, List.set_cons_zero, List.set_cons_succ]
  refine wpAnyH_ready (rs := [2]) (by kernel_rfl) (by simp) ?_
  refine AllReadyH.cons rfl (fun K hK => ?_) (AllReadyH.nil)
  · go_simp
    refine (D1.out _ (hT.below hHeld.2.out)).mono ?_
    rintro e v1 ⟨rfl, h1'⟩
    replace hz_p := hide (hz_p.out.below h1')
    replace hz_q := hide (hz_q.out.below h1')
    refine hK.out _ _ (⟨hide (hHeld.1.out.below h1'), hide (bel_next hHeld.2.out h1')⟩) (fun hHeld => ?_)
    clear hK K h1'
    try simp only [Act.put, List.setIfInBounds_toArray, List.set_cons_zero, List.set_cons_succ]
    refine wpAnyH_ready (rs := [5]) (by kernel_rfl) (by simp) ?_
    refine AllReadyH.cons rfl (fun K hK => ?_) (AllReadyH.nil)
    · go_simp
      refine (D2.out _ (hT.below hHeld.2.out)).mono ?_
      rintro e v2 ⟨rfl, h1'⟩
      replace hz_p := hide (hz_p.out.below h1')
      replace hz_q := hide (hz_q.out.below h1')
      refine hK.out _ _ (⟨hide (hHeld.1.out.below h1'), hide (bel_next hHeld.2.out h1')⟩) (fun hHeld => ?_)
      clear hK K h1'
      try simp only [Act.put, List.setIfInBounds_toArray, List.set_cons_zero, List.set_cons_succ]
      refine wpAnyH_ready (rs := [6]) (by kernel_rfl) (by simp) ?_
      refine AllReadyH.cons rfl (fun K hK => ?_) (AllReadyH.nil)
      · obtain ⟨y0, z0⟩ := ro_cf hz_p.out 0 _ rfl; obtain ⟨y1, z1⟩ := ro_cf hz_p.out 1 _ rfl
        go_simp
        refine hK.out _ _ (⟨hide (ro_away2 (g' := w.heap.size + 1) hHeld.1.out (by omega)), hide (bl_set2 (g := w.heap.size + 1) hHeld.2.out (by omega))⟩) (fun hHeld => ?_)
        clear hK K y0 z0 y1 z1
        replace hz_p := hide (ro_set2' (x0 := .int .i64 a1) (x1 := .int .i64 a2) hz_p.out)
        replace hz_q := hide (ro_away2 (g' := w.heap.size + 1) (a := .int .i64 a1) (b := .int .i64 a2) hz_q.out (by omega))
        generalize ((v2.setCell ⟨w.heap.size + 1, 0, none⟩ (.int .i64 a1)).setCell ⟨w.heap.size + 1, 1, none⟩ (.int .i64 a2)) = v3 at *
        try simp only [Act.put, List.setIfInBounds_toArray, List.set_cons_zero, List.set_cons_succ]
        refine wpAnyH_ready (rs := [7]) (by kernel_rfl) (by simp) ?_
        refine AllReadyH.cons rfl (fun K hK => ?_) (AllReadyH.nil)
        · obtain ⟨y0, z0⟩ := ro_cf hz_q.out 0 _ rfl; obtain ⟨y1, z1⟩ := ro_cf hz_q.out 1 _ rfl
          go_simp
          refine hK.out _ _ (⟨hide (ro_away2 (g' := w.heap.size + 1 + 1) hHeld.1.out (by omega)), hide (bl_set2 (g := w.heap.size + 1 + 1) hHeld.2.out (by omega))⟩) (fun hHeld => ?_)
          clear hK K y0 z0 y1 z1
          replace hz_q := hide (ro_set2' (x0 := .int .i64 b1) (x1 := .int .i64 b2) hz_q.out)
          replace hz_p := hide (ro_away2 (g' := w.heap.size + 1 + 1) (a := .int .i64 b1) (b := .int .i64 b2) hz_p.out (by omega))
          generalize ((v3.setCell ⟨w.heap.size + 1 + 1, 0, none⟩ (.int .i64 b1)).setCell ⟨w.heap.size + 1 + 1, 1, none⟩ (.int .i64 b2)) = v4 at *
          try simp only [Act.put, List.setIfInBounds_toArray, List.set_cons_zero, List.set_cons_succ]
          refine wpAnyH_done (by kernel_rfl) ?_ _
          obtain ⟨y0, _⟩ := ro_cf hz_p.out 0 (.int .i64 a1) rfl
          obtain ⟨y1, _⟩ := ro_cf hz_p.out 1 (.int .i64 a2) rfl
          obtain ⟨q0, _⟩ := ro_cf hz_q.out 0 (.int .i64 b1) rfl
          obtain ⟨q1, _⟩ := ro_cf hz_q.out 1 (.int .i64 b2) rfl
          go_wp2_with fail
          refine bodyPost_ret (v := .tuple #[.agg #[.int .i64 a1, .int .i64 a2], .agg #[.int .i64 b1, .int .i64 b2]]) (by simp [results, Tryz.results14, go_sem, y0, y1, q0, q1]) rfl ⟨rfl, hHeld.2.out⟩
theorem changes_ (cs : Array Value) (G : (Tryz.prog.info? 25).map (·.size) = some cs.size) (f l : Int) (w : World) : Calls Tryz.prog 30 #[.agg cs, .int .i64 f, .int .i64 l] w fun e w' => e = .returned (.func (.func 49) #[] #[.pointer (some ⟨w.heap.size + 1, 0, none⟩), .pointer (some ⟨w.heap.size + 1 + 1, 0, none⟩), .pointer (some ⟨w.heap.size, 0, none⟩)]) ∧
      Ro w' w.heap.size cs 25 ∧ Ro w' (w.heap.size + 1) #[.int .i64 f] 3 ∧ Ro w' (w.heap.size + 1 + 1) #[.int .i64 l] 3 ∧ Below w.heap.size w w' := by
  have hmf : ∀ (fn : Fn) (first cap : Array Value) (w : World), (Instr.makeFunc fn first cap).run Tryz.prog w = .ok (.func fn first cap) w := fun _ _ _ _ => rfl
  go_enter Tryz.func30, Tryz.ntmps30
  go_wp2
  go_ret
  refine ⟨rfl, ((Ro.new w cs 25).alloc _).alloc _, ?_, ?_, bl_alloc (bl_alloc (bl_new _ _) _) _⟩
  · have := (Ro.new (w.alloc (.cells cs 25)) #[.int .i64 f] 3).alloc (.cells #[.int .i64 l] 3)
    simpa using this
  · have := Ro.new ((w.alloc (.cells cs 25)).alloc (.cells #[.int .i64 f] 3)) #[.int .i64 l] 3
    simpa using this
set_option maxHeartbeats 2000000 in
theorem result_ (off : Int) (d : Bool) (s : ByteArray) (w : World) (hs : s.size ≤ 1000000) : Calls Tryz.prog 22 #[.int .i64 off, .bool d, .string s] w fun e w' => e = .returned (.agg #[.bool true, .int .i64 off, .bool d, .string s]) ∧ Below w.heap.size w w' := by
  have C := hide (fun w => go_.Clone s w (by omega))
  have hb := hide (bl_new w (.cells #[.bool false, .int .i64 0, .bool false, .string ⟨#[]⟩] 29))
  have hR := hide (Ro.new w #[.bool false, .int .i64 0, .bool false, .string ⟨#[]⟩] 29)
  go_enter Tryz.func22, Tryz.ntmps22
  go_upto_region 1 with fail
  generalize w.alloc (.cells #[.bool false, .int .i64 0, .bool false, .string ⟨#[]⟩] 29) = u at *
  go_wp2_with fail
  refine (C.out _).mono ?_
  rintro e w6 ⟨rfl, h6⟩
  replace hR := hide (hR.out.below h6)
  replace hb := hide (bel_next hb.out h6)
  clear h6
  obtain ⟨x0, z0⟩ := ro_cf hR.out 0 (.bool false) rfl
  obtain ⟨x1, z1⟩ := ro_cf hR.out 1 (.int .i64 0) rfl
  obtain ⟨x2, z2⟩ := ro_cf hR.out 2 (.bool false) rfl
  obtain ⟨x3, z3⟩ := ro_cf hR.out 3 (.string ⟨#[]⟩) rfl
  go_wp2_with fail
  have r4 : Ro ((((w6.setCell ⟨w.heap.size, 0, none⟩ (.bool true)).setCell ⟨w.heap.size, 1, none⟩ (.int .i64 off)).setCell ⟨w.heap.size, 2, none⟩ (.bool d)).setCell ⟨w.heap.size, 3, none⟩ (.string s)) w.heap.size #[.bool true, .int .i64 off, .bool d, .string s] 29 := by
    have := ro_set (ro_set (ro_set (ro_set hR.out 0 (.bool true)) 1 (.int .i64 off)) 2 (.bool d)) 3 (.string s)
    simpa using this
  have hb2 := bl_set4' (a := .bool true) (b := .int .i64 off) (c := .bool d) (d := .string s) hb.out (g := w.heap.size) (by omega)
  obtain ⟨y0, _⟩ := ro_cf r4 0 (.bool true) rfl
  obtain ⟨y1, _⟩ := ro_cf r4 1 (.int .i64 off) rfl
  obtain ⟨y2, _⟩ := ro_cf r4 2 (.bool d) rfl
  obtain ⟨y3, _⟩ := ro_cf r4 3 (.string s) rfl
  generalize (((w6.setCell ⟨w.heap.size, 0, none⟩ (.bool true)).setCell ⟨w.heap.size, 1, none⟩ (.int .i64 off)).setCell ⟨w.heap.size, 2, none⟩ (.bool d)).setCell ⟨w.heap.size, 3, none⟩ (.string s) = w7 at *
  clear x0 x1 x2 x3 z0 z1 z2 z3
  refine bodyPost_ret (v := .agg #[.bool true, .int .i64 off, .bool d, .string s]) (by simp [results, Tryz.results22, go_sem, y0, y1, y2, y3]) rfl ⟨rfl, hb2⟩
/-- the last instant that Next may return. -/
def hzn (t : Int) : Int := if 9223372036854775807 < t + 12622780800 then 9223372036854775807 else t + 12622780800
set_option maxHeartbeats 8000000 in
theorem horizon_ (t : Int) (w : World) (h0 : -9223372036854775808 ≤ t) (h1 : t < 9223372036854775808) : Calls Tryz.prog 29 #[vin t] w fun e w' => e = .returned (vin (hzn t)) ∧ Below w.heap.size w w' := by
  have I1 := hide (fun w => instant_ 9223372036854775807 w (by decide) (by decide))
  have C1 := hide (fun w => Compare_v (t + 12622780800) 9223372036854775807 w)
  have hv : vin (hzn t) = if 0 < cmp1 (t + 12622780800) 9223372036854775807 then vin 9223372036854775807 else vin (t + 12622780800) := by
    unfold hzn cmp1
    by_cases h : 9223372036854775807 < t + 12622780800
    · rw [if_pos h, if_neg (show ¬ t + 12622780800 < 9223372036854775807 by omega), if_pos h]
      rfl
    · rw [if_neg h]
      by_cases h2 : t + 12622780800 < 9223372036854775807
      · rw [if_pos h2]; rfl
      · rw [if_neg h2, if_neg h]; rfl
  rw [hv]
  generalize cmp1 (t + 12622780800) 9223372036854775807 = v at *
  have k1 : (t + 12622780800) / 86400 = t / 86400 + 146097 := by omega
  have k2 : (t + 12622780800) % 86400 = t % 86400 := by omega
  have f1 : IntKind.i64.wrap (t / 86400 + 146097) = t / 86400 + 146097 := by rw [IntKind.wrap_i64]; omega
  unfold vin cin at *
  rw [k1, k2] at C1 ⊢
  clear k1 k2 hv h0 h1
  generalize t / 86400 = a at *
  generalize t % 86400 = b at *
  obtain ⟨m1, hm1⟩ : ∃ m : Int, (9223372036854775807 : Int) / 86400 = m := ⟨_, rfl⟩
  obtain ⟨m2, hm2⟩ : ∃ m : Int, (9223372036854775807 : Int) % 86400 = m := ⟨_, rfl⟩
  rw [hm1, hm2] at I1 C1 ⊢
  clear hm1 hm2
  obtain ⟨r1, r2, hr, hy, hn⟩ : ∃ r1 r2 : Int, (if 0 < v then (.agg #[.int .i64 m1, .int .i64 m2] : Value) else .agg #[.int .i64 (a + 146097), .int .i64 b]) = .agg #[.int .i64 r1, .int .i64 r2] ∧ (0 < v → r1 = m1 ∧ r2 = m2) ∧ (¬ 0 < v → r1 = a + 146097 ∧ r2 = b) := by
    by_cases h : 0 < v
    · exact ⟨m1, m2, by rw [if_pos h], fun _ => ⟨rfl, rfl⟩, fun h' => absurd h h'⟩
    · exact ⟨_, _, by rw [if_neg h], fun h' => absurd h' h, fun _ => ⟨rfl, rfl⟩⟩
  rw [hr]
  clear hr
  replace hy := hide hy
  replace hn := hide hn
  have hR := hide ((Ro.new w #[.int .i64 a, .int .i64 b] 38).alloc (.cells #[.int .i64 0, .int .i64 0] 38))
  have hz_p := hide (show Ro ((w.alloc (.cells #[.int .i64 a, .int .i64 b] 38)).alloc (.cells #[.int .i64 0, .int .i64 0] 38)) (w.heap.size + 1) #[.int .i64 0, .int .i64 0] 38 by have := Ro.new (w.alloc (.cells #[.int .i64 a, .int .i64 b] 38)) #[.int .i64 0, .int .i64 0] 38; simpa using this)
  have hb := hide (bl_alloc (bl_new w (.cells #[.int .i64 a, .int .i64 b] 38)) (.cells #[.int .i64 0, .int .i64 0] 38))
  go_enter Tryz.func29, Tryz.ntmps29
  go_upto_region 1 with fail
  generalize (w.alloc (.cells #[.int .i64 a, .int .i64 b] 38)).alloc (.cells #[.int .i64 0, .int .i64 0] 38) = u at *
  replace hz_p := hide (hz_p.out.drew)
  go_cut [3, 4] (fun s3 s4 wx => ∃ g3 g4 : Nat, s3 = .pointer (some ⟨g3, 0, none⟩) ∧ s4 = .pointer (some ⟨g4, 0, none⟩) ∧ Ro wx g3 #[.int .i64 (a + 146097), .int .i64 b] 38 ∧ Ro wx g4 #[.int .i64 m1, .int .i64 m2] 38 ∧ Ro wx (w.heap.size + 1) #[.int .i64 0, .int .i64 0] 38 ∧ Below w.heap.size w wx)
  case first =>
    refine wp_region_held_drew (S := fun w' => Hid (Ro w' (w.heap.size) (#[.int .i64 a, .int .i64 b]) 38) ∧ Hid (Below w.heap.size w w')) (by kernel_rfl) (⟨hide hR.out.drew, hide (bl_drew hb.out)⟩) (fun hHeld => ?_)
    generalize u.drew = u0 at *
    refine wpAnyH_takeD (i := 0) (d := (some 5)) (v := ?_) rfl rfl (by kernel_rfl) (by kernel_rfl) (by kernel_rfl) (fun _ _ _ h => h) (Or.inl ⟨by rfl, ?_⟩) (by assumption) ?_
    rotate_left
    · ((intro w hSw; go_simp) <;> with_reducible rfl)
    try simp only [Act.put, List.setIfInBounds_toArray, List.set_cons_zero, List.set_cons_succ]
    refine wpAnyH_takeD (i := 1) (d := (some 6)) (v := ?_) rfl rfl (by kernel_rfl) (by kernel_rfl) (by kernel_rfl) (fun _ _ _ h => h) (Or.inl ⟨by rfl, ?_⟩) (by assumption) ?_
    rotate_left
    · ((intro w hSw; obtain ⟨c0, _⟩ := ro_cf hSw.1.out 0 (.int .i64 a) rfl; go_simp) <;> with_reducible rfl)
    try simp only [Act.put, List.setIfInBounds_toArray, List.set_cons_zero, List.set_cons_succ]
    refine wpAnyH_takeD (i := 2) (d := (some 7)) (v := ?_) rfl rfl (by kernel_rfl) (by kernel_rfl) (by kernel_rfl) (fun _ _ _ h => h) (Or.inl ⟨by rfl, ?_⟩) (by assumption) ?_
    rotate_left
    · ((intro w hSw; go_simp) <;> with_reducible rfl)
    try simp only [Act.put, List.setIfInBounds_toArray, List.set_cons_zero, List.set_cons_succ]
    refine wpAnyH_takeD (i := 3) (d := (some 8)) (v := ?_) rfl rfl (by kernel_rfl) (by kernel_rfl) (by kernel_rfl) (fun _ _ _ h => h) (Or.inl ⟨by rfl, ?_⟩) (by assumption) ?_
    rotate_left
    · ((intro w hSw; go_simp) <;> with_reducible rfl)
    try simp only [Act.put, List.setIfInBounds_toArray, List.set_cons_zero, List.set_cons_succ]
    refine wpAnyH_takeD (i := 4) (d := (some 9)) (v := ?_) rfl rfl (by kernel_rfl) (by kernel_rfl) (by kernel_rfl) (fun _ _ _ h => h) (Or.inl ⟨by rfl, ?_⟩) (by assumption) ?_
    rotate_left
    · ((intro w hSw; obtain ⟨c1, _⟩ := ro_cf hSw.1.out 1 (.int .i64 b) rfl; go_simp) <;> with_reducible rfl)
    try simp only [Act.put, List.setIfInBounds_toArray, List.set_cons_zero, List.set_cons_succ]
    refine wpAnyH_takeD (i := 5) (d := (some 10)) (v := ?_) rfl rfl (by kernel_rfl) (by kernel_rfl) (by kernel_rfl) (fun _ _ _ h => h) (Or.inl ⟨by rfl, ?_⟩) (by assumption) ?_
    rotate_left
    · ((intro w hSw; go_simp) <;> with_reducible rfl)
    try simp only [Act.put, List.setIfInBounds_toArray, List.set_cons_zero, List.set_cons_succ]
    refine wpAnyH_ready (rs := [6, 7, 8]) (by kernel_rfl) (by simp) ?_
    refine AllReadyH.cons rfl (fun K hK => ?_) (AllReadyH.cons rfl (fun K hK => ?_) (AllReadyH.cons rfl (fun K hK => ?_) (AllReadyH.nil)))
    · go_simp
      refine (I1.out _).mono ?_
      rintro e v1 ⟨rfl, h1'⟩
      replace hz_p := hide (hz_p.out.below h1')
      refine hK.out _ _ (⟨hide (hHeld.1.out.below h1'), hide (bel_next hHeld.2.out h1')⟩) (fun hHeld => ?_)
      clear hK K h1'
      try simp only [Act.put, List.setIfInBounds_toArray, List.set_cons_zero, List.set_cons_succ]
      refine wpAnyH_ready (rs := [7, 8]) (by kernel_rfl) (by simp) ?_
      refine AllReadyH.cons rfl (fun K hK => ?_) (AllReadyH.cons rfl (fun K hK => ?_) (AllReadyH.nil))
      · go_simp
        have lzv2 := hHeld.2.out.size
        have lbv2_0 := hHeld.1.out.lt
        have lov2_p := hz_p.out.lt
        have hz_c := hide (Ro.new v1 #[.int .i64 0, .int .i64 0] 38)
        replace hz_p := hide (hz_p.out.alloc (.cells #[.int .i64 0, .int .i64 0] 38))
        refine hK.out _ _ (⟨hide (hHeld.1.out.alloc _), hide (bl_alloc hHeld.2.out _)⟩) (fun hHeld => ?_)
        clear hK K
        generalize v1.heap.size = g_c at *
        generalize v1.alloc (.cells #[.int .i64 0, .int .i64 0] 38) = v2 at *
        try simp only [Act.put, List.setIfInBounds_toArray, List.set_cons_zero, List.set_cons_succ]
        refine wpAnyH_ready (rs := [8]) (by kernel_rfl) (by simp) ?_
        refine AllReadyH.cons rfl (fun K hK => ?_) (AllReadyH.nil)
        · go_simp
          have lzv3 := hHeld.2.out.size
          have lbv3_0 := hHeld.1.out.lt
          have lov3_p := hz_p.out.lt
          have lov3_c := hz_c.out.lt
          have hz_e := hide (Ro.new v2 #[.int .i64 0, .int .i64 0] 38)
          replace hz_p := hide (hz_p.out.alloc (.cells #[.int .i64 0, .int .i64 0] 38))
          replace hz_c := hide (hz_c.out.alloc (.cells #[.int .i64 0, .int .i64 0] 38))
          refine hK.out _ _ (⟨hide (hHeld.1.out.alloc _), hide (bl_alloc hHeld.2.out _)⟩) (fun hHeld => ?_)
          clear hK K
          generalize v2.heap.size = g_e at *
          generalize v2.alloc (.cells #[.int .i64 0, .int .i64 0] 38) = v3 at *
          try simp only [Act.put, List.setIfInBounds_toArray, List.set_cons_zero, List.set_cons_succ]
          refine wpAnyH_ready (rs := [9]) (by kernel_rfl) (by simp) ?_
          refine AllReadyH.cons rfl (fun K hK => ?_) (AllReadyH.nil)
          · obtain ⟨y0, z0⟩ := ro_cf hz_c.out 0 _ rfl; obtain ⟨y1, z1⟩ := ro_cf hz_c.out 1 _ rfl
            go_simp
            refine hK.out _ _ (⟨hide (ro_away2 (g' := g_c) hHeld.1.out (by omega)), hide (bl_set2 (g := g_c) hHeld.2.out (by omega))⟩) (fun hHeld => ?_)
            clear hK K y0 z0 y1 z1
            replace hz_c := hide (ro_set2' (x0 := .int .i64 (a + 146097)) (x1 := .int .i64 b) hz_c.out)
            replace hz_p := hide (ro_away2 (g' := g_c) (a := .int .i64 (a + 146097)) (b := .int .i64 b) hz_p.out (by omega))
            replace hz_e := hide (ro_away2 (g' := g_c) (a := .int .i64 (a + 146097)) (b := .int .i64 b) hz_e.out (by omega))
            generalize ((v3.setCell ⟨g_c, 0, none⟩ (.int .i64 (a + 146097))).setCell ⟨g_c, 1, none⟩ (.int .i64 b)) = v4 at *
            try simp only [Act.put, List.setIfInBounds_toArray, List.set_cons_zero, List.set_cons_succ]
            refine wpAnyH_ready (rs := [10]) (by kernel_rfl) (by simp) ?_
            refine AllReadyH.cons rfl (fun K hK => ?_) (AllReadyH.nil)
            · obtain ⟨y0, z0⟩ := ro_cf hz_e.out 0 _ rfl; obtain ⟨y1, z1⟩ := ro_cf hz_e.out 1 _ rfl
              go_simp
              refine hK.out _ _ (⟨hide (ro_away2 (g' := g_e) hHeld.1.out (by omega)), hide (bl_set2 (g := g_e) hHeld.2.out (by omega))⟩) (fun hHeld => ?_)
              clear hK K y0 z0 y1 z1
              replace hz_e := hide (ro_set2' (x0 := .int .i64 m1) (x1 := .int .i64 m2) hz_e.out)
              replace hz_p := hide (ro_away2 (g' := g_e) (a := .int .i64 m1) (b := .int .i64 m2) hz_p.out (by omega))
              replace hz_c := hide (ro_away2 (g' := g_e) (a := .int .i64 m1) (b := .int .i64 m2) hz_c.out (by omega))
              generalize ((v4.setCell ⟨g_e, 0, none⟩ (.int .i64 m1)).setCell ⟨g_e, 1, none⟩ (.int .i64 m2)) = v5 at *
              try simp only [Act.put, List.setIfInBounds_toArray, List.set_cons_zero, List.set_cons_succ]
              refine wpAnyH_done (by kernel_rfl) ?_ _
              go_wp2_with fail
              go_meet
              exact ⟨_, _, rfl, rfl, hz_c.out, hz_e.out, hz_p.out, hHeld.2.out⟩
      · go_simp
        have lzv6 := hHeld.2.out.size
        have lbv6_0 := hHeld.1.out.lt
        have lov6_p := hz_p.out.lt
        have hz_e := hide (Ro.new v1 #[.int .i64 0, .int .i64 0] 38)
        replace hz_p := hide (hz_p.out.alloc (.cells #[.int .i64 0, .int .i64 0] 38))
        refine hK.out _ _ (⟨hide (hHeld.1.out.alloc _), hide (bl_alloc hHeld.2.out _)⟩) (fun hHeld => ?_)
        clear hK K
        generalize v1.heap.size = g_e at *
        generalize v1.alloc (.cells #[.int .i64 0, .int .i64 0] 38) = v6 at *
        try simp only [Act.put, List.setIfInBounds_toArray, List.set_cons_zero, List.set_cons_succ]
        refine wpAnyH_ready (rs := [7]) (by kernel_rfl) (by simp) ?_
        refine AllReadyH.cons rfl (fun K hK => ?_) (AllReadyH.nil)
        · go_simp
          have lzv7 := hHeld.2.out.size
          have lbv7_0 := hHeld.1.out.lt
          have lov7_p := hz_p.out.lt
          have lov7_e := hz_e.out.lt
          have hz_c := hide (Ro.new v6 #[.int .i64 0, .int .i64 0] 38)
          replace hz_p := hide (hz_p.out.alloc (.cells #[.int .i64 0, .int .i64 0] 38))
          replace hz_e := hide (hz_e.out.alloc (.cells #[.int .i64 0, .int .i64 0] 38))
          refine hK.out _ _ (⟨hide (hHeld.1.out.alloc _), hide (bl_alloc hHeld.2.out _)⟩) (fun hHeld => ?_)
          clear hK K
          generalize v6.heap.size = g_c at *
          generalize v6.alloc (.cells #[.int .i64 0, .int .i64 0] 38) = v7 at *
          try simp only [Act.put, List.setIfInBounds_toArray, List.set_cons_zero, List.set_cons_succ]
          refine wpAnyH_ready (rs := [9]) (by kernel_rfl) (by simp) ?_
          refine AllReadyH.cons rfl (fun K hK => ?_) (AllReadyH.nil)
          · obtain ⟨y0, z0⟩ := ro_cf hz_c.out 0 _ rfl; obtain ⟨y1, z1⟩ := ro_cf hz_c.out 1 _ rfl
            go_simp
            refine hK.out _ _ (⟨hide (ro_away2 (g' := g_c) hHeld.1.out (by omega)), hide (bl_set2 (g := g_c) hHeld.2.out (by omega))⟩) (fun hHeld => ?_)
            clear hK K y0 z0 y1 z1
            replace hz_c := hide (ro_set2' (x0 := .int .i64 (a + 146097)) (x1 := .int .i64 b) hz_c.out)
            replace hz_p := hide (ro_away2 (g' := g_c) (a := .int .i64 (a + 146097)) (b := .int .i64 b) hz_p.out (by omega))
            replace hz_e := hide (ro_away2 (g' := g_c) (a := .int .i64 (a + 146097)) (b := .int .i64 b) hz_e.out (by omega))
            generalize ((v7.setCell ⟨g_c, 0, none⟩ (.int .i64 (a + 146097))).setCell ⟨g_c, 1, none⟩ (.int .i64 b)) = v8 at *
            try simp only [Act.put, List.setIfInBounds_toArray, List.set_cons_zero, List.set_cons_succ]
            refine wpAnyH_ready (rs := [10]) (by kernel_rfl) (by simp) ?_
            refine AllReadyH.cons rfl (fun K hK => ?_) (AllReadyH.nil)
            · obtain ⟨y0, z0⟩ := ro_cf hz_e.out 0 _ rfl; obtain ⟨y1, z1⟩ := ro_cf hz_e.out 1 _ rfl
              go_simp
              refine hK.out _ _ (⟨hide (ro_away2 (g' := g_e) hHeld.1.out (by omega)), hide (bl_set2 (g := g_e) hHeld.2.out (by omega))⟩) (fun hHeld => ?_)
              clear hK K y0 z0 y1 z1
              replace hz_e := hide (ro_set2' (x0 := .int .i64 m1) (x1 := .int .i64 m2) hz_e.out)
              replace hz_p := hide (ro_away2 (g' := g_e) (a := .int .i64 m1) (b := .int .i64 m2) hz_p.out (by omega))
              replace hz_c := hide (ro_away2 (g' := g_e) (a := .int .i64 m1) (b := .int .i64 m2) hz_c.out (by omega))
              generalize ((v8.setCell ⟨g_e, 0, none⟩ (.int .i64 m1)).setCell ⟨g_e, 1, none⟩ (.int .i64 m2)) = v9 at *
              try simp only [Act.put, List.setIfInBounds_toArray, List.set_cons_zero, List.set_cons_succ]
              refine wpAnyH_done (by kernel_rfl) ?_ _
              go_wp2_with fail
              go_meet
              exact ⟨_, _, rfl, rfl, hz_c.out, hz_e.out, hz_p.out, hHeld.2.out⟩
    · go_simp
      have lzv10 := hHeld.2.out.size
      have lbv10_0 := hHeld.1.out.lt
      have lov10_p := hz_p.out.lt
      have hz_c := hide (Ro.new u0 #[.int .i64 0, .int .i64 0] 38)
      replace hz_p := hide (hz_p.out.alloc (.cells #[.int .i64 0, .int .i64 0] 38))
      refine hK.out _ _ (⟨hide (hHeld.1.out.alloc _), hide (bl_alloc hHeld.2.out _)⟩) (fun hHeld => ?_)
      clear hK K
      generalize u0.heap.size = g_c at *
      generalize u0.alloc (.cells #[.int .i64 0, .int .i64 0] 38) = v10 at *
      try simp only [Act.put, List.setIfInBounds_toArray, List.set_cons_zero, List.set_cons_succ]
      refine wpAnyH_ready (rs := [6, 8]) (by kernel_rfl) (by simp) ?_
      refine AllReadyH.cons rfl (fun K hK => ?_) (AllReadyH.cons rfl (fun K hK => ?_) (AllReadyH.nil))
      · go_simp
        refine (I1.out _).mono ?_
        rintro e v11 ⟨rfl, h1'⟩
        replace hz_p := hide (hz_p.out.below h1')
        replace hz_c := hide (hz_c.out.below h1')
        refine hK.out _ _ (⟨hide (hHeld.1.out.below h1'), hide (bel_next hHeld.2.out h1')⟩) (fun hHeld => ?_)
        clear hK K h1'
        try simp only [Act.put, List.setIfInBounds_toArray, List.set_cons_zero, List.set_cons_succ]
        refine wpAnyH_ready (rs := [8]) (by kernel_rfl) (by simp) ?_
        refine AllReadyH.cons rfl (fun K hK => ?_) (AllReadyH.nil)
        · go_simp
          have lzv12 := hHeld.2.out.size
          have lbv12_0 := hHeld.1.out.lt
          have lov12_p := hz_p.out.lt
          have lov12_c := hz_c.out.lt
          have hz_e := hide (Ro.new v11 #[.int .i64 0, .int .i64 0] 38)
          replace hz_p := hide (hz_p.out.alloc (.cells #[.int .i64 0, .int .i64 0] 38))
          replace hz_c := hide (hz_c.out.alloc (.cells #[.int .i64 0, .int .i64 0] 38))
          refine hK.out _ _ (⟨hide (hHeld.1.out.alloc _), hide (bl_alloc hHeld.2.out _)⟩) (fun hHeld => ?_)
          clear hK K
          generalize v11.heap.size = g_e at *
          generalize v11.alloc (.cells #[.int .i64 0, .int .i64 0] 38) = v12 at *
          try simp only [Act.put, List.setIfInBounds_toArray, List.set_cons_zero, List.set_cons_succ]
          refine wpAnyH_ready (rs := [9]) (by kernel_rfl) (by simp) ?_
          refine AllReadyH.cons rfl (fun K hK => ?_) (AllReadyH.nil)
          · obtain ⟨y0, z0⟩ := ro_cf hz_c.out 0 _ rfl; obtain ⟨y1, z1⟩ := ro_cf hz_c.out 1 _ rfl
            go_simp
            refine hK.out _ _ (⟨hide (ro_away2 (g' := g_c) hHeld.1.out (by omega)), hide (bl_set2 (g := g_c) hHeld.2.out (by omega))⟩) (fun hHeld => ?_)
            clear hK K y0 z0 y1 z1
            replace hz_c := hide (ro_set2' (x0 := .int .i64 (a + 146097)) (x1 := .int .i64 b) hz_c.out)
            replace hz_p := hide (ro_away2 (g' := g_c) (a := .int .i64 (a + 146097)) (b := .int .i64 b) hz_p.out (by omega))
            replace hz_e := hide (ro_away2 (g' := g_c) (a := .int .i64 (a + 146097)) (b := .int .i64 b) hz_e.out (by omega))
            generalize ((v12.setCell ⟨g_c, 0, none⟩ (.int .i64 (a + 146097))).setCell ⟨g_c, 1, none⟩ (.int .i64 b)) = v13 at *
            try simp only [Act.put, List.setIfInBounds_toArray, List.set_cons_zero, List.set_cons_succ]
            refine wpAnyH_ready (rs := [10]) (by kernel_rfl) (by simp) ?_
            refine AllReadyH.cons rfl (fun K hK => ?_) (AllReadyH.nil)
            · obtain ⟨y0, z0⟩ := ro_cf hz_e.out 0 _ rfl; obtain ⟨y1, z1⟩ := ro_cf hz_e.out 1 _ rfl
              go_simp
              refine hK.out _ _ (⟨hide (ro_away2 (g' := g_e) hHeld.1.out (by omega)), hide (bl_set2 (g := g_e) hHeld.2.out (by omega))⟩) (fun hHeld => ?_)
              clear hK K y0 z0 y1 z1
              replace hz_e := hide (ro_set2' (x0 := .int .i64 m1) (x1 := .int .i64 m2) hz_e.out)
              replace hz_p := hide (ro_away2 (g' := g_e) (a := .int .i64 m1) (b := .int .i64 m2) hz_p.out (by omega))
              replace hz_c := hide (ro_away2 (g' := g_e) (a := .int .i64 m1) (b := .int .i64 m2) hz_c.out (by omega))
              generalize ((v13.setCell ⟨g_e, 0, none⟩ (.int .i64 m1)).setCell ⟨g_e, 1, none⟩ (.int .i64 m2)) = v14 at *
              try simp only [Act.put, List.setIfInBounds_toArray, List.set_cons_zero, List.set_cons_succ]
              refine wpAnyH_done (by kernel_rfl) ?_ _
              go_wp2_with fail
              go_meet
              exact ⟨_, _, rfl, rfl, hz_c.out, hz_e.out, hz_p.out, hHeld.2.out⟩
      · go_simp
        have lzv15 := hHeld.2.out.size
        have lbv15_0 := hHeld.1.out.lt
        have lov15_p := hz_p.out.lt
        have lov15_c := hz_c.out.lt
        have hz_e := hide (Ro.new v10 #[.int .i64 0, .int .i64 0] 38)
        replace hz_p := hide (hz_p.out.alloc (.cells #[.int .i64 0, .int .i64 0] 38))
        replace hz_c := hide (hz_c.out.alloc (.cells #[.int .i64 0, .int .i64 0] 38))
        refine hK.out _ _ (⟨hide (hHeld.1.out.alloc _), hide (bl_alloc hHeld.2.out _)⟩) (fun hHeld => ?_)
        clear hK K
        generalize v10.heap.size = g_e at *
        generalize v10.alloc (.cells #[.int .i64 0, .int .i64 0] 38) = v15 at *
        try simp only [Act.put, List.setIfInBounds_toArray, List.set_cons_zero, List.set_cons_succ]
        refine wpAnyH_ready (rs := [6]) (by kernel_rfl) (by simp) ?_
        refine AllReadyH.cons rfl (fun K hK => ?_) (AllReadyH.nil)
        · go_simp
          refine (I1.out _).mono ?_
          rintro e v16 ⟨rfl, h1'⟩
          replace hz_p := hide (hz_p.out.below h1')
          replace hz_c := hide (hz_c.out.below h1')
          replace hz_e := hide (hz_e.out.below h1')
          refine hK.out _ _ (⟨hide (hHeld.1.out.below h1'), hide (bel_next hHeld.2.out h1')⟩) (fun hHeld => ?_)
          clear hK K h1'
          try simp only [Act.put, List.setIfInBounds_toArray, List.set_cons_zero, List.set_cons_succ]
          refine wpAnyH_ready (rs := [9]) (by kernel_rfl) (by simp) ?_
          refine AllReadyH.cons rfl (fun K hK => ?_) (AllReadyH.nil)
          · obtain ⟨y0, z0⟩ := ro_cf hz_c.out 0 _ rfl; obtain ⟨y1, z1⟩ := ro_cf hz_c.out 1 _ rfl
            go_simp
            refine hK.out _ _ (⟨hide (ro_away2 (g' := g_c) hHeld.1.out (by omega)), hide (bl_set2 (g := g_c) hHeld.2.out (by omega))⟩) (fun hHeld => ?_)
            clear hK K y0 z0 y1 z1
            replace hz_c := hide (ro_set2' (x0 := .int .i64 (a + 146097)) (x1 := .int .i64 b) hz_c.out)
            replace hz_p := hide (ro_away2 (g' := g_c) (a := .int .i64 (a + 146097)) (b := .int .i64 b) hz_p.out (by omega))
            replace hz_e := hide (ro_away2 (g' := g_c) (a := .int .i64 (a + 146097)) (b := .int .i64 b) hz_e.out (by omega))
            generalize ((v16.setCell ⟨g_c, 0, none⟩ (.int .i64 (a + 146097))).setCell ⟨g_c, 1, none⟩ (.int .i64 b)) = v17 at *
            try simp only [Act.put, List.setIfInBounds_toArray, List.set_cons_zero, List.set_cons_succ]
            refine wpAnyH_ready (rs := [10]) (by kernel_rfl) (by simp) ?_
            refine AllReadyH.cons rfl (fun K hK => ?_) (AllReadyH.nil)
            · obtain ⟨y0, z0⟩ := ro_cf hz_e.out 0 _ rfl; obtain ⟨y1, z1⟩ := ro_cf hz_e.out 1 _ rfl
              go_simp
              refine hK.out _ _ (⟨hide (ro_away2 (g' := g_e) hHeld.1.out (by omega)), hide (bl_set2 (g := g_e) hHeld.2.out (by omega))⟩) (fun hHeld => ?_)
              clear hK K y0 z0 y1 z1
              replace hz_e := hide (ro_set2' (x0 := .int .i64 m1) (x1 := .int .i64 m2) hz_e.out)
              replace hz_p := hide (ro_away2 (g' := g_e) (a := .int .i64 m1) (b := .int .i64 m2) hz_p.out (by omega))
              replace hz_c := hide (ro_away2 (g' := g_e) (a := .int .i64 m1) (b := .int .i64 m2) hz_c.out (by omega))
              generalize ((v17.setCell ⟨g_e, 0, none⟩ (.int .i64 m1)).setCell ⟨g_e, 1, none⟩ (.int .i64 m2)) = v18 at *
              try simp only [Act.put, List.setIfInBounds_toArray, List.set_cons_zero, List.set_cons_succ]
              refine wpAnyH_done (by kernel_rfl) ?_ _
              go_wp2_with fail
              go_meet
              exact ⟨_, _, rfl, rfl, hz_c.out, hz_e.out, hz_p.out, hHeld.2.out⟩
    · go_simp
      have lzv19 := hHeld.2.out.size
      have lbv19_0 := hHeld.1.out.lt
      have lov19_p := hz_p.out.lt
      have hz_e := hide (Ro.new u0 #[.int .i64 0, .int .i64 0] 38)
      replace hz_p := hide (hz_p.out.alloc (.cells #[.int .i64 0, .int .i64 0] 38))
      refine hK.out _ _ (⟨hide (hHeld.1.out.alloc _), hide (bl_alloc hHeld.2.out _)⟩) (fun hHeld => ?_)
      clear hK K
      generalize u0.heap.size = g_e at *
      generalize u0.alloc (.cells #[.int .i64 0, .int .i64 0] 38) = v19 at *
      try simp only [Act.put, List.setIfInBounds_toArray, List.set_cons_zero, List.set_cons_succ]
      refine wpAnyH_ready (rs := [6, 7]) (by kernel_rfl) (by simp) ?_
      refine AllReadyH.cons rfl (fun K hK => ?_) (AllReadyH.cons rfl (fun K hK => ?_) (AllReadyH.nil))
      · go_simp
        refine (I1.out _).mono ?_
        rintro e v20 ⟨rfl, h1'⟩
        replace hz_p := hide (hz_p.out.below h1')
        replace hz_e := hide (hz_e.out.below h1')
        refine hK.out _ _ (⟨hide (hHeld.1.out.below h1'), hide (bel_next hHeld.2.out h1')⟩) (fun hHeld => ?_)
        clear hK K h1'
        try simp only [Act.put, List.setIfInBounds_toArray, List.set_cons_zero, List.set_cons_succ]
        refine wpAnyH_ready (rs := [7]) (by kernel_rfl) (by simp) ?_
        refine AllReadyH.cons rfl (fun K hK => ?_) (AllReadyH.nil)
        · go_simp
          have lzv21 := hHeld.2.out.size
          have lbv21_0 := hHeld.1.out.lt
          have lov21_p := hz_p.out.lt
          have lov21_e := hz_e.out.lt
          have hz_c := hide (Ro.new v20 #[.int .i64 0, .int .i64 0] 38)
          replace hz_p := hide (hz_p.out.alloc (.cells #[.int .i64 0, .int .i64 0] 38))
          replace hz_e := hide (hz_e.out.alloc (.cells #[.int .i64 0, .int .i64 0] 38))
          refine hK.out _ _ (⟨hide (hHeld.1.out.alloc _), hide (bl_alloc hHeld.2.out _)⟩) (fun hHeld => ?_)
          clear hK K
          generalize v20.heap.size = g_c at *
          generalize v20.alloc (.cells #[.int .i64 0, .int .i64 0] 38) = v21 at *
          try simp only [Act.put, List.setIfInBounds_toArray, List.set_cons_zero, List.set_cons_succ]
          refine wpAnyH_ready (rs := [9]) (by kernel_rfl) (by simp) ?_
          refine AllReadyH.cons rfl (fun K hK => ?_) (AllReadyH.nil)
          · obtain ⟨y0, z0⟩ := ro_cf hz_c.out 0 _ rfl; obtain ⟨y1, z1⟩ := ro_cf hz_c.out 1 _ rfl
            go_simp
            refine hK.out _ _ (⟨hide (ro_away2 (g' := g_c) hHeld.1.out (by omega)), hide (bl_set2 (g := g_c) hHeld.2.out (by omega))⟩) (fun hHeld => ?_)
            clear hK K y0 z0 y1 z1
            replace hz_c := hide (ro_set2' (x0 := .int .i64 (a + 146097)) (x1 := .int .i64 b) hz_c.out)
            replace hz_p := hide (ro_away2 (g' := g_c) (a := .int .i64 (a + 146097)) (b := .int .i64 b) hz_p.out (by omega))
            replace hz_e := hide (ro_away2 (g' := g_c) (a := .int .i64 (a + 146097)) (b := .int .i64 b) hz_e.out (by omega))
            generalize ((v21.setCell ⟨g_c, 0, none⟩ (.int .i64 (a + 146097))).setCell ⟨g_c, 1, none⟩ (.int .i64 b)) = v22 at *
            try simp only [Act.put, List.setIfInBounds_toArray, List.set_cons_zero, List.set_cons_succ]
            refine wpAnyH_ready (rs := [10]) (by kernel_rfl) (by simp) ?_
            refine AllReadyH.cons rfl (fun K hK => ?_) (AllReadyH.nil)
            · obtain ⟨y0, z0⟩ := ro_cf hz_e.out 0 _ rfl; obtain ⟨y1, z1⟩ := ro_cf hz_e.out 1 _ rfl
              go_simp
              refine hK.out _ _ (⟨hide (ro_away2 (g' := g_e) hHeld.1.out (by omega)), hide (bl_set2 (g := g_e) hHeld.2.out (by omega))⟩) (fun hHeld => ?_)
              clear hK K y0 z0 y1 z1
              replace hz_e := hide (ro_set2' (x0 := .int .i64 m1) (x1 := .int .i64 m2) hz_e.out)
              replace hz_p := hide (ro_away2 (g' := g_e) (a := .int .i64 m1) (b := .int .i64 m2) hz_p.out (by omega))
              replace hz_c := hide (ro_away2 (g' := g_e) (a := .int .i64 m1) (b := .int .i64 m2) hz_c.out (by omega))
              generalize ((v22.setCell ⟨g_e, 0, none⟩ (.int .i64 m1)).setCell ⟨g_e, 1, none⟩ (.int .i64 m2)) = v23 at *
              try simp only [Act.put, List.setIfInBounds_toArray, List.set_cons_zero, List.set_cons_succ]
              refine wpAnyH_done (by kernel_rfl) ?_ _
              go_wp2_with fail
              go_meet
              exact ⟨_, _, rfl, rfl, hz_c.out, hz_e.out, hz_p.out, hHeld.2.out⟩
      · go_simp
        have lzv24 := hHeld.2.out.size
        have lbv24_0 := hHeld.1.out.lt
        have lov24_p := hz_p.out.lt
        have lov24_e := hz_e.out.lt
        have hz_c := hide (Ro.new v19 #[.int .i64 0, .int .i64 0] 38)
        replace hz_p := hide (hz_p.out.alloc (.cells #[.int .i64 0, .int .i64 0] 38))
        replace hz_e := hide (hz_e.out.alloc (.cells #[.int .i64 0, .int .i64 0] 38))
        refine hK.out _ _ (⟨hide (hHeld.1.out.alloc _), hide (bl_alloc hHeld.2.out _)⟩) (fun hHeld => ?_)
        clear hK K
        generalize v19.heap.size = g_c at *
        generalize v19.alloc (.cells #[.int .i64 0, .int .i64 0] 38) = v24 at *
        try simp only [Act.put, List.setIfInBounds_toArray, List.set_cons_zero, List.set_cons_succ]
        refine wpAnyH_ready (rs := [6]) (by kernel_rfl) (by simp) ?_
        refine AllReadyH.cons rfl (fun K hK => ?_) (AllReadyH.nil)
        · go_simp
          refine (I1.out _).mono ?_
          rintro e v25 ⟨rfl, h1'⟩
          replace hz_p := hide (hz_p.out.below h1')
          replace hz_e := hide (hz_e.out.below h1')
          replace hz_c := hide (hz_c.out.below h1')
          refine hK.out _ _ (⟨hide (hHeld.1.out.below h1'), hide (bel_next hHeld.2.out h1')⟩) (fun hHeld => ?_)
          clear hK K h1'
          try simp only [Act.put, List.setIfInBounds_toArray, List.set_cons_zero, List.set_cons_succ]
          refine wpAnyH_ready (rs := [9]) (by kernel_rfl) (by simp) ?_
          refine AllReadyH.cons rfl (fun K hK => ?_) (AllReadyH.nil)
          · obtain ⟨y0, z0⟩ := ro_cf hz_c.out 0 _ rfl; obtain ⟨y1, z1⟩ := ro_cf hz_c.out 1 _ rfl
            go_simp
            refine hK.out _ _ (⟨hide (ro_away2 (g' := g_c) hHeld.1.out (by omega)), hide (bl_set2 (g := g_c) hHeld.2.out (by omega))⟩) (fun hHeld => ?_)
            clear hK K y0 z0 y1 z1
            replace hz_c := hide (ro_set2' (x0 := .int .i64 (a + 146097)) (x1 := .int .i64 b) hz_c.out)
            replace hz_p := hide (ro_away2 (g' := g_c) (a := .int .i64 (a + 146097)) (b := .int .i64 b) hz_p.out (by omega))
            replace hz_e := hide (ro_away2 (g' := g_c) (a := .int .i64 (a + 146097)) (b := .int .i64 b) hz_e.out (by omega))
            generalize ((v25.setCell ⟨g_c, 0, none⟩ (.int .i64 (a + 146097))).setCell ⟨g_c, 1, none⟩ (.int .i64 b)) = v26 at *
            try simp only [Act.put, List.setIfInBounds_toArray, List.set_cons_zero, List.set_cons_succ]
            refine wpAnyH_ready (rs := [10]) (by kernel_rfl) (by simp) ?_
            refine AllReadyH.cons rfl (fun K hK => ?_) (AllReadyH.nil)
            · obtain ⟨y0, z0⟩ := ro_cf hz_e.out 0 _ rfl; obtain ⟨y1, z1⟩ := ro_cf hz_e.out 1 _ rfl
              go_simp
              refine hK.out _ _ (⟨hide (ro_away2 (g' := g_e) hHeld.1.out (by omega)), hide (bl_set2 (g := g_e) hHeld.2.out (by omega))⟩) (fun hHeld => ?_)
              clear hK K y0 z0 y1 z1
              replace hz_e := hide (ro_set2' (x0 := .int .i64 m1) (x1 := .int .i64 m2) hz_e.out)
              replace hz_p := hide (ro_away2 (g' := g_e) (a := .int .i64 m1) (b := .int .i64 m2) hz_p.out (by omega))
              replace hz_c := hide (ro_away2 (g' := g_e) (a := .int .i64 m1) (b := .int .i64 m2) hz_c.out (by omega))
              generalize ((v26.setCell ⟨g_e, 0, none⟩ (.int .i64 m1)).setCell ⟨g_e, 1, none⟩ (.int .i64 m2)) = v27 at *
              try simp only [Act.put, List.setIfInBounds_toArray, List.set_cons_zero, List.set_cons_succ]
              refine wpAnyH_done (by kernel_rfl) ?_ _
              go_wp2_with fail
              go_meet
              exact ⟨_, _, rfl, rfl, hz_c.out, hz_e.out, hz_p.out, hHeld.2.out⟩
  clear hR hb hz_p
  obtain ⟨g3, g4, rfl, rfl, h3, h4, hp, hb⟩ := hcut
  rename World => w1
  obtain ⟨x0, _⟩ := ro_cf h3 0 (.int .i64 (a + 146097)) rfl
  obtain ⟨x1, _⟩ := ro_cf h3 1 (.int .i64 b) rfl
  obtain ⟨x2, _⟩ := ro_cf h4 0 (.int .i64 m1) rfl
  obtain ⟨x3, _⟩ := ro_cf h4 1 (.int .i64 m2) rfl
  replace h3 := hide h3
  replace h4 := hide h4
  replace hp := hide hp
  replace hb := hide hb
  go_wp2_with fail
  refine (C1.out _).mono ?_
  rintro e w2 ⟨rfl, h5⟩
  clear x0 x1 x2 x3
  replace h3 := hide (h3.out.below h5)
  replace h4 := hide (h4.out.below h5)
  replace hp := hide (hp.out.below h5)
  replace hb := hide (bel_next hb.out h5)
  clear h5
  by_cases h : 0 < v
  · obtain ⟨rfl, rfl⟩ := hy.out h
    obtain ⟨x0, _⟩ := ro_cf h4.out 0 (.int .i64 r1) rfl
    obtain ⟨x1, _⟩ := ro_cf h4.out 1 (.int .i64 r2) rfl
    obtain ⟨p0, z0⟩ := ro_cf hp.out 0 (.int .i64 0) rfl
    obtain ⟨p1, z1⟩ := ro_cf hp.out 1 (.int .i64 0) rfl
    go_wp2_with fail
    have rr := ro_set2 (a := .int .i64 r1) (b := .int .i64 r2) hp.out
    have hb2 := bl_set2 (a := .int .i64 r1) (b := .int .i64 r2) hb.out (g := w.heap.size + 1) (by omega)
    obtain ⟨y0, _⟩ := ro_cf rr 0 (.int .i64 r1) rfl
    obtain ⟨y1, _⟩ := ro_cf rr 1 (.int .i64 r2) rfl
    generalize (w2.setCell ⟨w.heap.size + 1, 0, none⟩ (.int .i64 r1)).setCell ⟨w.heap.size + 1, 1, none⟩ (.int .i64 r2) = w7 at *
    clear x0 x1 p0 p1 z0 z1
    refine bodyPost_ret (v := .agg #[.int .i64 r1, .int .i64 r2]) (by simp [results, Tryz.results29, go_sem, y0, y1]) rfl ⟨rfl, hb2⟩
  · obtain ⟨rfl, rfl⟩ := hn.out (by omega)
    obtain ⟨x0, _⟩ := ro_cf h3.out 0 (.int .i64 (a + 146097)) rfl
    obtain ⟨x1, _⟩ := ro_cf h3.out 1 (.int .i64 r2) rfl
    obtain ⟨p0, z0⟩ := ro_cf hp.out 0 (.int .i64 0) rfl
    obtain ⟨p1, z1⟩ := ro_cf hp.out 1 (.int .i64 0) rfl
    go_wp2_with fail
    have rr := ro_set2 (a := .int .i64 (a + 146097)) (b := .int .i64 r2) hp.out
    have hb2 := bl_set2 (a := .int .i64 (a + 146097)) (b := .int .i64 r2) hb.out (g := w.heap.size + 1) (by omega)
    obtain ⟨y0, _⟩ := ro_cf rr 0 (.int .i64 (a + 146097)) rfl
    obtain ⟨y1, _⟩ := ro_cf rr 1 (.int .i64 r2) rfl
    generalize (w2.setCell ⟨w.heap.size + 1, 0, none⟩ (.int .i64 (a + 146097))).setCell ⟨w.heap.size + 1, 1, none⟩ (.int .i64 r2) = w7 at *
    clear x0 x1 p0 p1 z0 z1
    refine bodyPost_ret (v := .agg #[.int .i64 (a + 146097), .int .i64 r2]) (by simp [results, Tryz.results29, go_sem, y0, y1]) rfl ⟨rfl, hb2⟩
set_option maxHeartbeats 2000000 in
theorem seconds_ (x y : Int) (w : World) (h0 : 0 ≤ y - x) (h1 : y - x ≤ 12622780800) (x0 : -9223372036854775808 ≤ x) (x1 : y < 9223372036854775808) : Calls Tryz.prog 31 #[vin x, vin y] w fun e w' => e = .returned (.int .i64 (y - x)) ∧ Below w.heap.size w w' := by
  have k : y - x = (y / 86400 - x / 86400) * 86400 + (y % 86400 - x % 86400) := by omega
  have f1 : IntKind.i64.wrap (y / 86400 - x / 86400) = y / 86400 - x / 86400 := by rw [IntKind.wrap_i64]; omega
  have f2 : IntKind.i64.wrap ((y / 86400 - x / 86400) * 86400) = (y / 86400 - x / 86400) * 86400 := by rw [IntKind.wrap_i64]; omega
  have f3 : IntKind.i64.wrap (y % 86400 - x % 86400) = y % 86400 - x % 86400 := by rw [IntKind.wrap_i64]; omega
  have f4 : IntKind.i64.wrap ((y / 86400 - x / 86400) * 86400 + (y % 86400 - x % 86400)) = (y / 86400 - x / 86400) * 86400 + (y % 86400 - x % 86400) := by rw [IntKind.wrap_i64]; omega
  rw [k]
  clear k h0 h1 x0 x1
  unfold vin cin
  generalize y / 86400 = c at *
  generalize y % 86400 = d at *
  generalize x / 86400 = a at *
  generalize x % 86400 = b at *
  have hb := hide (bl_alloc (bl_new w (.cells #[.int .i64 a, .int .i64 b] 38)) (.cells #[.int .i64 c, .int .i64 d] 38))
  go_enter Tryz.func31, Tryz.ntmps31
  go_wp2
  go_ret
  exact ⟨rfl, hb.out⟩
end te_
end Go.Proofs.YtdhogpcoegfopaaGreatDoor
