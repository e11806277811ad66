/-
  CONTRACTS OF PACKAGE tzeval, as it landed at 52ef5f9: Next. Conditions: valid rule days and offsets, a time of 64 bits, the tables' fact.
-/
import Derived.Test.YtdhogpcoegfopaaGreatDoorTed
import Derived.WalkMore
namespace Go.Proofs.YtdhogpcoegfopaaGreatDoor
open Go.ChangeShapes Go.WideShapes Go.ChangeAt Go.RowKit Go.Shelf
set_option linter.unusedVariables false
set_option maxRecDepth 100000
attribute [local go_sem] Oper.semAt_some
namespace te_
set_option maxHeartbeats 8000000 in
theorem Next_no (std : ByteArray) (so : Int) (dst : ByteArray) (dof : Int) (st en : RD) (t : Int) (w : World) (h0 : -9223372036854775808 ≤ t) (h1 : t < 9223372036854775808) :
    Calls Tryz.prog 12 #[.agg (crule std so false dst dof st en), .int .i64 t] w fun e w' => e = .returned (.tuple #[.int .i64 0, .bool false]) ∧ Below w.heap.size w w' := by
  obtain ⟨cs, hcs⟩ : ∃ cs, crule std so false dst dof st en = cs := ⟨_, rfl⟩
  have e2 : cs[2]? = some (.bool false) := by rw [← hcs]; rfl
  rw [hcs]
  clear hcs
  have hA := hide (((((Ro.new w cs 25).alloc (.cells #[.int .i64 t] 2)).alloc (.cells #[.int .i64 0] 2))).alloc (.cells #[.bool false] 4))
  have hP := hide (show Ro ((((w.alloc (.cells cs 25)).alloc (.cells #[.int .i64 t] 2)).alloc (.cells #[.int .i64 0] 2)).alloc (.cells #[.bool false] 4)) (w.heap.size + 1) #[.int .i64 t] 2 by have := ((Ro.new (w.alloc (.cells cs 25)) #[.int .i64 t] 2).alloc (.cells #[.int .i64 0] 2)).alloc (.cells #[.bool false] 4); simpa using this)
  have h4 := hide (show Ro ((((w.alloc (.cells cs 25)).alloc (.cells #[.int .i64 t] 2)).alloc (.cells #[.int .i64 0] 2)).alloc (.cells #[.bool false] 4)) (w.heap.size + 1 + 1) #[.int .i64 0] 2 by have := (Ro.new ((w.alloc (.cells cs 25)).alloc (.cells #[.int .i64 t] 2)) #[.int .i64 0] 2).alloc (.cells #[.bool false] 4); simpa using this)
  have h5 := hide (show Ro ((((w.alloc (.cells cs 25)).alloc (.cells #[.int .i64 t] 2)).alloc (.cells #[.int .i64 0] 2)).alloc (.cells #[.bool false] 4)) (w.heap.size + 1 + 1 + 1) #[.bool false] 4 by have := Ro.new (((w.alloc (.cells cs 25)).alloc (.cells #[.int .i64 t] 2)).alloc (.cells #[.int .i64 0] 2)) #[.bool false] 4; simpa using this)
  have hb := hide (bl_alloc (bl_alloc (bl_alloc (bl_new w (.cells cs 25)) (.cells #[.int .i64 t] 2)) (.cells #[.int .i64 0] 2)) (.cells #[.bool false] 4))
  go_enter Tryz.func12, Tryz.ntmps12
  go_upto_region 1 with fail
  generalize (((w.alloc (.cells cs 25)).alloc (.cells #[.int .i64 t] 2)).alloc (.cells #[.int .i64 0] 2)).alloc (.cells #[.bool false] 4) = u at *
  obtain ⟨x2, _⟩ := ro_cf hA.out 2 _ e2
  obtain ⟨y4, z4⟩ := ro_cf h4.out 0 (.int .i64 0) rfl
  obtain ⟨y5, z5⟩ := ro_cf h5.out 0 (.bool false) rfl
  go_step3
  go_wp2_with fail
  have k4 := ro_away1 (g' := w.heap.size + 1 + 1 + 1) (a := .bool false) (ro_set1' (x0 := .int .i64 0) h4.out) (by omega)
  have k5 := ro_set1' (x0 := .bool false) (ro_away1 (g' := w.heap.size + 1 + 1) (a := .int .i64 0) h5.out (by omega))
  have hb2 := bl_set1 (a := .bool false) (g := w.heap.size + 1 + 1 + 1) (bl_set1 (a := .int .i64 0) (g := w.heap.size + 1 + 1) hb.out (by omega)) (by omega)
  obtain ⟨c4, _⟩ := ro_cf k4 0 (.int .i64 0) rfl
  obtain ⟨c5, _⟩ := ro_cf k5 0 (.bool false) rfl
  generalize (u.setCell ⟨w.heap.size + 1 + 1, 0, none⟩ (.int .i64 0)).setCell ⟨w.heap.size + 1 + 1 + 1, 0, none⟩ (.bool false) = w7 at *
  clear x2 y4 z4 y5 z5
  rw [Exit.noGoto_ret]
  refine bodyPost_ret (v := .tuple #[.int .i64 0, .bool false]) (by simp [results, Tryz.results12, go_sem, c4, c5]) rfl ⟨rfl, hb2⟩
/-- a region that does not panic: the way out by a panic is struck from what stands behind it. -/
def calm (K : Act → World → Prop) : Exit → Act → World → Prop
  | .normal, a, w => K a w
  | _, _, _ => False
theorem wp_calm {P : Program} {c : Code} {K : Act → World → Prop} {Q : Exit → Act → World → Prop} {a : Act} {w : World} (h : c.wp P (calm K) a w) : c.wp P (Exit.then K Q) a w :=
  wp_mono h (fun e a w h => by cases e <;> first | exact h | exact h.elim)
/-- what is true of the elements that Next's loop has passed, and of the one at which it stops. -/
def NxC (t : Int) (pre : List (Int × Bool)) : Prop := ∃ p x, pre = p ++ [x] ∧ hzn t < x.1 ∧ Kp t (hzn t) p
def NxR (t n : Int) (pre : List (Int × Bool)) : Prop := ∃ p x, pre = p ++ [x] ∧ t < x.1 ∧ x.1 ≤ hzn t ∧ x.2 ≠ lastSt p ∧ Kp t (hzn t) p ∧ n = x.1
/-- what Next's variables hold between two rounds. -/
def NI (gN gD gH B : Nat) (n1 n2 m1 m2 t : Int) (b : Bool) (r : Int) (ok : Bool) (W : World) : Prop :=
  Ro W gN #[.int .i64 n1, .int .i64 n2] 38 ∧ Ro W gD #[.bool b] 4 ∧ Ro W gH #[.int .i64 m1, .int .i64 m2] 38 ∧ Ro W (B + 1) #[.int .i64 t] 2 ∧ Ro W (B + 1 + 1) #[.int .i64 r] 2 ∧ Ro W (B + 1 + 1 + 1) #[.bool ok] 4
theorem NI.keep {gN gD gH B : Nat} {n1 n2 m1 m2 t r : Int} {b ok : Bool} {W W' : World} {row : Option Nat} (h : NI gN gD gH B n1 n2 m1 m2 t b r ok W) (hg : W.grownBy W' row) (hr : ∀ r, row = some r → ∃ o : Obj, W.heap[r]? = some o ∧ o.isCells = false) : NI gN gD gH B n1 n2 m1 m2 t b r ok W' :=
  ⟨ro_keep h.1 hg hr, ro_keep h.2.1 hg hr, ro_keep h.2.2.1 hg hr, ro_keep h.2.2.2.1 hg hr, ro_keep h.2.2.2.2.1 hg hr, ro_keep h.2.2.2.2.2 hg hr⟩
theorem NI.below {gN gD gH B : Nat} {n1 n2 m1 m2 t r : Int} {b ok : Bool} {W W' : World} (h : NI gN gD gH B n1 n2 m1 m2 t b r ok W) (hb : Below W.heap.size W W') : NI gN gD gH B n1 n2 m1 m2 t b r ok W' :=
  ⟨h.1.below hb, h.2.1.below hb, h.2.2.1.below hb, h.2.2.2.1.below hb, h.2.2.2.2.1.below hb, h.2.2.2.2.2.below hb⟩
theorem NI.setD {gN gD gH B : Nat} {n1 n2 m1 m2 t r : Int} {b ok : Bool} {W : World} (h : NI gN gD gH B n1 n2 m1 m2 t b r ok W) (d : Bool) (h1 : gD ≠ gN) (h2 : gD ≠ gH) (h3 : B + 4 ≤ gD) : NI gN gD gH B n1 n2 m1 m2 t d r ok (W.setCell ⟨gD, 0, none⟩ (.bool d)) :=
  ⟨ro_away1 (g' := gD) h.1 h1, ro_set1' h.2.1, ro_away1 (g' := gD) h.2.2.1 h2, ro_away1 (g' := gD) h.2.2.2.1 (by omega), ro_away1 (g' := gD) h.2.2.2.2.1 (by omega), ro_away1 (g' := gD) h.2.2.2.2.2 (by omega)⟩
theorem NI.setR {gN gD gH B : Nat} {n1 n2 m1 m2 t r : Int} {b ok : Bool} {W : World} (h : NI gN gD gH B n1 n2 m1 m2 t b r ok W) (r' : Int) (ok' : Bool) (h1 : B + 4 ≤ gN) (h2 : B + 4 ≤ gD) (h3 : B + 4 ≤ gH) :
    NI gN gD gH B n1 n2 m1 m2 t b r' ok' ((W.setCell ⟨B + 1 + 1, 0, none⟩ (.int .i64 r')).setCell ⟨B + 1 + 1 + 1, 0, none⟩ (.bool ok')) :=
  have k : ∀ {g : Nat} {vs : Array Value} {T : TypeId}, Ro W g vs T → g ≠ B + 1 + 1 → g ≠ B + 1 + 1 + 1 → Ro ((W.setCell ⟨B + 1 + 1, 0, none⟩ (.int .i64 r')).setCell ⟨B + 1 + 1 + 1, 0, none⟩ (.bool ok')) g vs T := fun h a b => ro_away1 (ro_away1 h (Ne.symm a)) (Ne.symm b)
  ⟨k h.1 (by omega) (by omega), k h.2.1 (by omega) (by omega), k h.2.2.1 (by omega) (by omega), k h.2.2.2.1 (by omega) (by omega), ro_away1 (ro_set1' h.2.2.2.2.1) (by omega), ro_set1' (ro_away1 h.2.2.2.2.2 (by omega))⟩
theorem ro_put {W : World} {g D : Nat} {vs : Array Value} {T : TypeId} {o o' : Obj} (h : Ro W g vs T) (hD : W.heap[D]? = some o) (ho : o.isCells = false) : Ro (W.putObj D o') g vs T := ro_keep h (grownBy_putObj' _ D o') (fun r e => by cases e; exact ⟨_, hD, ho⟩)
theorem hzn_lt (t : Int) (h : t < 9223372036854775808) : hzn t ≤ 9223372036854775807 ∧ hzn t ≤ t + 12622780800 ∧ (9223372036854775807 ≤ hzn t ∨ t + 12622780800 ≤ hzn t) := by
  unfold hzn
  split <;> omega
set_option maxHeartbeats 16000000 in
theorem Next_yes (std : ByteArray) (so : Int) (dst : ByteArray) (dof : Int) (st en : RD) (t : Int) (w : World) (hT : Tb w) (h0 : -9223372036854775808 ≤ t) (h1 : t < 9223372036854775808) (hs : rdOk st) (he : rdOk en) (so0 : offOk so) (do0 : offOk dof) :
    Calls Tryz.prog 12 #[.agg (crule std so true dst dof st en), .int .i64 t] w fun e w' => ∃ n ok, nextOk (ruleS true st en so dof) t n ok ∧ e = .returned (.tuple #[.int .i64 n, .bool ok]) ∧ Below w.heap.size w w' := by
  obtain ⟨Y, M, D, hd8, t0, t1, y0, y1⟩ := year64 t h0 h1
  have I1 := hide (fun w => instant_ t w h0 h1)
  have Yr := hide (fun w hT => dt_.YearOf t Y M D w hT h0 h1 hd8)
  have Hz := hide (fun w => horizon_ t w h0 h1)
  have CmH := hide (fun x w => Compare_v x (hzn t) w)
  have CmN := hide (fun x w => Compare_v x t w)
  have Sc := hide (fun x w (a : t < x) (b : x ≤ hzn t) => seconds_ t x w (by omega) (by have := hzn_lt t h1; omega) h0 (by have := hzn_lt t h1; omega))
  have St := hide (fun gF gL gR n₀ n w hT hn0 hF hL hR => stops_ std so dst dof st en (Y - 2) (Y + 402) gF gL gR n₀ n w hT hn0 hF hL hR hs he so0 do0 (by omega) (by omega) (by omega))
  have f1 : IntKind.i64.wrap (Y - 2) = Y - 2 := by rw [IntKind.wrap_i64]; omega
  have f2 : IntKind.i64.wrap (Y + 400) = Y + 400 := by rw [IntKind.wrap_i64]; omega
  have f4 : IntKind.i64.wrap (Y + 402) = Y + 402 := by rw [IntKind.wrap_i64]; omega
  have f3 : IntKind.i64.wrap (Y + 400 + 2) = Y + 402 := by rw [IntKind.wrap_i64]; omega
  have fno := hide (fun hi y z pre (h : Mg st en so dof (Y - 2) hi pre y z) (hc : NxC t pre) => (show nextOk (ruleS true st en so dof) t 0 false by
    obtain ⟨p, x, rfl, hx, hk⟩ := hc
    exact mg_no hs he so0 do0 t0 h hk hx (hzn_lt t h1).2.2))
  have fyes := hide (fun hi y z pre n (h : Mg st en so dof (Y - 2) hi pre y z) (hc : NxR t n pre) => (show nextOk (ruleS true st en so dof) t n true by
    obtain ⟨p, x, rfl, hx, hh, hne, hk, rfl⟩ := hc
    have := hzn_lt t h1
    exact mg_yes hs he so0 do0 t0 h hk hx hne (by omega) (by omega)))
  have non := hide (fun y z pre (h : Mg st en so dof (Y - 2) (Y + 402) pre y z) hd (hp : Kp t (hzn t) pre) => mg_next_end hs he so0 do0 t1 h hd hp (hzn_lt t h1).2.1)
  obtain ⟨n1, hn1⟩ : ∃ a, t / 86400 = a := ⟨_, rfl⟩
  obtain ⟨n2, hn2⟩ : ∃ a, t % 86400 = a := ⟨_, rfl⟩
  have vt : vin t = .agg #[.int .i64 n1, .int .i64 n2] := by unfold vin cin; rw [hn1, hn2]
  obtain ⟨m1, hm1⟩ : ∃ a, hzn t / 86400 = a := ⟨_, rfl⟩
  obtain ⟨m2, hm2⟩ : ∃ a, hzn t % 86400 = a := ⟨_, rfl⟩
  have vh : vin (hzn t) = .agg #[.int .i64 m1, .int .i64 m2] := by unfold vin cin; rw [hm1, hm2]
  simp only [vt, vh] at I1 Hz CmH CmN Sc
  unfold vin cin at CmH CmN Sc
  have G := gr_rule std so true dst dof st en
  obtain ⟨cs, hcs⟩ : ∃ cs, crule std so true dst dof st en = cs := ⟨_, rfl⟩
  have e2 : cs[2]? = some (.bool true) := by rw [← hcs]; rfl
  simp only [hcs] at St G ⊢
  have Mk := hide (fun f l w => changes_ cs G.1 f l w)
  clear hcs hd8 hn1 hn2 hm1 hm2 t0 t1 hs he so0 do0 vt vh y0 y1
  have hA := hide (((((Ro.new w cs 25).alloc (.cells #[.int .i64 t] 2)).alloc (.cells #[.int .i64 0] 2))).alloc (.cells #[.bool false] 4))
  have hP := hide (show Ro ((((w.alloc (.cells cs 25)).alloc (.cells #[.int .i64 t] 2)).alloc (.cells #[.int .i64 0] 2)).alloc (.cells #[.bool false] 4)) (w.heap.size + 1) #[.int .i64 t] 2 by have := ((Ro.new (w.alloc (.cells cs 25)) #[.int .i64 t] 2).alloc (.cells #[.int .i64 0] 2)).alloc (.cells #[.bool false] 4); simpa using this)
  have h4 := hide (show Ro ((((w.alloc (.cells cs 25)).alloc (.cells #[.int .i64 t] 2)).alloc (.cells #[.int .i64 0] 2)).alloc (.cells #[.bool false] 4)) (w.heap.size + 1 + 1) #[.int .i64 0] 2 by have := (Ro.new ((w.alloc (.cells cs 25)).alloc (.cells #[.int .i64 t] 2)) #[.int .i64 0] 2).alloc (.cells #[.bool false] 4); simpa using this)
  have h5 := hide (show Ro ((((w.alloc (.cells cs 25)).alloc (.cells #[.int .i64 t] 2)).alloc (.cells #[.int .i64 0] 2)).alloc (.cells #[.bool false] 4)) (w.heap.size + 1 + 1 + 1) #[.bool false] 4 by have := Ro.new (((w.alloc (.cells cs 25)).alloc (.cells #[.int .i64 t] 2)).alloc (.cells #[.int .i64 0] 2)) #[.bool false] 4; simpa using this)
  have hb := hide (bl_alloc (bl_alloc (bl_alloc (bl_new w (.cells cs 25)) (.cells #[.int .i64 t] 2)) (.cells #[.int .i64 0] 2)) (.cells #[.bool false] 4))
  have HTw := hide hT
  have hT0 := hide hT.1
  clear hT
  refine (callsIn_wide (n := 6)).1 ?_
  refine callsIn_of_wp_marks Tryz.func12 rfl trivial ?_ rfl
  simp only [Tryz.ntmps12, List.size_toArray, List.length_cons, List.length_nil, Nat.reduceAdd, Nat.reduceSub, Array.replicate_succ, Array.replicate_zero, List.push_toArray, List.append_toArray, List.nil_append, List.cons_append]
  refine wpIn_wide.2 ?_
  go_upto_region 1 with fail
  generalize (((w.alloc (.cells cs 25)).alloc (.cells #[.int .i64 t] 2)).alloc (.cells #[.int .i64 0] 2)).alloc (.cells #[.bool false] 4) = u at *
  obtain ⟨x2, _⟩ := ro_cf hA.out 2 _ e2
  go_step3
  go_upto_region 3 with fail
  clear x2
  go_cut [6, 7, 8, 15, 16, 17, 18] from 15 to 18 (fun s6 s7 s8 s15 s16 s17 s18 wx => ∃ gN gD : Nat, s6 = .pointer (some ⟨gN, 0, none⟩) ∧ s7 = .int .i64 Y ∧ s8 = .pointer (some ⟨gD, 0, none⟩) ∧ s15 = .int .i64 t ∧ s16 = .agg #[.int .i64 n1, .int .i64 n2] ∧ s17 = .int .i64 t ∧ s18 = .int .i64 Y ∧ Ro wx gN #[.int .i64 n1, .int .i64 n2] 38 ∧ Ro wx gD #[.bool false] 4 ∧ w.heap.size + 4 ≤ gN ∧ w.heap.size + 4 ≤ gD ∧ gN ≠ gD ∧
    Ro wx w.heap.size cs 25 ∧ Ro wx (w.heap.size + 1) #[.int .i64 t] 2 ∧ Ro wx (w.heap.size + 1 + 1) #[.int .i64 0] 2 ∧ Ro wx (w.heap.size + 1 + 1 + 1) #[.bool false] 4 ∧ Below w.heap.size w wx)
  case first =>
    refine wp_calm ?_
    refine wp_region_held_drew (S := fun w' => Hid (Ro w' (w.heap.size) (cs) 25) ∧ Hid (Ro w' (w.heap.size + 1) (#[.int .i64 t]) 2) ∧ Hid (Ro w' (w.heap.size + 1 + 1) (#[.int .i64 0]) 2) ∧ Hid (Ro w' (w.heap.size + 1 + 1 + 1) (#[.bool false]) 4) ∧ Hid (Below w.heap.size w w')) (by kernel_rfl) (⟨hide hA.out.drew, hide hP.out.drew, hide h4.out.drew, hide h5.out.drew, hide (bl_drew hb.out)⟩) (fun hHeld => ?_)
    generalize u.drew = u0 at *
    refine wpAnyH_takeD (i := 0) (d := (some 15)) (v := ?_) rfl rfl (by kernel_rfl) (by kernel_rfl) (by kernel_rfl) (fun _ _ _ h => h) (Or.inl ⟨by rfl, ?_⟩) (by assumption) ?_
    rotate_left
    · ((intro w hSw; obtain ⟨c0, _⟩ := ro_cf hSw.2.1.out 0 (.int .i64 t) rfl; go_simp) <;> with_reducible rfl)
    try simp only [Act.put, List.setIfInBounds_toArray, List.set_cons_zero, List.set_cons_succ]
    refine wpAnyH_takeD (i := 2) (d := (some 17)) (v := ?_) rfl rfl (by kernel_rfl) (by kernel_rfl) (by kernel_rfl) (fun _ _ _ h => h) (Or.inl ⟨by rfl, ?_⟩) (by assumption) ?_
    rotate_left
    · ((intro w hSw; obtain ⟨c0, _⟩ := ro_cf hSw.2.1.out 0 (.int .i64 t) rfl; go_simp) <;> with_reducible rfl)
    try simp only [Act.put, List.setIfInBounds_toArray, List.set_cons_zero, List.set_cons_succ]
    refine wpAnyH_ready (rs := [1, 4, 5]) (by kernel_rfl) (by simp) ?_
    refine AllReadyH.cons rfl (fun K hK => ?_) (AllReadyH.cons rfl (fun K hK => ?_) (AllReadyH.cons rfl (fun K hK => ?_) (AllReadyH.nil)))
    · go_simp
      refine (I1.out _).mono ?_
      rintro e v1 ⟨rfl, h1'⟩
      refine hK.out _ _ (⟨hide (hHeld.1.out.below h1'), hide (hHeld.2.1.out.below h1'), hide (hHeld.2.2.1.out.below h1'), hide (hHeld.2.2.2.1.out.below h1'), hide (bel_next hHeld.2.2.2.2.out h1')⟩) (fun hHeld => ?_)
      clear hK K h1'
      try simp only [Act.put, List.setIfInBounds_toArray, List.set_cons_zero, List.set_cons_succ]
      refine wpAnyH_ready (rs := [3, 4, 5]) (by kernel_rfl) (by simp) ?_
      refine AllReadyH.cons rfl (fun K hK => ?_) (AllReadyH.cons rfl (fun K hK => ?_) (AllReadyH.cons rfl (fun K hK => ?_) (AllReadyH.nil)))
      · go_simp
        refine (Yr.out _ (HTw.out.below hHeld.2.2.2.2.out)).mono ?_
        rintro e v2 ⟨rfl, h1'⟩
        refine hK.out _ _ (⟨hide (hHeld.1.out.below h1'), hide (hHeld.2.1.out.below h1'), hide (hHeld.2.2.1.out.below h1'), hide (hHeld.2.2.2.1.out.below h1'), hide (bel_next hHeld.2.2.2.2.out h1')⟩) (fun hHeld => ?_)
        clear hK K h1'
        try simp only [Act.put, List.setIfInBounds_toArray, List.set_cons_zero, List.set_cons_succ]
        refine wpAnyH_ready (rs := [4, 5]) (by kernel_rfl) (by simp) ?_
        refine AllReadyH.cons rfl (fun K hK => ?_) (AllReadyH.cons rfl (fun K hK => ?_) (AllReadyH.nil))
        · go_simp
          have lzv3 := hHeld.2.2.2.2.out.size
          have lbv3_0 := hHeld.1.out.lt
          have lbv3_1 := hHeld.2.1.out.lt
          have lbv3_2 := hHeld.2.2.1.out.lt
          have lbv3_3 := hHeld.2.2.2.1.out.lt
          have hz_n := hide (Ro.new v2 #[.int .i64 0, .int .i64 0] 38)
          refine hK.out _ _ (⟨hide (hHeld.1.out.alloc _), hide (hHeld.2.1.out.alloc _), hide (hHeld.2.2.1.out.alloc _), hide (hHeld.2.2.2.1.out.alloc _), hide (bl_alloc hHeld.2.2.2.2.out _)⟩) (fun hHeld => ?_)
          clear hK K
          generalize v2.heap.size = g_n at *
          generalize v2.alloc (.cells #[.int .i64 0, .int .i64 0] 38) = v3 at *
          try simp only [Act.put, List.setIfInBounds_toArray, List.set_cons_zero, List.set_cons_succ]
          refine wpAnyH_ready (rs := [5]) (by kernel_rfl) (by simp) ?_
          refine AllReadyH.cons rfl (fun K hK => ?_) (AllReadyH.nil)
          · go_simp
            have lzv4 := hHeld.2.2.2.2.out.size
            have lbv4_0 := hHeld.1.out.lt
            have lbv4_1 := hHeld.2.1.out.lt
            have lbv4_2 := hHeld.2.2.1.out.lt
            have lbv4_3 := hHeld.2.2.2.1.out.lt
            have lov4_n := hz_n.out.lt
            have hz_d := hide (Ro.new v3 #[.bool false] 4)
            replace hz_n := hide (hz_n.out.alloc (.cells #[.bool false] 4))
            refine hK.out _ _ (⟨hide (hHeld.1.out.alloc _), hide (hHeld.2.1.out.alloc _), hide (hHeld.2.2.1.out.alloc _), hide (hHeld.2.2.2.1.out.alloc _), hide (bl_alloc hHeld.2.2.2.2.out _)⟩) (fun hHeld => ?_)
            clear hK K
            generalize v3.heap.size = g_d at *
            generalize v3.alloc (.cells #[.bool false] 4) = v4 at *
            try simp only [Act.put, List.setIfInBounds_toArray, List.set_cons_zero, List.set_cons_succ]
            refine wpAnyH_ready (rs := [6]) (by kernel_rfl) (by simp) ?_
            refine AllReadyH.cons rfl (fun K hK => ?_) (AllReadyH.nil)
            · obtain ⟨y0, z0⟩ := ro_cf hz_n.out 0 _ rfl; obtain ⟨y1, z1⟩ := ro_cf hz_n.out 1 _ rfl
              go_simp
              refine hK.out _ _ (⟨hide (ro_away2 (g' := g_n) hHeld.1.out (by omega)), hide (ro_away2 (g' := g_n) hHeld.2.1.out (by omega)), hide (ro_away2 (g' := g_n) hHeld.2.2.1.out (by omega)), hide (ro_away2 (g' := g_n) hHeld.2.2.2.1.out (by omega)), hide (bl_set2 (g := g_n) hHeld.2.2.2.2.out (by omega))⟩) (fun hHeld => ?_)
              clear hK K y0 z0 y1 z1
              replace hz_n := hide (ro_set2' (x0 := .int .i64 n1) (x1 := .int .i64 n2) hz_n.out)
              replace hz_d := hide (ro_away2 (g' := g_n) (a := .int .i64 n1) (b := .int .i64 n2) hz_d.out (by omega))
              generalize ((v4.setCell ⟨g_n, 0, none⟩ (.int .i64 n1)).setCell ⟨g_n, 1, none⟩ (.int .i64 n2)) = v5 at *
              try simp only [Act.put, List.setIfInBounds_toArray, List.set_cons_zero, List.set_cons_succ]
              refine wpAnyH_takeD (i := 7) (d := (some 7)) (v := ?_) rfl rfl (by kernel_rfl) (by kernel_rfl) (by kernel_rfl) (fun _ _ _ h => h) (Or.inl ⟨by rfl, ?_⟩) (by assumption) ?_
              rotate_left
              · ((intro w hSw; go_simp) <;> with_reducible rfl)
              try simp only [Act.put, List.setIfInBounds_toArray, List.set_cons_zero, List.set_cons_succ]
              refine wpAnyH_ready (rs := [8]) (by kernel_rfl) (by simp) ?_
              refine AllReadyH.cons rfl (fun K hK => ?_) (AllReadyH.nil)
              · obtain ⟨y0, z0⟩ := ro_cf hz_d.out 0 _ rfl
                go_simp
                refine hK.out _ _ (⟨hide (ro_away1 (g' := g_d) hHeld.1.out (by omega)), hide (ro_away1 (g' := g_d) hHeld.2.1.out (by omega)), hide (ro_away1 (g' := g_d) hHeld.2.2.1.out (by omega)), hide (ro_away1 (g' := g_d) hHeld.2.2.2.1.out (by omega)), hide (bl_set1 (g := g_d) hHeld.2.2.2.2.out (by omega))⟩) (fun hHeld => ?_)
                clear hK K y0 z0
                replace hz_d := hide (ro_set1' (x0 := .bool false) hz_d.out)
                replace hz_n := hide (ro_away1 (g' := g_d) (a := .bool false) hz_n.out (by omega))
                generalize (v5.setCell ⟨g_d, 0, none⟩ (.bool false)) = v6 at *
                try simp only [Act.put, List.setIfInBounds_toArray, List.set_cons_zero, List.set_cons_succ]
                refine wpAnyH_done (by kernel_rfl) ?_ _
                simp only [calm]
                go_wp2_with fail
                go_meet
                exact ⟨_, _, rfl, rfl, rfl, rfl, rfl, rfl, rfl, hz_n.out, hz_d.out, by omega, by omega, by omega, hHeld.1.out, hHeld.2.1.out, hHeld.2.2.1.out, hHeld.2.2.2.1.out, hHeld.2.2.2.2.out⟩
        · go_simp
          have lzv7 := hHeld.2.2.2.2.out.size
          have lbv7_0 := hHeld.1.out.lt
          have lbv7_1 := hHeld.2.1.out.lt
          have lbv7_2 := hHeld.2.2.1.out.lt
          have lbv7_3 := hHeld.2.2.2.1.out.lt
          have hz_d := hide (Ro.new v2 #[.bool false] 4)
          refine hK.out _ _ (⟨hide (hHeld.1.out.alloc _), hide (hHeld.2.1.out.alloc _), hide (hHeld.2.2.1.out.alloc _), hide (hHeld.2.2.2.1.out.alloc _), hide (bl_alloc hHeld.2.2.2.2.out _)⟩) (fun hHeld => ?_)
          clear hK K
          generalize v2.heap.size = g_d at *
          generalize v2.alloc (.cells #[.bool false] 4) = v7 at *
          try simp only [Act.put, List.setIfInBounds_toArray, List.set_cons_zero, List.set_cons_succ]
          refine wpAnyH_ready (rs := [4]) (by kernel_rfl) (by simp) ?_
          refine AllReadyH.cons rfl (fun K hK => ?_) (AllReadyH.nil)
          · go_simp
            have lzv8 := hHeld.2.2.2.2.out.size
            have lbv8_0 := hHeld.1.out.lt
            have lbv8_1 := hHeld.2.1.out.lt
            have lbv8_2 := hHeld.2.2.1.out.lt
            have lbv8_3 := hHeld.2.2.2.1.out.lt
            have lov8_d := hz_d.out.lt
            have hz_n := hide (Ro.new v7 #[.int .i64 0, .int .i64 0] 38)
            replace hz_d := hide (hz_d.out.alloc (.cells #[.int .i64 0, .int .i64 0] 38))
            refine hK.out _ _ (⟨hide (hHeld.1.out.alloc _), hide (hHeld.2.1.out.alloc _), hide (hHeld.2.2.1.out.alloc _), hide (hHeld.2.2.2.1.out.alloc _), hide (bl_alloc hHeld.2.2.2.2.out _)⟩) (fun hHeld => ?_)
            clear hK K
            generalize v7.heap.size = g_n at *
            generalize v7.alloc (.cells #[.int .i64 0, .int .i64 0] 38) = v8 at *
            try simp only [Act.put, List.setIfInBounds_toArray, List.set_cons_zero, List.set_cons_succ]
            refine wpAnyH_ready (rs := [6]) (by kernel_rfl) (by simp) ?_
            refine AllReadyH.cons rfl (fun K hK => ?_) (AllReadyH.nil)
            · obtain ⟨y0, z0⟩ := ro_cf hz_n.out 0 _ rfl; obtain ⟨y1, z1⟩ := ro_cf hz_n.out 1 _ rfl
              go_simp
              refine hK.out _ _ (⟨hide (ro_away2 (g' := g_n) hHeld.1.out (by omega)), hide (ro_away2 (g' := g_n) hHeld.2.1.out (by omega)), hide (ro_away2 (g' := g_n) hHeld.2.2.1.out (by omega)), hide (ro_away2 (g' := g_n) hHeld.2.2.2.1.out (by omega)), hide (bl_set2 (g := g_n) hHeld.2.2.2.2.out (by omega))⟩) (fun hHeld => ?_)
              clear hK K y0 z0 y1 z1
              replace hz_n := hide (ro_set2' (x0 := .int .i64 n1) (x1 := .int .i64 n2) hz_n.out)
              replace hz_d := hide (ro_away2 (g' := g_n) (a := .int .i64 n1) (b := .int .i64 n2) hz_d.out (by omega))
              generalize ((v8.setCell ⟨g_n, 0, none⟩ (.int .i64 n1)).setCell ⟨g_n, 1, none⟩ (.int .i64 n2)) = v9 at *
              try simp only [Act.put, List.setIfInBounds_toArray, List.set_cons_zero, List.set_cons_succ]
              refine wpAnyH_takeD (i := 7) (d := (some 7)) (v := ?_) rfl rfl (by kernel_rfl) (by kernel_rfl) (by kernel_rfl) (fun _ _ _ h => h) (Or.inl ⟨by rfl, ?_⟩) (by assumption) ?_
              rotate_left
              · ((intro w hSw; go_simp) <;> with_reducible rfl)
              try simp only [Act.put, List.setIfInBounds_toArray, List.set_cons_zero, List.set_cons_succ]
              refine wpAnyH_ready (rs := [8]) (by kernel_rfl) (by simp) ?_
              refine AllReadyH.cons rfl (fun K hK => ?_) (AllReadyH.nil)
              · obtain ⟨y0, z0⟩ := ro_cf hz_d.out 0 _ rfl
                go_simp
                refine hK.out _ _ (⟨hide (ro_away1 (g' := g_d) hHeld.1.out (by omega)), hide (ro_away1 (g' := g_d) hHeld.2.1.out (by omega)), hide (ro_away1 (g' := g_d) hHeld.2.2.1.out (by omega)), hide (ro_away1 (g' := g_d) hHeld.2.2.2.1.out (by omega)), hide (bl_set1 (g := g_d) hHeld.2.2.2.2.out (by omega))⟩) (fun hHeld => ?_)
                clear hK K y0 z0
                replace hz_d := hide (ro_set1' (x0 := .bool false) hz_d.out)
                replace hz_n := hide (ro_away1 (g' := g_d) (a := .bool false) hz_n.out (by omega))
                generalize (v9.setCell ⟨g_d, 0, none⟩ (.bool false)) = v10 at *
                try simp only [Act.put, List.setIfInBounds_toArray, List.set_cons_zero, List.set_cons_succ]
                refine wpAnyH_done (by kernel_rfl) ?_ _
                simp only [calm]
                go_wp2_with fail
                go_meet
                exact ⟨_, _, rfl, rfl, rfl, rfl, rfl, rfl, rfl, hz_n.out, hz_d.out, by omega, by omega, by omega, hHeld.1.out, hHeld.2.1.out, hHeld.2.2.1.out, hHeld.2.2.2.1.out, hHeld.2.2.2.2.out⟩
      · go_simp
        have lzv11 := hHeld.2.2.2.2.out.size
        have lbv11_0 := hHeld.1.out.lt
        have lbv11_1 := hHeld.2.1.out.lt
        have lbv11_2 := hHeld.2.2.1.out.lt
        have lbv11_3 := hHeld.2.2.2.1.out.lt
        have hz_n := hide (Ro.new v1 #[.int .i64 0, .int .i64 0] 38)
        refine hK.out _ _ (⟨hide (hHeld.1.out.alloc _), hide (hHeld.2.1.out.alloc _), hide (hHeld.2.2.1.out.alloc _), hide (hHeld.2.2.2.1.out.alloc _), hide (bl_alloc hHeld.2.2.2.2.out _)⟩) (fun hHeld => ?_)
        clear hK K
        generalize v1.heap.size = g_n at *
        generalize v1.alloc (.cells #[.int .i64 0, .int .i64 0] 38) = v11 at *
        try simp only [Act.put, List.setIfInBounds_toArray, List.set_cons_zero, List.set_cons_succ]
        refine wpAnyH_ready (rs := [3, 5]) (by kernel_rfl) (by simp) ?_
        refine AllReadyH.cons rfl (fun K hK => ?_) (AllReadyH.cons rfl (fun K hK => ?_) (AllReadyH.nil))
        · go_simp
          refine (Yr.out _ (HTw.out.below hHeld.2.2.2.2.out)).mono ?_
          rintro e v12 ⟨rfl, h1'⟩
          replace hz_n := hide (hz_n.out.below h1')
          refine hK.out _ _ (⟨hide (hHeld.1.out.below h1'), hide (hHeld.2.1.out.below h1'), hide (hHeld.2.2.1.out.below h1'), hide (hHeld.2.2.2.1.out.below h1'), hide (bel_next hHeld.2.2.2.2.out h1')⟩) (fun hHeld => ?_)
          clear hK K h1'
          try simp only [Act.put, List.setIfInBounds_toArray, List.set_cons_zero, List.set_cons_succ]
          refine wpAnyH_ready (rs := [5]) (by kernel_rfl) (by simp) ?_
          refine AllReadyH.cons rfl (fun K hK => ?_) (AllReadyH.nil)
          · go_simp
            have lzv13 := hHeld.2.2.2.2.out.size
            have lbv13_0 := hHeld.1.out.lt
            have lbv13_1 := hHeld.2.1.out.lt
            have lbv13_2 := hHeld.2.2.1.out.lt
            have lbv13_3 := hHeld.2.2.2.1.out.lt
            have lov13_n := hz_n.out.lt
            have hz_d := hide (Ro.new v12 #[.bool false] 4)
            replace hz_n := hide (hz_n.out.alloc (.cells #[.bool false] 4))
            refine hK.out _ _ (⟨hide (hHeld.1.out.alloc _), hide (hHeld.2.1.out.alloc _), hide (hHeld.2.2.1.out.alloc _), hide (hHeld.2.2.2.1.out.alloc _), hide (bl_alloc hHeld.2.2.2.2.out _)⟩) (fun hHeld => ?_)
            clear hK K
            generalize v12.heap.size = g_d at *
            generalize v12.alloc (.cells #[.bool false] 4) = v13 at *
            try simp only [Act.put, List.setIfInBounds_toArray, List.set_cons_zero, List.set_cons_succ]
            refine wpAnyH_ready (rs := [6]) (by kernel_rfl) (by simp) ?_
            refine AllReadyH.cons rfl (fun K hK => ?_) (AllReadyH.nil)
            · obtain ⟨y0, z0⟩ := ro_cf hz_n.out 0 _ rfl; obtain ⟨y1, z1⟩ := ro_cf hz_n.out 1 _ rfl
              go_simp
              refine hK.out _ _ (⟨hide (ro_away2 (g' := g_n) hHeld.1.out (by omega)), hide (ro_away2 (g' := g_n) hHeld.2.1.out (by omega)), hide (ro_away2 (g' := g_n) hHeld.2.2.1.out (by omega)), hide (ro_away2 (g' := g_n) hHeld.2.2.2.1.out (by omega)), hide (bl_set2 (g := g_n) hHeld.2.2.2.2.out (by omega))⟩) (fun hHeld => ?_)
              clear hK K y0 z0 y1 z1
              replace hz_n := hide (ro_set2' (x0 := .int .i64 n1) (x1 := .int .i64 n2) hz_n.out)
              replace hz_d := hide (ro_away2 (g' := g_n) (a := .int .i64 n1) (b := .int .i64 n2) hz_d.out (by omega))
              generalize ((v13.setCell ⟨g_n, 0, none⟩ (.int .i64 n1)).setCell ⟨g_n, 1, none⟩ (.int .i64 n2)) = v14 at *
              try simp only [Act.put, List.setIfInBounds_toArray, List.set_cons_zero, List.set_cons_succ]
              refine wpAnyH_takeD (i := 7) (d := (some 7)) (v := ?_) rfl rfl (by kernel_rfl) (by kernel_rfl) (by kernel_rfl) (fun _ _ _ h => h) (Or.inl ⟨by rfl, ?_⟩) (by assumption) ?_
              rotate_left
              · ((intro w hSw; go_simp) <;> with_reducible rfl)
              try simp only [Act.put, List.setIfInBounds_toArray, List.set_cons_zero, List.set_cons_succ]
              refine wpAnyH_ready (rs := [8]) (by kernel_rfl) (by simp) ?_
              refine AllReadyH.cons rfl (fun K hK => ?_) (AllReadyH.nil)
              · obtain ⟨y0, z0⟩ := ro_cf hz_d.out 0 _ rfl
                go_simp
                refine hK.out _ _ (⟨hide (ro_away1 (g' := g_d) hHeld.1.out (by omega)), hide (ro_away1 (g' := g_d) hHeld.2.1.out (by omega)), hide (ro_away1 (g' := g_d) hHeld.2.2.1.out (by omega)), hide (ro_away1 (g' := g_d) hHeld.2.2.2.1.out (by omega)), hide (bl_set1 (g := g_d) hHeld.2.2.2.2.out (by omega))⟩) (fun hHeld => ?_)
                clear hK K y0 z0
                replace hz_d := hide (ro_set1' (x0 := .bool false) hz_d.out)
                replace hz_n := hide (ro_away1 (g' := g_d) (a := .bool false) hz_n.out (by omega))
                generalize (v14.setCell ⟨g_d, 0, none⟩ (.bool false)) = v15 at *
                try simp only [Act.put, List.setIfInBounds_toArray, List.set_cons_zero, List.set_cons_succ]
                refine wpAnyH_done (by kernel_rfl) ?_ _
                simp only [calm]
                go_wp2_with fail
                go_meet
                exact ⟨_, _, rfl, rfl, rfl, rfl, rfl, rfl, rfl, hz_n.out, hz_d.out, by omega, by omega, by omega, hHeld.1.out, hHeld.2.1.out, hHeld.2.2.1.out, hHeld.2.2.2.1.out, hHeld.2.2.2.2.out⟩
        · go_simp
          have lzv16 := hHeld.2.2.2.2.out.size
          have lbv16_0 := hHeld.1.out.lt
          have lbv16_1 := hHeld.2.1.out.lt
          have lbv16_2 := hHeld.2.2.1.out.lt
          have lbv16_3 := hHeld.2.2.2.1.out.lt
          have lov16_n := hz_n.out.lt
          have hz_d := hide (Ro.new v11 #[.bool false] 4)
          replace hz_n := hide (hz_n.out.alloc (.cells #[.bool false] 4))
          refine hK.out _ _ (⟨hide (hHeld.1.out.alloc _), hide (hHeld.2.1.out.alloc _), hide (hHeld.2.2.1.out.alloc _), hide (hHeld.2.2.2.1.out.alloc _), hide (bl_alloc hHeld.2.2.2.2.out _)⟩) (fun hHeld => ?_)
          clear hK K
          generalize v11.heap.size = g_d at *
          generalize v11.alloc (.cells #[.bool false] 4) = v16 at *
          try simp only [Act.put, List.setIfInBounds_toArray, List.set_cons_zero, List.set_cons_succ]
          refine wpAnyH_ready (rs := [3]) (by kernel_rfl) (by simp) ?_
          refine AllReadyH.cons rfl (fun K hK => ?_) (AllReadyH.nil)
          · go_simp
            refine (Yr.out _ (HTw.out.below hHeld.2.2.2.2.out)).mono ?_
            rintro e v17 ⟨rfl, h1'⟩
            replace hz_n := hide (hz_n.out.below h1')
            replace hz_d := hide (hz_d.out.below h1')
            refine hK.out _ _ (⟨hide (hHeld.1.out.below h1'), hide (hHeld.2.1.out.below h1'), hide (hHeld.2.2.1.out.below h1'), hide (hHeld.2.2.2.1.out.below h1'), hide (bel_next hHeld.2.2.2.2.out h1')⟩) (fun hHeld => ?_)
            clear hK K h1'
            try simp only [Act.put, List.setIfInBounds_toArray, List.set_cons_zero, List.set_cons_succ]
            refine wpAnyH_ready (rs := [6]) (by kernel_rfl) (by simp) ?_
            refine AllReadyH.cons rfl (fun K hK => ?_) (AllReadyH.nil)
            · obtain ⟨y0, z0⟩ := ro_cf hz_n.out 0 _ rfl; obtain ⟨y1, z1⟩ := ro_cf hz_n.out 1 _ rfl
              go_simp
              refine hK.out _ _ (⟨hide (ro_away2 (g' := g_n) hHeld.1.out (by omega)), hide (ro_away2 (g' := g_n) hHeld.2.1.out (by omega)), hide (ro_away2 (g' := g_n) hHeld.2.2.1.out (by omega)), hide (ro_away2 (g' := g_n) hHeld.2.2.2.1.out (by omega)), hide (bl_set2 (g := g_n) hHeld.2.2.2.2.out (by omega))⟩) (fun hHeld => ?_)
              clear hK K y0 z0 y1 z1
              replace hz_n := hide (ro_set2' (x0 := .int .i64 n1) (x1 := .int .i64 n2) hz_n.out)
              replace hz_d := hide (ro_away2 (g' := g_n) (a := .int .i64 n1) (b := .int .i64 n2) hz_d.out (by omega))
              generalize ((v17.setCell ⟨g_n, 0, none⟩ (.int .i64 n1)).setCell ⟨g_n, 1, none⟩ (.int .i64 n2)) = v18 at *
              try simp only [Act.put, List.setIfInBounds_toArray, List.set_cons_zero, List.set_cons_succ]
              refine wpAnyH_takeD (i := 7) (d := (some 7)) (v := ?_) rfl rfl (by kernel_rfl) (by kernel_rfl) (by kernel_rfl) (fun _ _ _ h => h) (Or.inl ⟨by rfl, ?_⟩) (by assumption) ?_
              rotate_left
              · ((intro w hSw; go_simp) <;> with_reducible rfl)
              try simp only [Act.put, List.setIfInBounds_toArray, List.set_cons_zero, List.set_cons_succ]
              refine wpAnyH_ready (rs := [8]) (by kernel_rfl) (by simp) ?_
              refine AllReadyH.cons rfl (fun K hK => ?_) (AllReadyH.nil)
              · obtain ⟨y0, z0⟩ := ro_cf hz_d.out 0 _ rfl
                go_simp
                refine hK.out _ _ (⟨hide (ro_away1 (g' := g_d) hHeld.1.out (by omega)), hide (ro_away1 (g' := g_d) hHeld.2.1.out (by omega)), hide (ro_away1 (g' := g_d) hHeld.2.2.1.out (by omega)), hide (ro_away1 (g' := g_d) hHeld.2.2.2.1.out (by omega)), hide (bl_set1 (g := g_d) hHeld.2.2.2.2.out (by omega))⟩) (fun hHeld => ?_)
                clear hK K y0 z0
                replace hz_d := hide (ro_set1' (x0 := .bool false) hz_d.out)
                replace hz_n := hide (ro_away1 (g' := g_d) (a := .bool false) hz_n.out (by omega))
                generalize (v18.setCell ⟨g_d, 0, none⟩ (.bool false)) = v19 at *
                try simp only [Act.put, List.setIfInBounds_toArray, List.set_cons_zero, List.set_cons_succ]
                refine wpAnyH_done (by kernel_rfl) ?_ _
                simp only [calm]
                go_wp2_with fail
                go_meet
                exact ⟨_, _, rfl, rfl, rfl, rfl, rfl, rfl, rfl, hz_n.out, hz_d.out, by omega, by omega, by omega, hHeld.1.out, hHeld.2.1.out, hHeld.2.2.1.out, hHeld.2.2.2.1.out, hHeld.2.2.2.2.out⟩
      · go_simp
        have lzv20 := hHeld.2.2.2.2.out.size
        have lbv20_0 := hHeld.1.out.lt
        have lbv20_1 := hHeld.2.1.out.lt
        have lbv20_2 := hHeld.2.2.1.out.lt
        have lbv20_3 := hHeld.2.2.2.1.out.lt
        have hz_d := hide (Ro.new v1 #[.bool false] 4)
        refine hK.out _ _ (⟨hide (hHeld.1.out.alloc _), hide (hHeld.2.1.out.alloc _), hide (hHeld.2.2.1.out.alloc _), hide (hHeld.2.2.2.1.out.alloc _), hide (bl_alloc hHeld.2.2.2.2.out _)⟩) (fun hHeld => ?_)
        clear hK K
        generalize v1.heap.size = g_d at *
        generalize v1.alloc (.cells #[.bool false] 4) = v20 at *
        try simp only [Act.put, List.setIfInBounds_toArray, List.set_cons_zero, List.set_cons_succ]
        refine wpAnyH_ready (rs := [3, 4]) (by kernel_rfl) (by simp) ?_
        refine AllReadyH.cons rfl (fun K hK => ?_) (AllReadyH.cons rfl (fun K hK => ?_) (AllReadyH.nil))
        · go_simp
          refine (Yr.out _ (HTw.out.below hHeld.2.2.2.2.out)).mono ?_
          rintro e v21 ⟨rfl, h1'⟩
          replace hz_d := hide (hz_d.out.below h1')
          refine hK.out _ _ (⟨hide (hHeld.1.out.below h1'), hide (hHeld.2.1.out.below h1'), hide (hHeld.2.2.1.out.below h1'), hide (hHeld.2.2.2.1.out.below h1'), hide (bel_next hHeld.2.2.2.2.out h1')⟩) (fun hHeld => ?_)
          clear hK K h1'
          try simp only [Act.put, List.setIfInBounds_toArray, List.set_cons_zero, List.set_cons_succ]
          refine wpAnyH_ready (rs := [4]) (by kernel_rfl) (by simp) ?_
          refine AllReadyH.cons rfl (fun K hK => ?_) (AllReadyH.nil)
          · go_simp
            have lzv22 := hHeld.2.2.2.2.out.size
            have lbv22_0 := hHeld.1.out.lt
            have lbv22_1 := hHeld.2.1.out.lt
            have lbv22_2 := hHeld.2.2.1.out.lt
            have lbv22_3 := hHeld.2.2.2.1.out.lt
            have lov22_d := hz_d.out.lt
            have hz_n := hide (Ro.new v21 #[.int .i64 0, .int .i64 0] 38)
            replace hz_d := hide (hz_d.out.alloc (.cells #[.int .i64 0, .int .i64 0] 38))
            refine hK.out _ _ (⟨hide (hHeld.1.out.alloc _), hide (hHeld.2.1.out.alloc _), hide (hHeld.2.2.1.out.alloc _), hide (hHeld.2.2.2.1.out.alloc _), hide (bl_alloc hHeld.2.2.2.2.out _)⟩) (fun hHeld => ?_)
            clear hK K
            generalize v21.heap.size = g_n at *
            generalize v21.alloc (.cells #[.int .i64 0, .int .i64 0] 38) = v22 at *
            try simp only [Act.put, List.setIfInBounds_toArray, List.set_cons_zero, List.set_cons_succ]
            refine wpAnyH_ready (rs := [6]) (by kernel_rfl) (by simp) ?_
            refine AllReadyH.cons rfl (fun K hK => ?_) (AllReadyH.nil)
            · obtain ⟨y0, z0⟩ := ro_cf hz_n.out 0 _ rfl; obtain ⟨y1, z1⟩ := ro_cf hz_n.out 1 _ rfl
              go_simp
              refine hK.out _ _ (⟨hide (ro_away2 (g' := g_n) hHeld.1.out (by omega)), hide (ro_away2 (g' := g_n) hHeld.2.1.out (by omega)), hide (ro_away2 (g' := g_n) hHeld.2.2.1.out (by omega)), hide (ro_away2 (g' := g_n) hHeld.2.2.2.1.out (by omega)), hide (bl_set2 (g := g_n) hHeld.2.2.2.2.out (by omega))⟩) (fun hHeld => ?_)
              clear hK K y0 z0 y1 z1
              replace hz_n := hide (ro_set2' (x0 := .int .i64 n1) (x1 := .int .i64 n2) hz_n.out)
              replace hz_d := hide (ro_away2 (g' := g_n) (a := .int .i64 n1) (b := .int .i64 n2) hz_d.out (by omega))
              generalize ((v22.setCell ⟨g_n, 0, none⟩ (.int .i64 n1)).setCell ⟨g_n, 1, none⟩ (.int .i64 n2)) = v23 at *
              try simp only [Act.put, List.setIfInBounds_toArray, List.set_cons_zero, List.set_cons_succ]
              refine wpAnyH_takeD (i := 7) (d := (some 7)) (v := ?_) rfl rfl (by kernel_rfl) (by kernel_rfl) (by kernel_rfl) (fun _ _ _ h => h) (Or.inl ⟨by rfl, ?_⟩) (by assumption) ?_
              rotate_left
              · ((intro w hSw; go_simp) <;> with_reducible rfl)
              try simp only [Act.put, List.setIfInBounds_toArray, List.set_cons_zero, List.set_cons_succ]
              refine wpAnyH_ready (rs := [8]) (by kernel_rfl) (by simp) ?_
              refine AllReadyH.cons rfl (fun K hK => ?_) (AllReadyH.nil)
              · obtain ⟨y0, z0⟩ := ro_cf hz_d.out 0 _ rfl
                go_simp
                refine hK.out _ _ (⟨hide (ro_away1 (g' := g_d) hHeld.1.out (by omega)), hide (ro_away1 (g' := g_d) hHeld.2.1.out (by omega)), hide (ro_away1 (g' := g_d) hHeld.2.2.1.out (by omega)), hide (ro_away1 (g' := g_d) hHeld.2.2.2.1.out (by omega)), hide (bl_set1 (g := g_d) hHeld.2.2.2.2.out (by omega))⟩) (fun hHeld => ?_)
                clear hK K y0 z0
                replace hz_d := hide (ro_set1' (x0 := .bool false) hz_d.out)
                replace hz_n := hide (ro_away1 (g' := g_d) (a := .bool false) hz_n.out (by omega))
                generalize (v23.setCell ⟨g_d, 0, none⟩ (.bool false)) = v24 at *
                try simp only [Act.put, List.setIfInBounds_toArray, List.set_cons_zero, List.set_cons_succ]
                refine wpAnyH_done (by kernel_rfl) ?_ _
                simp only [calm]
                go_wp2_with fail
                go_meet
                exact ⟨_, _, rfl, rfl, rfl, rfl, rfl, rfl, rfl, hz_n.out, hz_d.out, by omega, by omega, by omega, hHeld.1.out, hHeld.2.1.out, hHeld.2.2.1.out, hHeld.2.2.2.1.out, hHeld.2.2.2.2.out⟩
        · go_simp
          have lzv25 := hHeld.2.2.2.2.out.size
          have lbv25_0 := hHeld.1.out.lt
          have lbv25_1 := hHeld.2.1.out.lt
          have lbv25_2 := hHeld.2.2.1.out.lt
          have lbv25_3 := hHeld.2.2.2.1.out.lt
          have lov25_d := hz_d.out.lt
          have hz_n := hide (Ro.new v20 #[.int .i64 0, .int .i64 0] 38)
          replace hz_d := hide (hz_d.out.alloc (.cells #[.int .i64 0, .int .i64 0] 38))
          refine hK.out _ _ (⟨hide (hHeld.1.out.alloc _), hide (hHeld.2.1.out.alloc _), hide (hHeld.2.2.1.out.alloc _), hide (hHeld.2.2.2.1.out.alloc _), hide (bl_alloc hHeld.2.2.2.2.out _)⟩) (fun hHeld => ?_)
          clear hK K
          generalize v20.heap.size = g_n at *
          generalize v20.alloc (.cells #[.int .i64 0, .int .i64 0] 38) = v25 at *
          try simp only [Act.put, List.setIfInBounds_toArray, List.set_cons_zero, List.set_cons_succ]
          refine wpAnyH_ready (rs := [3]) (by kernel_rfl) (by simp) ?_
          refine AllReadyH.cons rfl (fun K hK => ?_) (AllReadyH.nil)
          · go_simp
            refine (Yr.out _ (HTw.out.below hHeld.2.2.2.2.out)).mono ?_
            rintro e v26 ⟨rfl, h1'⟩
            replace hz_d := hide (hz_d.out.below h1')
            replace hz_n := hide (hz_n.out.below h1')
            refine hK.out _ _ (⟨hide (hHeld.1.out.below h1'), hide (hHeld.2.1.out.below h1'), hide (hHeld.2.2.1.out.below h1'), hide (hHeld.2.2.2.1.out.below h1'), hide (bel_next hHeld.2.2.2.2.out h1')⟩) (fun hHeld => ?_)
            clear hK K h1'
            try simp only [Act.put, List.setIfInBounds_toArray, List.set_cons_zero, List.set_cons_succ]
            refine wpAnyH_ready (rs := [6]) (by kernel_rfl) (by simp) ?_
            refine AllReadyH.cons rfl (fun K hK => ?_) (AllReadyH.nil)
            · obtain ⟨y0, z0⟩ := ro_cf hz_n.out 0 _ rfl; obtain ⟨y1, z1⟩ := ro_cf hz_n.out 1 _ rfl
              go_simp
              refine hK.out _ _ (⟨hide (ro_away2 (g' := g_n) hHeld.1.out (by omega)), hide (ro_away2 (g' := g_n) hHeld.2.1.out (by omega)), hide (ro_away2 (g' := g_n) hHeld.2.2.1.out (by omega)), hide (ro_away2 (g' := g_n) hHeld.2.2.2.1.out (by omega)), hide (bl_set2 (g := g_n) hHeld.2.2.2.2.out (by omega))⟩) (fun hHeld => ?_)
              clear hK K y0 z0 y1 z1
              replace hz_n := hide (ro_set2' (x0 := .int .i64 n1) (x1 := .int .i64 n2) hz_n.out)
              replace hz_d := hide (ro_away2 (g' := g_n) (a := .int .i64 n1) (b := .int .i64 n2) hz_d.out (by omega))
              generalize ((v26.setCell ⟨g_n, 0, none⟩ (.int .i64 n1)).setCell ⟨g_n, 1, none⟩ (.int .i64 n2)) = v27 at *
              try simp only [Act.put, List.setIfInBounds_toArray, List.set_cons_zero, List.set_cons_succ]
              refine wpAnyH_takeD (i := 7) (d := (some 7)) (v := ?_) rfl rfl (by kernel_rfl) (by kernel_rfl) (by kernel_rfl) (fun _ _ _ h => h) (Or.inl ⟨by rfl, ?_⟩) (by assumption) ?_
              rotate_left
              · ((intro w hSw; go_simp) <;> with_reducible rfl)
              try simp only [Act.put, List.setIfInBounds_toArray, List.set_cons_zero, List.set_cons_succ]
              refine wpAnyH_ready (rs := [8]) (by kernel_rfl) (by simp) ?_
              refine AllReadyH.cons rfl (fun K hK => ?_) (AllReadyH.nil)
              · obtain ⟨y0, z0⟩ := ro_cf hz_d.out 0 _ rfl
                go_simp
                refine hK.out _ _ (⟨hide (ro_away1 (g' := g_d) hHeld.1.out (by omega)), hide (ro_away1 (g' := g_d) hHeld.2.1.out (by omega)), hide (ro_away1 (g' := g_d) hHeld.2.2.1.out (by omega)), hide (ro_away1 (g' := g_d) hHeld.2.2.2.1.out (by omega)), hide (bl_set1 (g := g_d) hHeld.2.2.2.2.out (by omega))⟩) (fun hHeld => ?_)
                clear hK K y0 z0
                replace hz_d := hide (ro_set1' (x0 := .bool false) hz_d.out)
                replace hz_n := hide (ro_away1 (g' := g_d) (a := .bool false) hz_n.out (by omega))
                generalize (v27.setCell ⟨g_d, 0, none⟩ (.bool false)) = v28 at *
                try simp only [Act.put, List.setIfInBounds_toArray, List.set_cons_zero, List.set_cons_succ]
                refine wpAnyH_done (by kernel_rfl) ?_ _
                simp only [calm]
                go_wp2_with fail
                go_meet
                exact ⟨_, _, rfl, rfl, rfl, rfl, rfl, rfl, rfl, hz_n.out, hz_d.out, by omega, by omega, by omega, hHeld.1.out, hHeld.2.1.out, hHeld.2.2.1.out, hHeld.2.2.2.1.out, hHeld.2.2.2.2.out⟩
    · go_simp
      have lzv29 := hHeld.2.2.2.2.out.size
      have lbv29_0 := hHeld.1.out.lt
      have lbv29_1 := hHeld.2.1.out.lt
      have lbv29_2 := hHeld.2.2.1.out.lt
      have lbv29_3 := hHeld.2.2.2.1.out.lt
      have hz_n := hide (Ro.new u0 #[.int .i64 0, .int .i64 0] 38)
      refine hK.out _ _ (⟨hide (hHeld.1.out.alloc _), hide (hHeld.2.1.out.alloc _), hide (hHeld.2.2.1.out.alloc _), hide (hHeld.2.2.2.1.out.alloc _), hide (bl_alloc hHeld.2.2.2.2.out _)⟩) (fun hHeld => ?_)
      clear hK K
      generalize u0.heap.size = g_n at *
      generalize u0.alloc (.cells #[.int .i64 0, .int .i64 0] 38) = v29 at *
      try simp only [Act.put, List.setIfInBounds_toArray, List.set_cons_zero, List.set_cons_succ]
      refine wpAnyH_ready (rs := [1, 5]) (by kernel_rfl) (by simp) ?_
      refine AllReadyH.cons rfl (fun K hK => ?_) (AllReadyH.cons rfl (fun K hK => ?_) (AllReadyH.nil))
      · go_simp
        refine (I1.out _).mono ?_
        rintro e v30 ⟨rfl, h1'⟩
        replace hz_n := hide (hz_n.out.below h1')
        refine hK.out _ _ (⟨hide (hHeld.1.out.below h1'), hide (hHeld.2.1.out.below h1'), hide (hHeld.2.2.1.out.below h1'), hide (hHeld.2.2.2.1.out.below h1'), hide (bel_next hHeld.2.2.2.2.out h1')⟩) (fun hHeld => ?_)
        clear hK K h1'
        try simp only [Act.put, List.setIfInBounds_toArray, List.set_cons_zero, List.set_cons_succ]
        refine wpAnyH_ready (rs := [3, 5]) (by kernel_rfl) (by simp) ?_
        refine AllReadyH.cons rfl (fun K hK => ?_) (AllReadyH.cons rfl (fun K hK => ?_) (AllReadyH.nil))
        · go_simp
          refine (Yr.out _ (HTw.out.below hHeld.2.2.2.2.out)).mono ?_
          rintro e v31 ⟨rfl, h1'⟩
          replace hz_n := hide (hz_n.out.below h1')
          refine hK.out _ _ (⟨hide (hHeld.1.out.below h1'), hide (hHeld.2.1.out.below h1'), hide (hHeld.2.2.1.out.below h1'), hide (hHeld.2.2.2.1.out.below h1'), hide (bel_next hHeld.2.2.2.2.out h1')⟩) (fun hHeld => ?_)
          clear hK K h1'
          try simp only [Act.put, List.setIfInBounds_toArray, List.set_cons_zero, List.set_cons_succ]
          refine wpAnyH_ready (rs := [5]) (by kernel_rfl) (by simp) ?_
          refine AllReadyH.cons rfl (fun K hK => ?_) (AllReadyH.nil)
          · go_simp
            have lzv32 := hHeld.2.2.2.2.out.size
            have lbv32_0 := hHeld.1.out.lt
            have lbv32_1 := hHeld.2.1.out.lt
            have lbv32_2 := hHeld.2.2.1.out.lt
            have lbv32_3 := hHeld.2.2.2.1.out.lt
            have lov32_n := hz_n.out.lt
            have hz_d := hide (Ro.new v31 #[.bool false] 4)
            replace hz_n := hide (hz_n.out.alloc (.cells #[.bool false] 4))
            refine hK.out _ _ (⟨hide (hHeld.1.out.alloc _), hide (hHeld.2.1.out.alloc _), hide (hHeld.2.2.1.out.alloc _), hide (hHeld.2.2.2.1.out.alloc _), hide (bl_alloc hHeld.2.2.2.2.out _)⟩) (fun hHeld => ?_)
            clear hK K
            generalize v31.heap.size = g_d at *
            generalize v31.alloc (.cells #[.bool false] 4) = v32 at *
            try simp only [Act.put, List.setIfInBounds_toArray, List.set_cons_zero, List.set_cons_succ]
            refine wpAnyH_ready (rs := [6]) (by kernel_rfl) (by simp) ?_
            refine AllReadyH.cons rfl (fun K hK => ?_) (AllReadyH.nil)
            · obtain ⟨y0, z0⟩ := ro_cf hz_n.out 0 _ rfl; obtain ⟨y1, z1⟩ := ro_cf hz_n.out 1 _ rfl
              go_simp
              refine hK.out _ _ (⟨hide (ro_away2 (g' := g_n) hHeld.1.out (by omega)), hide (ro_away2 (g' := g_n) hHeld.2.1.out (by omega)), hide (ro_away2 (g' := g_n) hHeld.2.2.1.out (by omega)), hide (ro_away2 (g' := g_n) hHeld.2.2.2.1.out (by omega)), hide (bl_set2 (g := g_n) hHeld.2.2.2.2.out (by omega))⟩) (fun hHeld => ?_)
              clear hK K y0 z0 y1 z1
              replace hz_n := hide (ro_set2' (x0 := .int .i64 n1) (x1 := .int .i64 n2) hz_n.out)
              replace hz_d := hide (ro_away2 (g' := g_n) (a := .int .i64 n1) (b := .int .i64 n2) hz_d.out (by omega))
              generalize ((v32.setCell ⟨g_n, 0, none⟩ (.int .i64 n1)).setCell ⟨g_n, 1, none⟩ (.int .i64 n2)) = v33 at *
              try simp only [Act.put, List.setIfInBounds_toArray, List.set_cons_zero, List.set_cons_succ]
              refine wpAnyH_takeD (i := 7) (d := (some 7)) (v := ?_) rfl rfl (by kernel_rfl) (by kernel_rfl) (by kernel_rfl) (fun _ _ _ h => h) (Or.inl ⟨by rfl, ?_⟩) (by assumption) ?_
              rotate_left
              · ((intro w hSw; go_simp) <;> with_reducible rfl)
              try simp only [Act.put, List.setIfInBounds_toArray, List.set_cons_zero, List.set_cons_succ]
              refine wpAnyH_ready (rs := [8]) (by kernel_rfl) (by simp) ?_
              refine AllReadyH.cons rfl (fun K hK => ?_) (AllReadyH.nil)
              · obtain ⟨y0, z0⟩ := ro_cf hz_d.out 0 _ rfl
                go_simp
                refine hK.out _ _ (⟨hide (ro_away1 (g' := g_d) hHeld.1.out (by omega)), hide (ro_away1 (g' := g_d) hHeld.2.1.out (by omega)), hide (ro_away1 (g' := g_d) hHeld.2.2.1.out (by omega)), hide (ro_away1 (g' := g_d) hHeld.2.2.2.1.out (by omega)), hide (bl_set1 (g := g_d) hHeld.2.2.2.2.out (by omega))⟩) (fun hHeld => ?_)
                clear hK K y0 z0
                replace hz_d := hide (ro_set1' (x0 := .bool false) hz_d.out)
                replace hz_n := hide (ro_away1 (g' := g_d) (a := .bool false) hz_n.out (by omega))
                generalize (v33.setCell ⟨g_d, 0, none⟩ (.bool false)) = v34 at *
                try simp only [Act.put, List.setIfInBounds_toArray, List.set_cons_zero, List.set_cons_succ]
                refine wpAnyH_done (by kernel_rfl) ?_ _
                simp only [calm]
                go_wp2_with fail
                go_meet
                exact ⟨_, _, rfl, rfl, rfl, rfl, rfl, rfl, rfl, hz_n.out, hz_d.out, by omega, by omega, by omega, hHeld.1.out, hHeld.2.1.out, hHeld.2.2.1.out, hHeld.2.2.2.1.out, hHeld.2.2.2.2.out⟩
        · go_simp
          have lzv35 := hHeld.2.2.2.2.out.size
          have lbv35_0 := hHeld.1.out.lt
          have lbv35_1 := hHeld.2.1.out.lt
          have lbv35_2 := hHeld.2.2.1.out.lt
          have lbv35_3 := hHeld.2.2.2.1.out.lt
          have lov35_n := hz_n.out.lt
          have hz_d := hide (Ro.new v30 #[.bool false] 4)
          replace hz_n := hide (hz_n.out.alloc (.cells #[.bool false] 4))
          refine hK.out _ _ (⟨hide (hHeld.1.out.alloc _), hide (hHeld.2.1.out.alloc _), hide (hHeld.2.2.1.out.alloc _), hide (hHeld.2.2.2.1.out.alloc _), hide (bl_alloc hHeld.2.2.2.2.out _)⟩) (fun hHeld => ?_)
          clear hK K
          generalize v30.heap.size = g_d at *
          generalize v30.alloc (.cells #[.bool false] 4) = v35 at *
          try simp only [Act.put, List.setIfInBounds_toArray, List.set_cons_zero, List.set_cons_succ]
          refine wpAnyH_ready (rs := [3]) (by kernel_rfl) (by simp) ?_
          refine AllReadyH.cons rfl (fun K hK => ?_) (AllReadyH.nil)
          · go_simp
            refine (Yr.out _ (HTw.out.below hHeld.2.2.2.2.out)).mono ?_
            rintro e v36 ⟨rfl, h1'⟩
            replace hz_n := hide (hz_n.out.below h1')
            replace hz_d := hide (hz_d.out.below h1')
            refine hK.out _ _ (⟨hide (hHeld.1.out.below h1'), hide (hHeld.2.1.out.below h1'), hide (hHeld.2.2.1.out.below h1'), hide (hHeld.2.2.2.1.out.below h1'), hide (bel_next hHeld.2.2.2.2.out h1')⟩) (fun hHeld => ?_)
            clear hK K h1'
            try simp only [Act.put, List.setIfInBounds_toArray, List.set_cons_zero, List.set_cons_succ]
            refine wpAnyH_ready (rs := [6]) (by kernel_rfl) (by simp) ?_
            refine AllReadyH.cons rfl (fun K hK => ?_) (AllReadyH.nil)
            · obtain ⟨y0, z0⟩ := ro_cf hz_n.out 0 _ rfl; obtain ⟨y1, z1⟩ := ro_cf hz_n.out 1 _ rfl
              go_simp
              refine hK.out _ _ (⟨hide (ro_away2 (g' := g_n) hHeld.1.out (by omega)), hide (ro_away2 (g' := g_n) hHeld.2.1.out (by omega)), hide (ro_away2 (g' := g_n) hHeld.2.2.1.out (by omega)), hide (ro_away2 (g' := g_n) hHeld.2.2.2.1.out (by omega)), hide (bl_set2 (g := g_n) hHeld.2.2.2.2.out (by omega))⟩) (fun hHeld => ?_)
              clear hK K y0 z0 y1 z1
              replace hz_n := hide (ro_set2' (x0 := .int .i64 n1) (x1 := .int .i64 n2) hz_n.out)
              replace hz_d := hide (ro_away2 (g' := g_n) (a := .int .i64 n1) (b := .int .i64 n2) hz_d.out (by omega))
              generalize ((v36.setCell ⟨g_n, 0, none⟩ (.int .i64 n1)).setCell ⟨g_n, 1, none⟩ (.int .i64 n2)) = v37 at *
              try simp only [Act.put, List.setIfInBounds_toArray, List.set_cons_zero, List.set_cons_succ]
              refine wpAnyH_takeD (i := 7) (d := (some 7)) (v := ?_) rfl rfl (by kernel_rfl) (by kernel_rfl) (by kernel_rfl) (fun _ _ _ h => h) (Or.inl ⟨by rfl, ?_⟩) (by assumption) ?_
              rotate_left
              · ((intro w hSw; go_simp) <;> with_reducible rfl)
              try simp only [Act.put, List.setIfInBounds_toArray, List.set_cons_zero, List.set_cons_succ]
              refine wpAnyH_ready (rs := [8]) (by kernel_rfl) (by simp) ?_
              refine AllReadyH.cons rfl (fun K hK => ?_) (AllReadyH.nil)
              · obtain ⟨y0, z0⟩ := ro_cf hz_d.out 0 _ rfl
                go_simp
                refine hK.out _ _ (⟨hide (ro_away1 (g' := g_d) hHeld.1.out (by omega)), hide (ro_away1 (g' := g_d) hHeld.2.1.out (by omega)), hide (ro_away1 (g' := g_d) hHeld.2.2.1.out (by omega)), hide (ro_away1 (g' := g_d) hHeld.2.2.2.1.out (by omega)), hide (bl_set1 (g := g_d) hHeld.2.2.2.2.out (by omega))⟩) (fun hHeld => ?_)
                clear hK K y0 z0
                replace hz_d := hide (ro_set1' (x0 := .bool false) hz_d.out)
                replace hz_n := hide (ro_away1 (g' := g_d) (a := .bool false) hz_n.out (by omega))
                generalize (v37.setCell ⟨g_d, 0, none⟩ (.bool false)) = v38 at *
                try simp only [Act.put, List.setIfInBounds_toArray, List.set_cons_zero, List.set_cons_succ]
                refine wpAnyH_done (by kernel_rfl) ?_ _
                simp only [calm]
                go_wp2_with fail
                go_meet
                exact ⟨_, _, rfl, rfl, rfl, rfl, rfl, rfl, rfl, hz_n.out, hz_d.out, by omega, by omega, by omega, hHeld.1.out, hHeld.2.1.out, hHeld.2.2.1.out, hHeld.2.2.2.1.out, hHeld.2.2.2.2.out⟩
      · go_simp
        have lzv39 := hHeld.2.2.2.2.out.size
        have lbv39_0 := hHeld.1.out.lt
        have lbv39_1 := hHeld.2.1.out.lt
        have lbv39_2 := hHeld.2.2.1.out.lt
        have lbv39_3 := hHeld.2.2.2.1.out.lt
        have lov39_n := hz_n.out.lt
        have hz_d := hide (Ro.new v29 #[.bool false] 4)
        replace hz_n := hide (hz_n.out.alloc (.cells #[.bool false] 4))
        refine hK.out _ _ (⟨hide (hHeld.1.out.alloc _), hide (hHeld.2.1.out.alloc _), hide (hHeld.2.2.1.out.alloc _), hide (hHeld.2.2.2.1.out.alloc _), hide (bl_alloc hHeld.2.2.2.2.out _)⟩) (fun hHeld => ?_)
        clear hK K
        generalize v29.heap.size = g_d at *
        generalize v29.alloc (.cells #[.bool false] 4) = v39 at *
        try simp only [Act.put, List.setIfInBounds_toArray, List.set_cons_zero, List.set_cons_succ]
        refine wpAnyH_ready (rs := [1]) (by kernel_rfl) (by simp) ?_
        refine AllReadyH.cons rfl (fun K hK => ?_) (AllReadyH.nil)
        · go_simp
          refine (I1.out _).mono ?_
          rintro e v40 ⟨rfl, h1'⟩
          replace hz_n := hide (hz_n.out.below h1')
          replace hz_d := hide (hz_d.out.below h1')
          refine hK.out _ _ (⟨hide (hHeld.1.out.below h1'), hide (hHeld.2.1.out.below h1'), hide (hHeld.2.2.1.out.below h1'), hide (hHeld.2.2.2.1.out.below h1'), hide (bel_next hHeld.2.2.2.2.out h1')⟩) (fun hHeld => ?_)
          clear hK K h1'
          try simp only [Act.put, List.setIfInBounds_toArray, List.set_cons_zero, List.set_cons_succ]
          refine wpAnyH_ready (rs := [3]) (by kernel_rfl) (by simp) ?_
          refine AllReadyH.cons rfl (fun K hK => ?_) (AllReadyH.nil)
          · go_simp
            refine (Yr.out _ (HTw.out.below hHeld.2.2.2.2.out)).mono ?_
            rintro e v41 ⟨rfl, h1'⟩
            replace hz_n := hide (hz_n.out.below h1')
            replace hz_d := hide (hz_d.out.below h1')
            refine hK.out _ _ (⟨hide (hHeld.1.out.below h1'), hide (hHeld.2.1.out.below h1'), hide (hHeld.2.2.1.out.below h1'), hide (hHeld.2.2.2.1.out.below h1'), hide (bel_next hHeld.2.2.2.2.out h1')⟩) (fun hHeld => ?_)
            clear hK K h1'
            try simp only [Act.put, List.setIfInBounds_toArray, List.set_cons_zero, List.set_cons_succ]
            refine wpAnyH_ready (rs := [6]) (by kernel_rfl) (by simp) ?_
            refine AllReadyH.cons rfl (fun K hK => ?_) (AllReadyH.nil)
            · obtain ⟨y0, z0⟩ := ro_cf hz_n.out 0 _ rfl; obtain ⟨y1, z1⟩ := ro_cf hz_n.out 1 _ rfl
              go_simp
              refine hK.out _ _ (⟨hide (ro_away2 (g' := g_n) hHeld.1.out (by omega)), hide (ro_away2 (g' := g_n) hHeld.2.1.out (by omega)), hide (ro_away2 (g' := g_n) hHeld.2.2.1.out (by omega)), hide (ro_away2 (g' := g_n) hHeld.2.2.2.1.out (by omega)), hide (bl_set2 (g := g_n) hHeld.2.2.2.2.out (by omega))⟩) (fun hHeld => ?_)
              clear hK K y0 z0 y1 z1
              replace hz_n := hide (ro_set2' (x0 := .int .i64 n1) (x1 := .int .i64 n2) hz_n.out)
              replace hz_d := hide (ro_away2 (g' := g_n) (a := .int .i64 n1) (b := .int .i64 n2) hz_d.out (by omega))
              generalize ((v41.setCell ⟨g_n, 0, none⟩ (.int .i64 n1)).setCell ⟨g_n, 1, none⟩ (.int .i64 n2)) = v42 at *
              try simp only [Act.put, List.setIfInBounds_toArray, List.set_cons_zero, List.set_cons_succ]
              refine wpAnyH_takeD (i := 7) (d := (some 7)) (v := ?_) rfl rfl (by kernel_rfl) (by kernel_rfl) (by kernel_rfl) (fun _ _ _ h => h) (Or.inl ⟨by rfl, ?_⟩) (by assumption) ?_
              rotate_left
              · ((intro w hSw; go_simp) <;> with_reducible rfl)
              try simp only [Act.put, List.setIfInBounds_toArray, List.set_cons_zero, List.set_cons_succ]
              refine wpAnyH_ready (rs := [8]) (by kernel_rfl) (by simp) ?_
              refine AllReadyH.cons rfl (fun K hK => ?_) (AllReadyH.nil)
              · obtain ⟨y0, z0⟩ := ro_cf hz_d.out 0 _ rfl
                go_simp
                refine hK.out _ _ (⟨hide (ro_away1 (g' := g_d) hHeld.1.out (by omega)), hide (ro_away1 (g' := g_d) hHeld.2.1.out (by omega)), hide (ro_away1 (g' := g_d) hHeld.2.2.1.out (by omega)), hide (ro_away1 (g' := g_d) hHeld.2.2.2.1.out (by omega)), hide (bl_set1 (g := g_d) hHeld.2.2.2.2.out (by omega))⟩) (fun hHeld => ?_)
                clear hK K y0 z0
                replace hz_d := hide (ro_set1' (x0 := .bool false) hz_d.out)
                replace hz_n := hide (ro_away1 (g' := g_d) (a := .bool false) hz_n.out (by omega))
                generalize (v42.setCell ⟨g_d, 0, none⟩ (.bool false)) = v43 at *
                try simp only [Act.put, List.setIfInBounds_toArray, List.set_cons_zero, List.set_cons_succ]
                refine wpAnyH_done (by kernel_rfl) ?_ _
                simp only [calm]
                go_wp2_with fail
                go_meet
                exact ⟨_, _, rfl, rfl, rfl, rfl, rfl, rfl, rfl, hz_n.out, hz_d.out, by omega, by omega, by omega, hHeld.1.out, hHeld.2.1.out, hHeld.2.2.1.out, hHeld.2.2.2.1.out, hHeld.2.2.2.2.out⟩
    · go_simp
      have lzv44 := hHeld.2.2.2.2.out.size
      have lbv44_0 := hHeld.1.out.lt
      have lbv44_1 := hHeld.2.1.out.lt
      have lbv44_2 := hHeld.2.2.1.out.lt
      have lbv44_3 := hHeld.2.2.2.1.out.lt
      have hz_d := hide (Ro.new u0 #[.bool false] 4)
      refine hK.out _ _ (⟨hide (hHeld.1.out.alloc _), hide (hHeld.2.1.out.alloc _), hide (hHeld.2.2.1.out.alloc _), hide (hHeld.2.2.2.1.out.alloc _), hide (bl_alloc hHeld.2.2.2.2.out _)⟩) (fun hHeld => ?_)
      clear hK K
      generalize u0.heap.size = g_d at *
      generalize u0.alloc (.cells #[.bool false] 4) = v44 at *
      try simp only [Act.put, List.setIfInBounds_toArray, List.set_cons_zero, List.set_cons_succ]
      refine wpAnyH_ready (rs := [1, 4]) (by kernel_rfl) (by simp) ?_
      refine AllReadyH.cons rfl (fun K hK => ?_) (AllReadyH.cons rfl (fun K hK => ?_) (AllReadyH.nil))
      · go_simp
        refine (I1.out _).mono ?_
        rintro e v45 ⟨rfl, h1'⟩
        replace hz_d := hide (hz_d.out.below h1')
        refine hK.out _ _ (⟨hide (hHeld.1.out.below h1'), hide (hHeld.2.1.out.below h1'), hide (hHeld.2.2.1.out.below h1'), hide (hHeld.2.2.2.1.out.below h1'), hide (bel_next hHeld.2.2.2.2.out h1')⟩) (fun hHeld => ?_)
        clear hK K h1'
        try simp only [Act.put, List.setIfInBounds_toArray, List.set_cons_zero, List.set_cons_succ]
        refine wpAnyH_ready (rs := [3, 4]) (by kernel_rfl) (by simp) ?_
        refine AllReadyH.cons rfl (fun K hK => ?_) (AllReadyH.cons rfl (fun K hK => ?_) (AllReadyH.nil))
        · go_simp
          refine (Yr.out _ (HTw.out.below hHeld.2.2.2.2.out)).mono ?_
          rintro e v46 ⟨rfl, h1'⟩
          replace hz_d := hide (hz_d.out.below h1')
          refine hK.out _ _ (⟨hide (hHeld.1.out.below h1'), hide (hHeld.2.1.out.below h1'), hide (hHeld.2.2.1.out.below h1'), hide (hHeld.2.2.2.1.out.below h1'), hide (bel_next hHeld.2.2.2.2.out h1')⟩) (fun hHeld => ?_)
          clear hK K h1'
          try simp only [Act.put, List.setIfInBounds_toArray, List.set_cons_zero, List.set_cons_succ]
          refine wpAnyH_ready (rs := [4]) (by kernel_rfl) (by simp) ?_
          refine AllReadyH.cons rfl (fun K hK => ?_) (AllReadyH.nil)
          · go_simp
            have lzv47 := hHeld.2.2.2.2.out.size
            have lbv47_0 := hHeld.1.out.lt
            have lbv47_1 := hHeld.2.1.out.lt
            have lbv47_2 := hHeld.2.2.1.out.lt
            have lbv47_3 := hHeld.2.2.2.1.out.lt
            have lov47_d := hz_d.out.lt
            have hz_n := hide (Ro.new v46 #[.int .i64 0, .int .i64 0] 38)
            replace hz_d := hide (hz_d.out.alloc (.cells #[.int .i64 0, .int .i64 0] 38))
            refine hK.out _ _ (⟨hide (hHeld.1.out.alloc _), hide (hHeld.2.1.out.alloc _), hide (hHeld.2.2.1.out.alloc _), hide (hHeld.2.2.2.1.out.alloc _), hide (bl_alloc hHeld.2.2.2.2.out _)⟩) (fun hHeld => ?_)
            clear hK K
            generalize v46.heap.size = g_n at *
            generalize v46.alloc (.cells #[.int .i64 0, .int .i64 0] 38) = v47 at *
            try simp only [Act.put, List.setIfInBounds_toArray, List.set_cons_zero, List.set_cons_succ]
            refine wpAnyH_ready (rs := [6]) (by kernel_rfl) (by simp) ?_
            refine AllReadyH.cons rfl (fun K hK => ?_) (AllReadyH.nil)
            · obtain ⟨y0, z0⟩ := ro_cf hz_n.out 0 _ rfl; obtain ⟨y1, z1⟩ := ro_cf hz_n.out 1 _ rfl
              go_simp
              refine hK.out _ _ (⟨hide (ro_away2 (g' := g_n) hHeld.1.out (by omega)), hide (ro_away2 (g' := g_n) hHeld.2.1.out (by omega)), hide (ro_away2 (g' := g_n) hHeld.2.2.1.out (by omega)), hide (ro_away2 (g' := g_n) hHeld.2.2.2.1.out (by omega)), hide (bl_set2 (g := g_n) hHeld.2.2.2.2.out (by omega))⟩) (fun hHeld => ?_)
              clear hK K y0 z0 y1 z1
              replace hz_n := hide (ro_set2' (x0 := .int .i64 n1) (x1 := .int .i64 n2) hz_n.out)
              replace hz_d := hide (ro_away2 (g' := g_n) (a := .int .i64 n1) (b := .int .i64 n2) hz_d.out (by omega))
              generalize ((v47.setCell ⟨g_n, 0, none⟩ (.int .i64 n1)).setCell ⟨g_n, 1, none⟩ (.int .i64 n2)) = v48 at *
              try simp only [Act.put, List.setIfInBounds_toArray, List.set_cons_zero, List.set_cons_succ]
              refine wpAnyH_takeD (i := 7) (d := (some 7)) (v := ?_) rfl rfl (by kernel_rfl) (by kernel_rfl) (by kernel_rfl) (fun _ _ _ h => h) (Or.inl ⟨by rfl, ?_⟩) (by assumption) ?_
              rotate_left
              · ((intro w hSw; go_simp) <;> with_reducible rfl)
              try simp only [Act.put, List.setIfInBounds_toArray, List.set_cons_zero, List.set_cons_succ]
              refine wpAnyH_ready (rs := [8]) (by kernel_rfl) (by simp) ?_
              refine AllReadyH.cons rfl (fun K hK => ?_) (AllReadyH.nil)
              · obtain ⟨y0, z0⟩ := ro_cf hz_d.out 0 _ rfl
                go_simp
                refine hK.out _ _ (⟨hide (ro_away1 (g' := g_d) hHeld.1.out (by omega)), hide (ro_away1 (g' := g_d) hHeld.2.1.out (by omega)), hide (ro_away1 (g' := g_d) hHeld.2.2.1.out (by omega)), hide (ro_away1 (g' := g_d) hHeld.2.2.2.1.out (by omega)), hide (bl_set1 (g := g_d) hHeld.2.2.2.2.out (by omega))⟩) (fun hHeld => ?_)
                clear hK K y0 z0
                replace hz_d := hide (ro_set1' (x0 := .bool false) hz_d.out)
                replace hz_n := hide (ro_away1 (g' := g_d) (a := .bool false) hz_n.out (by omega))
                generalize (v48.setCell ⟨g_d, 0, none⟩ (.bool false)) = v49 at *
                try simp only [Act.put, List.setIfInBounds_toArray, List.set_cons_zero, List.set_cons_succ]
                refine wpAnyH_done (by kernel_rfl) ?_ _
                simp only [calm]
                go_wp2_with fail
                go_meet
                exact ⟨_, _, rfl, rfl, rfl, rfl, rfl, rfl, rfl, hz_n.out, hz_d.out, by omega, by omega, by omega, hHeld.1.out, hHeld.2.1.out, hHeld.2.2.1.out, hHeld.2.2.2.1.out, hHeld.2.2.2.2.out⟩
        · go_simp
          have lzv50 := hHeld.2.2.2.2.out.size
          have lbv50_0 := hHeld.1.out.lt
          have lbv50_1 := hHeld.2.1.out.lt
          have lbv50_2 := hHeld.2.2.1.out.lt
          have lbv50_3 := hHeld.2.2.2.1.out.lt
          have lov50_d := hz_d.out.lt
          have hz_n := hide (Ro.new v45 #[.int .i64 0, .int .i64 0] 38)
          replace hz_d := hide (hz_d.out.alloc (.cells #[.int .i64 0, .int .i64 0] 38))
          refine hK.out _ _ (⟨hide (hHeld.1.out.alloc _), hide (hHeld.2.1.out.alloc _), hide (hHeld.2.2.1.out.alloc _), hide (hHeld.2.2.2.1.out.alloc _), hide (bl_alloc hHeld.2.2.2.2.out _)⟩) (fun hHeld => ?_)
          clear hK K
          generalize v45.heap.size = g_n at *
          generalize v45.alloc (.cells #[.int .i64 0, .int .i64 0] 38) = v50 at *
          try simp only [Act.put, List.setIfInBounds_toArray, List.set_cons_zero, List.set_cons_succ]
          refine wpAnyH_ready (rs := [3]) (by kernel_rfl) (by simp) ?_
          refine AllReadyH.cons rfl (fun K hK => ?_) (AllReadyH.nil)
          · go_simp
            refine (Yr.out _ (HTw.out.below hHeld.2.2.2.2.out)).mono ?_
            rintro e v51 ⟨rfl, h1'⟩
            replace hz_d := hide (hz_d.out.below h1')
            replace hz_n := hide (hz_n.out.below h1')
            refine hK.out _ _ (⟨hide (hHeld.1.out.below h1'), hide (hHeld.2.1.out.below h1'), hide (hHeld.2.2.1.out.below h1'), hide (hHeld.2.2.2.1.out.below h1'), hide (bel_next hHeld.2.2.2.2.out h1')⟩) (fun hHeld => ?_)
            clear hK K h1'
            try simp only [Act.put, List.setIfInBounds_toArray, List.set_cons_zero, List.set_cons_succ]
            refine wpAnyH_ready (rs := [6]) (by kernel_rfl) (by simp) ?_
            refine AllReadyH.cons rfl (fun K hK => ?_) (AllReadyH.nil)
            · obtain ⟨y0, z0⟩ := ro_cf hz_n.out 0 _ rfl; obtain ⟨y1, z1⟩ := ro_cf hz_n.out 1 _ rfl
              go_simp
              refine hK.out _ _ (⟨hide (ro_away2 (g' := g_n) hHeld.1.out (by omega)), hide (ro_away2 (g' := g_n) hHeld.2.1.out (by omega)), hide (ro_away2 (g' := g_n) hHeld.2.2.1.out (by omega)), hide (ro_away2 (g' := g_n) hHeld.2.2.2.1.out (by omega)), hide (bl_set2 (g := g_n) hHeld.2.2.2.2.out (by omega))⟩) (fun hHeld => ?_)
              clear hK K y0 z0 y1 z1
              replace hz_n := hide (ro_set2' (x0 := .int .i64 n1) (x1 := .int .i64 n2) hz_n.out)
              replace hz_d := hide (ro_away2 (g' := g_n) (a := .int .i64 n1) (b := .int .i64 n2) hz_d.out (by omega))
              generalize ((v51.setCell ⟨g_n, 0, none⟩ (.int .i64 n1)).setCell ⟨g_n, 1, none⟩ (.int .i64 n2)) = v52 at *
              try simp only [Act.put, List.setIfInBounds_toArray, List.set_cons_zero, List.set_cons_succ]
              refine wpAnyH_takeD (i := 7) (d := (some 7)) (v := ?_) rfl rfl (by kernel_rfl) (by kernel_rfl) (by kernel_rfl) (fun _ _ _ h => h) (Or.inl ⟨by rfl, ?_⟩) (by assumption) ?_
              rotate_left
              · ((intro w hSw; go_simp) <;> with_reducible rfl)
              try simp only [Act.put, List.setIfInBounds_toArray, List.set_cons_zero, List.set_cons_succ]
              refine wpAnyH_ready (rs := [8]) (by kernel_rfl) (by simp) ?_
              refine AllReadyH.cons rfl (fun K hK => ?_) (AllReadyH.nil)
              · obtain ⟨y0, z0⟩ := ro_cf hz_d.out 0 _ rfl
                go_simp
                refine hK.out _ _ (⟨hide (ro_away1 (g' := g_d) hHeld.1.out (by omega)), hide (ro_away1 (g' := g_d) hHeld.2.1.out (by omega)), hide (ro_away1 (g' := g_d) hHeld.2.2.1.out (by omega)), hide (ro_away1 (g' := g_d) hHeld.2.2.2.1.out (by omega)), hide (bl_set1 (g := g_d) hHeld.2.2.2.2.out (by omega))⟩) (fun hHeld => ?_)
                clear hK K y0 z0
                replace hz_d := hide (ro_set1' (x0 := .bool false) hz_d.out)
                replace hz_n := hide (ro_away1 (g' := g_d) (a := .bool false) hz_n.out (by omega))
                generalize (v52.setCell ⟨g_d, 0, none⟩ (.bool false)) = v53 at *
                try simp only [Act.put, List.setIfInBounds_toArray, List.set_cons_zero, List.set_cons_succ]
                refine wpAnyH_done (by kernel_rfl) ?_ _
                simp only [calm]
                go_wp2_with fail
                go_meet
                exact ⟨_, _, rfl, rfl, rfl, rfl, rfl, rfl, rfl, hz_n.out, hz_d.out, by omega, by omega, by omega, hHeld.1.out, hHeld.2.1.out, hHeld.2.2.1.out, hHeld.2.2.2.1.out, hHeld.2.2.2.2.out⟩
      · go_simp
        have lzv54 := hHeld.2.2.2.2.out.size
        have lbv54_0 := hHeld.1.out.lt
        have lbv54_1 := hHeld.2.1.out.lt
        have lbv54_2 := hHeld.2.2.1.out.lt
        have lbv54_3 := hHeld.2.2.2.1.out.lt
        have lov54_d := hz_d.out.lt
        have hz_n := hide (Ro.new v44 #[.int .i64 0, .int .i64 0] 38)
        replace hz_d := hide (hz_d.out.alloc (.cells #[.int .i64 0, .int .i64 0] 38))
        refine hK.out _ _ (⟨hide (hHeld.1.out.alloc _), hide (hHeld.2.1.out.alloc _), hide (hHeld.2.2.1.out.alloc _), hide (hHeld.2.2.2.1.out.alloc _), hide (bl_alloc hHeld.2.2.2.2.out _)⟩) (fun hHeld => ?_)
        clear hK K
        generalize v44.heap.size = g_n at *
        generalize v44.alloc (.cells #[.int .i64 0, .int .i64 0] 38) = v54 at *
        try simp only [Act.put, List.setIfInBounds_toArray, List.set_cons_zero, List.set_cons_succ]
        refine wpAnyH_ready (rs := [1]) (by kernel_rfl) (by simp) ?_
        refine AllReadyH.cons rfl (fun K hK => ?_) (AllReadyH.nil)
        · go_simp
          refine (I1.out _).mono ?_
          rintro e v55 ⟨rfl, h1'⟩
          replace hz_d := hide (hz_d.out.below h1')
          replace hz_n := hide (hz_n.out.below h1')
          refine hK.out _ _ (⟨hide (hHeld.1.out.below h1'), hide (hHeld.2.1.out.below h1'), hide (hHeld.2.2.1.out.below h1'), hide (hHeld.2.2.2.1.out.below h1'), hide (bel_next hHeld.2.2.2.2.out h1')⟩) (fun hHeld => ?_)
          clear hK K h1'
          try simp only [Act.put, List.setIfInBounds_toArray, List.set_cons_zero, List.set_cons_succ]
          refine wpAnyH_ready (rs := [3]) (by kernel_rfl) (by simp) ?_
          refine AllReadyH.cons rfl (fun K hK => ?_) (AllReadyH.nil)
          · go_simp
            refine (Yr.out _ (HTw.out.below hHeld.2.2.2.2.out)).mono ?_
            rintro e v56 ⟨rfl, h1'⟩
            replace hz_d := hide (hz_d.out.below h1')
            replace hz_n := hide (hz_n.out.below h1')
            refine hK.out _ _ (⟨hide (hHeld.1.out.below h1'), hide (hHeld.2.1.out.below h1'), hide (hHeld.2.2.1.out.below h1'), hide (hHeld.2.2.2.1.out.below h1'), hide (bel_next hHeld.2.2.2.2.out h1')⟩) (fun hHeld => ?_)
            clear hK K h1'
            try simp only [Act.put, List.setIfInBounds_toArray, List.set_cons_zero, List.set_cons_succ]
            refine wpAnyH_ready (rs := [6]) (by kernel_rfl) (by simp) ?_
            refine AllReadyH.cons rfl (fun K hK => ?_) (AllReadyH.nil)
            · obtain ⟨y0, z0⟩ := ro_cf hz_n.out 0 _ rfl; obtain ⟨y1, z1⟩ := ro_cf hz_n.out 1 _ rfl
              go_simp
              refine hK.out _ _ (⟨hide (ro_away2 (g' := g_n) hHeld.1.out (by omega)), hide (ro_away2 (g' := g_n) hHeld.2.1.out (by omega)), hide (ro_away2 (g' := g_n) hHeld.2.2.1.out (by omega)), hide (ro_away2 (g' := g_n) hHeld.2.2.2.1.out (by omega)), hide (bl_set2 (g := g_n) hHeld.2.2.2.2.out (by omega))⟩) (fun hHeld => ?_)
              clear hK K y0 z0 y1 z1
              replace hz_n := hide (ro_set2' (x0 := .int .i64 n1) (x1 := .int .i64 n2) hz_n.out)
              replace hz_d := hide (ro_away2 (g' := g_n) (a := .int .i64 n1) (b := .int .i64 n2) hz_d.out (by omega))
              generalize ((v56.setCell ⟨g_n, 0, none⟩ (.int .i64 n1)).setCell ⟨g_n, 1, none⟩ (.int .i64 n2)) = v57 at *
              try simp only [Act.put, List.setIfInBounds_toArray, List.set_cons_zero, List.set_cons_succ]
              refine wpAnyH_takeD (i := 7) (d := (some 7)) (v := ?_) rfl rfl (by kernel_rfl) (by kernel_rfl) (by kernel_rfl) (fun _ _ _ h => h) (Or.inl ⟨by rfl, ?_⟩) (by assumption) ?_
              rotate_left
              · ((intro w hSw; go_simp) <;> with_reducible rfl)
              try simp only [Act.put, List.setIfInBounds_toArray, List.set_cons_zero, List.set_cons_succ]
              refine wpAnyH_ready (rs := [8]) (by kernel_rfl) (by simp) ?_
              refine AllReadyH.cons rfl (fun K hK => ?_) (AllReadyH.nil)
              · obtain ⟨y0, z0⟩ := ro_cf hz_d.out 0 _ rfl
                go_simp
                refine hK.out _ _ (⟨hide (ro_away1 (g' := g_d) hHeld.1.out (by omega)), hide (ro_away1 (g' := g_d) hHeld.2.1.out (by omega)), hide (ro_away1 (g' := g_d) hHeld.2.2.1.out (by omega)), hide (ro_away1 (g' := g_d) hHeld.2.2.2.1.out (by omega)), hide (bl_set1 (g := g_d) hHeld.2.2.2.2.out (by omega))⟩) (fun hHeld => ?_)
                clear hK K y0 z0
                replace hz_d := hide (ro_set1' (x0 := .bool false) hz_d.out)
                replace hz_n := hide (ro_away1 (g' := g_d) (a := .bool false) hz_n.out (by omega))
                generalize (v57.setCell ⟨g_d, 0, none⟩ (.bool false)) = v58 at *
                try simp only [Act.put, List.setIfInBounds_toArray, List.set_cons_zero, List.set_cons_succ]
                refine wpAnyH_done (by kernel_rfl) ?_ _
                simp only [calm]
                go_wp2_with fail
                go_meet
                exact ⟨_, _, rfl, rfl, rfl, rfl, rfl, rfl, rfl, hz_n.out, hz_d.out, by omega, by omega, by omega, hHeld.1.out, hHeld.2.1.out, hHeld.2.2.1.out, hHeld.2.2.2.1.out, hHeld.2.2.2.2.out⟩
  clear hA hP h4 h5 hb
  obtain ⟨gN, gD, rfl, rfl, rfl, rfl, rfl, rfl, rfl, hN, hD, n4, d4, nd, hA, hP, h4, h5, hb⟩ := hcut
  rename World => w1
  obtain ⟨c0, _⟩ := ro_cf hN 0 (.int .i64 n1) rfl
  obtain ⟨c1, _⟩ := ro_cf hN 1 (.int .i64 n2) rfl
  replace hN := hide hN
  replace hD := hide hD
  replace hA := hide hA
  replace hP := hide hP
  replace h4 := hide h4
  replace h5 := hide h5
  replace hb := hide hb
  go_wp2_with fail
  refine (Hz.out _).mono ?_
  rintro e w2 ⟨rfl, h6⟩
  clear c0 c1
  replace hN := hide (hN.out.below h6)
  replace hD := hide (hD.out.below h6)
  replace hA := hide (hA.out.below h6)
  replace hP := hide (hP.out.below h6)
  replace h4 := hide (h4.out.below h6)
  replace h5 := hide (h5.out.below h6)
  replace hb := hide (bel_next hb.out h6)
  clear h6
  go_wp2_with fail
  go_step3
  go_upto_region 5 with fail
  have hH := hide (Ro.new w2 #[.int .i64 m1, .int .i64 m2] 38)
  have dH := hD.out.lt
  have nH := hN.out.lt
  replace hN := hide (hN.out.alloc (.cells #[.int .i64 m1, .int .i64 m2] 38))
  replace hD := hide (hD.out.alloc (.cells #[.int .i64 m1, .int .i64 m2] 38))
  replace hA := hide (hA.out.alloc (.cells #[.int .i64 m1, .int .i64 m2] 38))
  replace hP := hide (hP.out.alloc (.cells #[.int .i64 m1, .int .i64 m2] 38))
  replace h4 := hide (h4.out.alloc (.cells #[.int .i64 m1, .int .i64 m2] 38))
  replace h5 := hide (h5.out.alloc (.cells #[.int .i64 m1, .int .i64 m2] 38))
  replace hb := hide (bl_alloc hb.out (.cells #[.int .i64 m1, .int .i64 m2] 38))
  generalize w2.heap.size = gH at *
  generalize w2.alloc (.cells #[.int .i64 m1, .int .i64 m2] 38) = w3 at *
  go_wp2_with (refine load_row_g (by rfl) 25 _ rfl _ rfl _ _ _ hA.out Tryz.underlying25 rfl G.1 ?_)
  refine (Mk.out _ _ _).mono ?_
  rintro e w4 ⟨rfl, hR, hF, hL, h6⟩
  have sD := hD.out.lt
  have sN := hN.out.lt
  have sH := hH.out.lt
  have s5 := h5.out.lt
  replace hN := hide (hN.out.below h6)
  replace hD := hide (hD.out.below h6)
  replace hH := hide (hH.out.below h6)
  replace hP := hide (hP.out.below h6)
  replace h4 := hide (h4.out.below h6)
  replace h5 := hide (h5.out.below h6)
  replace hb := hide (bel_next hb.out h6)
  have HT := hide (HTw.out.below hb.out)
  clear h6 hA
  generalize w3.heap.size = gR at *
  have sL := hL.lt
  have sB := hb.out.size
  go_wp2_with fail
  refine (wpIn_wide (n := 6)).1 ?_
  refine wpIn_rangeFunc_ownH rfl (by omega) (gf := 49) (lb := #[.pointer (some ⟨gR + 1, 0, none⟩), .pointer (some ⟨gR + 1 + 1, 0, none⟩), .pointer (some ⟨gR, 0, none⟩)]) rfl trivial (enters_of Tryz.func49 (by kernel_rfl) rfl)
    (St.out (gR + 1) (gR + 1 + 1) gR w.heap.size 5 w4 HT.out hT0.out hF hL hR) kpp_t (kpp_b (by omega) (by omega) (by omega)) (Below.refl _ _) (fun _ => rfl)
    (fun pre W => (NI gN gD gH w.heap.size n1 n2 m1 m2 t (lastSt pre) 0 false W ∧ Kp t (hzn t) pre ∧ gR + 1 + 1 < W.heap.size) ∧ Below w.heap.size w W)
    (fun c pre W => ((c = .exit 0 ∧ NxC t pre ∧ ∃ b, NI gN gD gH w.heap.size n1 n2 m1 m2 t b 0 false W) ∨ (c = .ret ∧ ∃ n b, NxR t n pre ∧ NI gN gD gH w.heap.size n1 n2 m1 m2 t b n true W)) ∧ Below w.heap.size w W)
    (fun s A B row hs hg hr => ⟨⟨hs.1.1.keep hg (fun r e => (hr r e).2), hs.1.2.1, Nat.lt_of_lt_of_le hs.1.2.2 hg.size⟩, ownFrom_below (β := Unit) (Nat.le_refl _) (by omega) () A B row hs.2 hg hr⟩)
    (fun c s A B row hs hg hr => ⟨by
      obtain ⟨⟨h1, h2, b, h3⟩ | ⟨h1, n, b, h2, h3⟩, _⟩ := hs
      · exact .inl ⟨h1, h2, b, h3.keep hg (fun r e => (hr r e).2)⟩
      · exact .inr ⟨h1, n, b, h2, h3.keep hg (fun r e => (hr r e).2)⟩, ownFrom_below (β := Unit) (Nat.le_refl _) (by omega) () A B row hs.2 hg hr⟩)
    ⟨⟨⟨hN.out, hD.out, hH.out, hP.out, h4.out, h5.out⟩, .nil, sL⟩, hb.out⟩
    (fun x a' W => ∃ gA, gR + 1 + 1 < gA ∧ Ro W gA (cin x.1) 38 ∧ a' = { tmps := #[.agg cs, .int .i64 t, .pointer (some ⟨w.heap.size, 0, none⟩), .pointer (some ⟨w.heap.size + 1, 0, none⟩), .pointer (some ⟨w.heap.size + 1 + 1, 0, none⟩), .pointer (some ⟨w.heap.size + 1 + 1 + 1, 0, none⟩), .pointer (some ⟨gN, 0, none⟩), .int .i64 Y, .pointer (some ⟨gD, 0, none⟩), .pointer (some ⟨gH, 0, none⟩), .pointer (some ⟨gA, 0, none⟩), .bool x.2, .pointer (some ⟨w.heap.size, 2, none⟩), .bool true, .bool false, .int .i64 t, .agg #[.int .i64 n1, .int .i64 n2], .int .i64 t, .int .i64 Y, .agg #[.int .i64 n1, .int .i64 n2], .agg #[.int .i64 m1, .int .i64 m2], .agg cs, .int .i64 Y, .int .i64 (Y - 2), .int .i64 Y, .int .i64 (Y + 400), .int .i64 (Y + 402), .func (.func 49) #[] #[.pointer (some ⟨gR + 1, 0, none⟩), .pointer (some ⟨gR + 1 + 1, 0, none⟩), .pointer (some ⟨gR, 0, none⟩)], vin x.1, .bool x.2, undef, undef, undef, undef, undef, undef, undef, undef, undef, undef, undef, undef, undef, undef, undef, undef, undef, undef, undef, undef, undef], defers := [] })
    (fun x a' _ A B row hs hg hr => by obtain ⟨gA, h1, h2, h3⟩ := hs; exact ⟨gA, h1, ro_keep h2 hg (fun r e => (hr r e).2), h3⟩)
    ?assign ?body ?done ?stop
  case assign =>
    rintro l pre x W K ⟨⟨hI, hk, sW⟩, hB1⟩ hK
    have s1 := hB1.size
    unfold encC vin cin
    gi_wp2
    exact hK _ _ ((KeepsOthers.alloc _ _).from _) (kpp_below (bl_new W _) s1 sW (by omega)) ⟨⟨hI.below (bl_new W _), hk, by simp; omega⟩, bl_alloc hB1 _⟩ ⟨W.heap.size, sW, Ro.new W _ _, rfl⟩
  case body =>
    rintro l pre x a' W hl ⟨r, hr⟩ ⟨⟨hI, hk, sW⟩, hB1⟩ ⟨gA, hgA, hX, rfl⟩ hlt
    have h1' : 1 ≤ 6 - 1 - 1 := by decide
    have s1 := hB1.size
    obtain ⟨a0, _⟩ := ro_cf hX 0 (.int .i64 (x.1 / 86400)) rfl
    obtain ⟨a1, _⟩ := ro_cf hX 1 (.int .i64 (x.1 % 86400)) rfl
    obtain ⟨c0, _⟩ := ro_cf hI.2.2.1 0 (.int .i64 m1) rfl
    obtain ⟨c1, _⟩ := ro_cf hI.2.2.1 1 (.int .i64 m2) rfl
    have C := CmH.out x.1
    by_cases hx : hzn t < x.1
    · rw [show cmp1 x.1 (hzn t) = 1 by unfold cmp1; rw [if_neg (by omega), if_pos hx]] at C
      gi_wp2_with (refine ⟨trivial, ?_⟩; gi_at_call 16; refine (CallsIn.inRound l (callsIn_wide.2 (C _))).mono ?_; rintro e w6 ⟨rfl, h6⟩)
      exact ⟨(ko_below h6).from _, .inl ⟨rfl, ⟨pre, x, rfl, hx, hk⟩, _, hI.below h6⟩, bel_next hB1 h6⟩
    · have hv : cmp1 x.1 (hzn t) ≤ 0 := by
        unfold cmp1
        by_cases h : x.1 < hzn t
        · rw [if_pos h]; omega
        · rw [if_neg h, if_neg hx]; omega
      generalize cmp1 x.1 (hzn t) = v at *
      gi_wp2_with fail
      refine ⟨trivial, (CallsIn.inRound l (callsIn_wide.2 (C _))).mono ?_⟩
      rintro e w6 ⟨rfl, h6⟩
      clear a0 a1 c0 c1 C
      replace hI := hI.below h6
      replace hX := hX.below h6
      have KF := (ko_below h6)
      have KP : Kpp w.heap.size (gR + 1 + 1) gR W w6 := kpp_below h6 s1 sW (by omega)
      replace hB1 := bel_next hB1 h6
      replace sW := Nat.lt_of_lt_of_le sW h6.size
      clear h6
      obtain ⟨a0, _⟩ := ro_cf hX 0 (.int .i64 (x.1 / 86400)) rfl
      obtain ⟨a1, _⟩ := ro_cf hX 1 (.int .i64 (x.1 % 86400)) rfl
      obtain ⟨c0, _⟩ := ro_cf hI.1 0 (.int .i64 n1) rfl
      obtain ⟨c1, _⟩ := ro_cf hI.1 1 (.int .i64 n2) rfl
      have C := CmN.out x.1
      have s6 := hB1.size
      have hcmp : (x.1 < t ∧ cmp1 x.1 t = -1) ∨ (x.1 = t ∧ cmp1 x.1 t = 0) ∨ (t < x.1 ∧ cmp1 x.1 t = 1) := by
        unfold cmp1
        rcases Int.lt_trichotomy x.1 t with h | h | h
        · exact .inl ⟨h, by rw [if_pos h]⟩
        · exact .inr (.inl ⟨h, by rw [if_neg (by omega), if_neg (by omega)]⟩)
        · exact .inr (.inr ⟨h, by rw [if_neg (by omega), if_pos h]⟩)
      rcases hcmp with ⟨hc, hq⟩ | ⟨hc, hq⟩ | ⟨hc, hq⟩
      all_goals (rw [hq] at C; clear hq; replace hc := hide hc)
      · gi_wp2_with fail
        refine ⟨trivial, (CallsIn.inRound l (callsIn_wide.2 (C _))).mono ?_⟩
        rintro e w7 ⟨rfl, h7⟩
        clear a0 a1 c0 c1 C
        replace hI := hI.below h7
        replace hX := hX.below h7
        replace KF := KF.trans (ko_below h7)
        replace KP := kpp_t KP (kpp_below h7 s6 sW (by omega))
        replace hB1 := bel_next hB1 h7
        replace sW := Nat.lt_of_lt_of_le sW h7.size
        clear h7
        obtain ⟨d0, z0⟩ := ro_cf hI.2.1 0 (.bool (lastSt pre)) rfl
        gi_wp2_with fail
        refine ⟨(KF.trans (KeepsOthers.setCell _ _ _)).from _, kpp_t KP ⟨(Below.refl _ w7).setCell (p := ⟨gD, 0, none⟩) (by simp only []; omega) _, Below.heap_setCell _ _ _ _ (by simp only []; omega), Below.heap_setCell _ _ _ _ (by simp only []; omega)⟩,
          ⟨by rw [lastSt_snoc]; exact hI.setD _ (by omega) (by omega) (by omega), .snoc hk (by omega) (fun h => by have := hc.out; omega), ?_⟩, bl_set1 (g := gD) hB1 (by omega)⟩
        have := (bl_set1 (a := .bool x.2) (g := w7.heap.size) (bl_refl w7) (Nat.le_refl _)).size
        simp only [World.setCell] at *
        simp
        omega
      · gi_wp2_with fail
        refine ⟨trivial, (CallsIn.inRound l (callsIn_wide.2 (C _))).mono ?_⟩
        rintro e w7 ⟨rfl, h7⟩
        clear a0 a1 c0 c1 C
        replace hI := hI.below h7
        replace hX := hX.below h7
        replace KF := KF.trans (ko_below h7)
        replace KP := kpp_t KP (kpp_below h7 s6 sW (by omega))
        replace hB1 := bel_next hB1 h7
        replace sW := Nat.lt_of_lt_of_le sW h7.size
        clear h7
        obtain ⟨d0, z0⟩ := ro_cf hI.2.1 0 (.bool (lastSt pre)) rfl
        gi_wp2_with fail
        refine ⟨(KF.trans (KeepsOthers.setCell _ _ _)).from _, kpp_t KP ⟨(Below.refl _ w7).setCell (p := ⟨gD, 0, none⟩) (by simp only []; omega) _, Below.heap_setCell _ _ _ _ (by simp only []; omega), Below.heap_setCell _ _ _ _ (by simp only []; omega)⟩,
          ⟨by rw [lastSt_snoc]; exact hI.setD _ (by omega) (by omega) (by omega), .snoc hk (by omega) (fun h => by have := hc.out; omega), ?_⟩, bl_set1 (g := gD) hB1 (by omega)⟩
        have := (bl_set1 (a := .bool x.2) (g := w7.heap.size) (bl_refl w7) (Nat.le_refl _)).size
        simp only [World.setCell] at *
        simp
        omega
      · gi_wp2_with fail
        refine ⟨trivial, (CallsIn.inRound l (callsIn_wide.2 (C _))).mono ?_⟩
        rintro e w7 ⟨rfl, h7⟩
        clear a0 a1 c0 c1 C
        replace hI := hI.below h7
        replace hX := hX.below h7
        replace KF := KF.trans (ko_below h7)
        replace KP := kpp_t KP (kpp_below h7 s6 sW (by omega))
        replace hB1 := bel_next hB1 h7
        replace sW := Nat.lt_of_lt_of_le sW h7.size
        clear h7
        obtain ⟨d0, z0⟩ := ro_cf hI.2.1 0 (.bool (lastSt pre)) rfl
        obtain ⟨i, s⟩ := x
        obtain ⟨ls, hls⟩ : ∃ ls, lastSt pre = ls := ⟨_, rfl⟩
        simp only [hls] at d0 hI
        cases s <;> cases ls
        · gi_wp2_with fail
          refine ⟨(KF.trans (KeepsOthers.setCell _ _ _)).from _, kpp_t KP ⟨(Below.refl _ w7).setCell (p := ⟨gD, 0, none⟩) (by simp only []; omega) _, Below.heap_setCell _ _ _ _ (by simp only []; omega), Below.heap_setCell _ _ _ _ (by simp only []; omega)⟩,
            ⟨by rw [lastSt_snoc]; exact hI.setD _ (by omega) (by omega) (by omega), .snoc hk (by omega) (fun _ => hls.symm), ?_⟩, bl_set1 (g := gD) hB1 (by omega)⟩
          have := (bl_set1 (a := .bool false) (g := w7.heap.size) (bl_refl w7) (Nat.le_refl _)).size
          simp only [World.setCell] at *
          simp
          omega
        · have hmo : Tryz.prog.follows .mixedOrders = true := by kernel_rfl
          have hh := hzn_lt t h1
          have hc' := hc.out
          have Sc1 := hide (fun w => Sc.out i w hc' (by simp only [] at hx; omega))
          have f5 : IntKind.i64.wrap (t + (i - t)) = i := by rw [IntKind.wrap_i64]; simp only [] at hx hc'; omega
          have f6 : IntKind.i64.wrap i = i := by rw [IntKind.wrap_i64]; simp only [] at hx hc'; omega
          obtain ⟨a0, _⟩ := ro_cf hX 0 (.int .i64 (i / 86400)) rfl
          obtain ⟨a1, _⟩ := ro_cf hX 1 (.int .i64 (i % 86400)) rfl
          obtain ⟨c0, _⟩ := ro_cf hI.1 0 (.int .i64 n1) rfl
          obtain ⟨c1, _⟩ := ro_cf hI.1 1 (.int .i64 n2) rfl
          obtain ⟨p0, _⟩ := ro_cf hI.2.2.2.1 0 (.int .i64 t) rfl
          have hId : NI gN gD gH w.heap.size n1 n2 m1 m2 t true 0 false w7.drew := hI
          gi_wp2_with fail
          gi_region_with_o (refine ⟨trivial, ?_⟩; gi_at_call 31; refine (CallsIn.inRound l (callsIn_wide.2 (Sc1.out _))).mono ?_; rintro e w8 ⟨rfl, h8⟩; have hI8 := hId.below h8; obtain ⟨p8, _⟩ := ro_cf hI8.2.2.2.1 0 (.int .i64 t) rfl; obtain ⟨d4, z4⟩ := ro_cf hI8.2.2.2.2.1 0 (.int .i64 0) rfl; obtain ⟨d5, z5⟩ := ro_cf hI8.2.2.2.2.2 0 (.bool false) rfl)
          all_goals
            gi_wp2_with fail
            exact ⟨(KF.trans ((KeepsOthers.drew w7).trans ((ko_below h8).trans ((KeepsOthers.setCell _ _ _).trans (KeepsOthers.setCell _ _ _))))).from _, .inr ⟨rfl, i, true, ⟨pre, (i, false), rfl, hc', by simp only [] at hx ⊢; omega, by rw [hls]; simp, hk, rfl⟩, hI8.setR _ _ (by omega) (by omega) (by omega)⟩, bl_set1 (g := w.heap.size + 1 + 1 + 1) (bl_set1 (g := w.heap.size + 1 + 1) (bel_next (bl_drew hB1) h8) (by omega)) (by omega)⟩
        · have hmo : Tryz.prog.follows .mixedOrders = true := by kernel_rfl
          have hh := hzn_lt t h1
          have hc' := hc.out
          have Sc1 := hide (fun w => Sc.out i w hc' (by simp only [] at hx; omega))
          have f5 : IntKind.i64.wrap (t + (i - t)) = i := by rw [IntKind.wrap_i64]; simp only [] at hx hc'; omega
          have f6 : IntKind.i64.wrap i = i := by rw [IntKind.wrap_i64]; simp only [] at hx hc'; omega
          obtain ⟨a0, _⟩ := ro_cf hX 0 (.int .i64 (i / 86400)) rfl
          obtain ⟨a1, _⟩ := ro_cf hX 1 (.int .i64 (i % 86400)) rfl
          obtain ⟨c0, _⟩ := ro_cf hI.1 0 (.int .i64 n1) rfl
          obtain ⟨c1, _⟩ := ro_cf hI.1 1 (.int .i64 n2) rfl
          obtain ⟨p0, _⟩ := ro_cf hI.2.2.2.1 0 (.int .i64 t) rfl
          have hId : NI gN gD gH w.heap.size n1 n2 m1 m2 t false 0 false w7.drew := hI
          gi_wp2_with fail
          gi_region_with_o (refine ⟨trivial, ?_⟩; gi_at_call 31; refine (CallsIn.inRound l (callsIn_wide.2 (Sc1.out _))).mono ?_; rintro e w8 ⟨rfl, h8⟩; have hI8 := hId.below h8; obtain ⟨p8, _⟩ := ro_cf hI8.2.2.2.1 0 (.int .i64 t) rfl; obtain ⟨d4, z4⟩ := ro_cf hI8.2.2.2.2.1 0 (.int .i64 0) rfl; obtain ⟨d5, z5⟩ := ro_cf hI8.2.2.2.2.2 0 (.bool false) rfl)
          all_goals
            gi_wp2_with fail
            exact ⟨(KF.trans ((KeepsOthers.drew w7).trans ((ko_below h8).trans ((KeepsOthers.setCell _ _ _).trans (KeepsOthers.setCell _ _ _))))).from _, .inr ⟨rfl, i, false, ⟨pre, (i, true), rfl, hc', by simp only [] at hx ⊢; omega, by rw [hls]; simp, hk, rfl⟩, hI8.setR _ _ (by omega) (by omega) (by omega)⟩, bl_set1 (g := w.heap.size + 1 + 1 + 1) (bl_set1 (g := w.heap.size + 1 + 1) (bel_next (bl_drew hB1) h8) (by omega)) (by omega)⟩
        · gi_wp2_with fail
          refine ⟨(KF.trans (KeepsOthers.setCell _ _ _)).from _, kpp_t KP ⟨(Below.refl _ w7).setCell (p := ⟨gD, 0, none⟩) (by simp only []; omega) _, Below.heap_setCell _ _ _ _ (by simp only []; omega), Below.heap_setCell _ _ _ _ (by simp only []; omega)⟩,
            ⟨by rw [lastSt_snoc]; exact hI.setD _ (by omega) (by omega) (by omega), .snoc hk (by omega) (fun _ => hls.symm), ?_⟩, bl_set1 (g := gD) hB1 (by omega)⟩
          have := (bl_set1 (a := .bool true) (g := w7.heap.size) (bl_refl w7) (Nat.le_refl _)).size
          simp only [World.setCell] at *
          simp
          omega
  case done =>
    rintro D' xs W hD' ⟨ys, ye, hm, hd⟩ ⟨⟨hI, hk, sW⟩, hB1⟩ hK
    exact (non.out _ _ _ hm hd hk).elim
  case stop =>
    rintro D' c pre W hD' ⟨ys, ye, hm⟩ ⟨⟨rfl, hc, b, hI⟩ | ⟨rfl, n, b, hc, hI⟩, hB1⟩ hK
    · have hok := fno.out _ _ _ _ hm hc
      refine wpIn_wide.2 ?_
      obtain ⟨d4, z4⟩ := ro_cf hI.2.2.2.2.1 0 (.int .i64 0) rfl
      obtain ⟨d5, z5⟩ := ro_cf hI.2.2.2.2.2 0 (.bool false) rfl
      go_wp2
      rw [Exit.noGoto_ret]
      have hI2 := hI.setR 0 false (by omega) (by omega) (by omega)
      have hK2 := ((KeepsOthers.setCell W ⟨w.heap.size + 1 + 1, 0, none⟩ (.int .i64 0)).trans (KeepsOthers.setCell _ ⟨w.heap.size + 1 + 1 + 1, 0, none⟩ (.bool false))).same D' _ hK rfl
      have hB2 := bl_set1 (a := .bool false) (g := w.heap.size + 1 + 1 + 1) (bl_set1 (a := .int .i64 0) (g := w.heap.size + 1 + 1) hB1 (by omega)) (by omega)
      clear d4 z4 d5 z5
      generalize (W.setCell ⟨w.heap.size + 1 + 1, 0, none⟩ (.int .i64 0)).setCell ⟨w.heap.size + 1 + 1 + 1, 0, none⟩ (.bool false) = W2 at *
      obtain ⟨e4, _⟩ := ro_cf (ro_put (o' := .deferred none) hI2.2.2.2.2.1 hK2 rfl) 0 (.int .i64 0) rfl
      obtain ⟨e5, _⟩ := ro_cf (ro_put (o' := .deferred none) hI2.2.2.2.2.2 hK2 rfl) 0 (.bool false) rfl
      refine ⟨by simp, .inl ⟨_, _, rfl, run_takeDeferred hK2, ?_⟩⟩
      exact ⟨.tuple #[.int .i64 0, .bool false], by simp [results, Tryz.results12, go_sem, e4, e5], 0, false, hok, rfl, hB2.trans (belowK_b (w := w) (Nat.le_refl _) W2 D' _ _ (by omega) hK2 rfl rfl)⟩
    · have hok := fyes.out _ _ _ _ _ hm hc
      refine wpIn_wide.2 ?_
      go_wp2
      rw [Exit.noGoto_ret]
      obtain ⟨e4, _⟩ := ro_cf (ro_put (o' := .deferred none) hI.2.2.2.2.1 hK rfl) 0 (.int .i64 n) rfl
      obtain ⟨e5, _⟩ := ro_cf (ro_put (o' := .deferred none) hI.2.2.2.2.2 hK rfl) 0 (.bool true) rfl
      refine ⟨by simp, .inl ⟨_, _, rfl, run_takeDeferred hK, ?_⟩⟩
      exact ⟨.tuple #[.int .i64 n, .bool true], by simp [results, Tryz.results12, go_sem, e4, e5], n, true, hok, rfl, hB1.trans (belowK_b (w := w) (Nat.le_refl _) W D' _ _ (by omega) hK rfl rfl)⟩
end te_
end Go.Proofs.YtdhogpcoegfopaaGreatDoor
