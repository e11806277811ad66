/-
  Texts of mine in one file: Ref11b, TeM2. Their conditions stand in the theorems.
-/
import Derived.Test.YtbehflfpdkedgaaGreatDoorQ05
import Derived.Test.YtbehflfpdkedgaaGreatDoorQ23
import Derived.Deep.RegionHeld3
import Derived.Deep.DeepCutAuto
import Derived.Test.YtbehflfpdkedgaaGreatDoorQ15
namespace Go.Proofs.YtbehflfpdkedgaaGreatDoor
set_option linter.unusedVariables false
set_option linter.unusedSimpArgs false
set_option maxRecDepth 100000
set_option maxHeartbeats 16000000
open Go.ChangeShapes Go.WideShapes Go.ChangeAt Go.RowKit
def cin (t : Int) : Array Value := #[.int .i64 (t / 86400), .int .i64 (t % 86400)]
def vin (t : Int) : Value := .agg (cin t)
theorem rcS {w : World} {g : Nat} {std : ByteArray} {so : Int} {hd : Bool} {dst : ByteArray} {dof : Int} {st en : RD} (h : Ro w g (crule std so hd dst dof st en) 51) :
 w.cell? ⟨g, 1, none⟩ = some (.int .i64 so) ∧ w.cell? ⟨g, 5, none⟩ = some (.int .i64 st.1) ∧ w.cell? ⟨g, 6, none⟩ = some (.int .i64 st.2.1) ∧ w.cell? ⟨g, 7, none⟩ = some (.int .i64 st.2.2.1) ∧ w.cell? ⟨g, 8, none⟩ = some (.int .i64 st.2.2.2.1) ∧ w.cell? ⟨g, 9, none⟩ = some (.int .i64 st.2.2.2.2.1) ∧ w.cell? ⟨g, 10, none⟩ = some (.int .i64 st.2.2.2.2.2) :=
 ⟨(ro_cf h 1 _ rfl).1, (ro_cf h 5 _ rfl).1, (ro_cf h 6 _ rfl).1, (ro_cf h 7 _ rfl).1, (ro_cf h 8 _ rfl).1, (ro_cf h 9 _ rfl).1, (ro_cf h 10 _ rfl).1⟩
theorem rcE {w : World} {g : Nat} {std : ByteArray} {so : Int} {hd : Bool} {dst : ByteArray} {dof : Int} {st en : RD} (h : Ro w g (crule std so hd dst dof st en) 51) :
 w.cell? ⟨g, 4, none⟩ = some (.int .i64 dof) ∧ w.cell? ⟨g, 11, none⟩ = some (.int .i64 en.1) ∧ w.cell? ⟨g, 12, none⟩ = some (.int .i64 en.2.1) ∧ w.cell? ⟨g, 13, none⟩ = some (.int .i64 en.2.2.1) ∧ w.cell? ⟨g, 14, none⟩ = some (.int .i64 en.2.2.2.1) ∧ w.cell? ⟨g, 15, none⟩ = some (.int .i64 en.2.2.2.2.1) ∧ w.cell? ⟨g, 16, none⟩ = some (.int .i64 en.2.2.2.2.2) :=
 ⟨(ro_cf h 4 _ rfl).1, (ro_cf h 11 _ rfl).1, (ro_cf h 12 _ rfl).1, (ro_cf h 13 _ rfl).1, (ro_cf h 14 _ rfl).1, (ro_cf h 15 _ rfl).1, (ro_cf h 16 _ rfl).1⟩
theorem ro_set2 {w : World} {g : Nat} {a b a' b' : Value} {T : TypeId} (h : Ro w g #[a', b'] T) : Ro ((w.setCell ⟨g, 0, none⟩ a).setCell ⟨g, 1, none⟩ b) g #[a, b] T := by
 have := ro_set (ro_set h 0 a) 1 b
 simpa using this
theorem ro_away2 {w : World} {g g' : Nat} {vs : Array Value} {a b : Value} {T : TypeId} (h : Ro w g vs T) (hne : g' ≠ g) : Ro ((w.setCell ⟨g', 0, none⟩ a).setCell ⟨g', 1, none⟩ b) g vs T := ro_set_ne (ro_set_ne h hne 0 a) hne 1 b
theorem bl_set2 {w0 w : World} {a b : Value} (h : Below w0.heap.size w0 w) {g : Nat} (hg : w0.heap.size ≤ g) : Below w0.heap.size w0 ((w.setCell ⟨g, 0, none⟩ a).setCell ⟨g, 1, none⟩ b) := bl_set (bl_set h hg _) hg _
namespace r11_
theorem Changes (std : ByteArray) (so : Int) (hd : Bool) (dst : ByteArray) (dof : Int) (st en : RD) (y : Int) (w : World) (hs : rdOk st) (he : rdOk en) (so0 : offOk so) (do0 : offOk dof) (y0 : -600000000001 ≤ y) (y1 : y ≤ 600000000001) :
 Calls Tryz.prog 116 #[.agg (crule std so hd dst dof st en), .int .i64 y] w fun e w' => e = .returned (.tuple #[vin (chI st so y), vin (chI en dof y)]) ∧ Below w.heap.size w w' := by
 obtain ⟨s0, s1⟩ := rday_bdw hs y0 y1
 obtain ⟨e0, e1⟩ := rday_bdw he y0 y1
 have D1 := hide (fun w => r6w_.Day y w hs y0 y1)
 have D2 := hide (fun w => r6w_.Day y w he y0 y1)
 obtain ⟨ts0, ts1⟩ := (show -604799 ≤ st.2.2.2.2.2 ∧ st.2.2.2.2.2 ≤ 604799 from ⟨hs.1, hs.2.1⟩)
 obtain ⟨te0, te1⟩ := (show -604799 ≤ en.2.2.2.2.2 ∧ en.2.2.2.2.2 ≤ 604799 from ⟨he.1, he.2.1⟩)
 obtain ⟨o0, o1⟩ := so0
 obtain ⟨p0, p1⟩ := do0
 have S1 := hide (fun w => shift (rdD st y) (st.2.2.2.2.2 - so) w (by unfold rdD; omega) (by unfold rdD; omega) (by omega) (by omega))
 have S2 := hide (fun w => shift (rdD en y) (en.2.2.2.2.2 - dof) w (by unfold rdD; omega) (by unfold rdD; omega) (by omega) (by omega))
 rw [show rdD st y * 86400 + (st.2.2.2.2.2 - so) = chI st so y by unfold chI; omega] at S1
 rw [show rdD en y * 86400 + (en.2.2.2.2.2 - dof) = chI en dof y by unfold chI; omega] at S2
 unfold rdD at S1 S2
 have f1 : IntKind.i64.wrap (st.2.2.2.2.2 - so) = st.2.2.2.2.2 - so := by rw [IntKind.wrap_i64]; omega
 have f2 : IntKind.i64.wrap (en.2.2.2.2.2 - dof) = en.2.2.2.2.2 - dof := by rw [IntKind.wrap_i64]; omega
 generalize rday st.1 st.2.1 st.2.2.1 st.2.2.2.1 st.2.2.2.2.1 y = ds at *
 generalize rday en.1 en.2.1 en.2.2.1 en.2.2.2.1 en.2.2.2.2.1 y = de at *
 obtain ⟨va, hva⟩ : ∃ c, cin (chI st so y) = c := ⟨_, rfl⟩
 obtain ⟨vb, hvb⟩ : ∃ c, cin (chI en dof y) = c := ⟨_, rfl⟩
 unfold vrd at D1 D2
 unfold vin
 rw [show (.agg #[.int .i64 (chI st so y / 86400), .int .i64 (chI st so y % 86400)] : Value) = .agg (cin (chI st so y)) from rfl] at S1
 rw [show (.agg #[.int .i64 (chI en dof y / 86400), .int .i64 (chI en dof y % 86400)] : Value) = .agg (cin (chI en dof y)) from rfl] at S2
 unfold cin at *
 generalize chI st so y / 86400 = a1 at *
 generalize chI st so y % 86400 = a2 at *
 generalize chI en dof y / 86400 = b1 at *
 generalize chI en dof y % 86400 = b2 at *
 clear hva hvb hs he s0 s1 e0 e1 ts0 ts1 te0 te1 o0 o1 p0 p1 y0 y1
 obtain ⟨cs, hcs⟩ : ∃ cs, crule std so hd dst dof st en = cs := ⟨_, rfl⟩
 rw [hcs]
 replace hcs := hide hcs
 have hR := hide (((Ro.new w cs 51).alloc (.cells #[.int .i64 0, .int .i64 0] 117)).alloc (.cells #[.int .i64 0, .int .i64 0] 117))
 have h4 := hide ((show Ro ((w.alloc (.cells cs 51)).alloc (.cells #[.int .i64 0, .int .i64 0] 117)) (w.heap.size + 1) #[.int .i64 0, .int .i64 0] 117 by have := Ro.new (w.alloc (.cells cs 51)) #[.int .i64 0, .int .i64 0] 117; simpa using this).alloc (.cells #[.int .i64 0, .int .i64 0] 117))
 have h5 := hide (show Ro (((w.alloc (.cells cs 51)).alloc (.cells #[.int .i64 0, .int .i64 0] 117)).alloc (.cells #[.int .i64 0, .int .i64 0] 117)) (w.heap.size + 1 + 1) #[.int .i64 0, .int .i64 0] 117 by have := Ro.new ((w.alloc (.cells cs 51)).alloc (.cells #[.int .i64 0, .int .i64 0] 117)) #[.int .i64 0, .int .i64 0] 117; simpa using this)
 have hb := hide (bl_alloc (bl_alloc (bl_new w (.cells cs 51)) (.cells #[.int .i64 0, .int .i64 0] 117)) (.cells #[.int .i64 0, .int .i64 0] 117))
 go_enter Tryz.func116, Tryz.ntmps116
 go_upto_region 1 with fail
 generalize ((w.alloc (.cells cs 51)).alloc (.cells #[.int .i64 0, .int .i64 0] 117)).alloc (.cells #[.int .i64 0, .int .i64 0] 117) = u at *
 go_cut [6] (fun s1 wx => ∃ g : Nat, s1 = .pointer (some ⟨g, 0, none⟩) ∧ Ro wx g #[.int .i64 a1, .int .i64 a2] 117 ∧ Ro wx (w.heap.size) (cs) 51 ∧ Ro wx (w.heap.size + 1) (#[.int .i64 0, .int .i64 0]) 117 ∧ Ro wx (w.heap.size + 1 + 1) (#[.int .i64 0, .int .i64 0]) 117 ∧ Below w.heap.size w wx ∧ (w.heap.size) < g ∧ (w.heap.size + 1) < g ∧ (w.heap.size + 1 + 1) < g)
 case first =>
  refine wp_region_held_drew (S := fun w' => Hid (Ro w' (w.heap.size) (cs) 51) ∧ Hid (Ro w' (w.heap.size + 1) (#[.int .i64 0, .int .i64 0]) 117) ∧ Hid (Ro w' (w.heap.size + 1 + 1) (#[.int .i64 0, .int .i64 0]) 117) ∧ Hid (Below w.heap.size w w')) (by kernel_rfl) (⟨hR, h4, h5, hide (bl_drew hb.out)⟩) (fun hHeld => ?_)
  refine wpAnyH_takeD (i := 0) (d := some 8) (v := ?_) rfl rfl (by kernel_rfl) (by kernel_rfl) (by kernel_rfl) (fun _ _ _ h => h) (Or.inl ⟨by rfl, ?_⟩) (by assumption) ?_
  rotate_left
  ·((intro w hSw; go_simp) <;> with_reducible rfl)
  try simp only [Act.put, sI1, sI2, sI3]
  refine wpAnyH_takeD (i := 1) (d := some 9) (v := ?_) rfl rfl (by kernel_rfl) (by kernel_rfl) (by kernel_rfl) (fun _ _ _ h => h) (Or.inl ⟨by rfl, ?_⟩) (by assumption) ?_
  rotate_left
  ·((intro w hSw; obtain ⟨c0, c1, c2, c3, c4, c5, c6⟩ := rcS (by rw [hcs.out]; exact hSw.1.out); go_simp) <;> with_reducible rfl)
  try simp only [Act.put, sI1, sI2, sI3]
  refine wpAnyH_takeD (i := 2) (d := some 10) (v := ?_) rfl rfl (by kernel_rfl) (by kernel_rfl) (by kernel_rfl) (fun _ _ _ h => h) (Or.inl ⟨by rfl, ?_⟩) (by assumption) ?_
  rotate_left
  ·((intro w hSw; go_simp) <;> with_reducible rfl)
  try simp only [Act.put, sI1, sI2, sI3]
  refine wpAnyH_takeD (i := 4) (d := some 12) (v := ?_) rfl rfl (by kernel_rfl) (by kernel_rfl) (by kernel_rfl) (fun _ _ _ h => h) (Or.inl ⟨by rfl, ?_⟩) (by assumption) ?_
  rotate_left
  ·((intro w hSw; go_simp) <;> with_reducible rfl)
  try simp only [Act.put, sI1, sI2, sI3]
  refine wpAnyH_takeD (i := 5) (d := some 13) (v := ?_) rfl rfl (by kernel_rfl) (by kernel_rfl) (by kernel_rfl) (fun _ _ _ h => h) (Or.inl ⟨by rfl, ?_⟩) (by assumption) ?_
  rotate_left
  ·((intro w hSw; go_simp) <;> with_reducible rfl)
  try simp only [Act.put, sI1, sI2, sI3]
  refine wpAnyH_takeD (i := 6) (d := some 14) (v := ?_) rfl rfl (by kernel_rfl) (by kernel_rfl) (by kernel_rfl) (fun _ _ _ h => h) (Or.inl ⟨by rfl, ?_⟩) (by assumption) ?_
  rotate_left
  ·((intro w hSw; obtain ⟨c0, c1, c2, c3, c4, c5, c6⟩ := rcS (by rw [hcs.out]; exact hSw.1.out); go_simp) <;> with_reducible rfl)
  try simp only [Act.put, sI1, sI2, sI3]
  refine wpAnyH_takeD (i := 7) (d := some 15) (v := ?_) rfl rfl (by kernel_rfl) (by kernel_rfl) (by kernel_rfl) (fun _ _ _ h => h) (Or.inl ⟨by rfl, ?_⟩) (by assumption) ?_
  rotate_left
  ·((intro w hSw; go_simp) <;> with_reducible rfl)
  try simp only [Act.put, sI1, sI2, sI3]
  refine wpAnyH_takeD (i := 8) (d := some 16) (v := ?_) rfl rfl (by kernel_rfl) (by kernel_rfl) (by kernel_rfl) (fun _ _ _ h => h) (Or.inl ⟨by rfl, ?_⟩) (by assumption) ?_
  rotate_left
  ·((intro w hSw; obtain ⟨c0, c1, c2, c3, c4, c5, c6⟩ := rcS (by rw [hcs.out]; exact hSw.1.out); go_simp) <;> with_reducible rfl)
  try simp only [Act.put, sI1, sI2, sI3]
  refine wpAnyH_takeD (i := 9) (d := some 17) (v := ?_) rfl rfl (by kernel_rfl) (by kernel_rfl) (by kernel_rfl) (fun _ _ _ h => h) (Or.inl ⟨by rfl, ?_⟩) (by assumption) ?_
  rotate_left
  ·((intro w hSw; go_simp) <;> with_reducible rfl)
  try simp only [Act.put, sI1, sI2, sI3]
  refine wpAnyH_ready (rs := [3, 11]) (by kernel_rfl) (by simp) ?_
  refine AllReadyH.cons rfl (fun K hK => ?_) (AllReadyH.cons rfl (fun K hK => ?_) (AllReadyH.nil))
  ·go_simp
   refine (D1.out _).mono ?_
   rintro e w6 ⟨rfl, h1'⟩
   refine hK.out _ _ (⟨hide (hHeld.1.out.below h1'), hide (hHeld.2.1.out.below h1'), hide (hHeld.2.2.1.out.below h1'), hide (bel_next hHeld.2.2.2.out h1')⟩) (fun hHeld => ?_)
   clear hK K h1'
   try simp only [Act.put, sI1, sI2, sI3]
   refine wpAnyH_ready (rs := [10, 11]) (by kernel_rfl) (by simp) ?_
   refine AllReadyH.cons rfl (fun K hK => ?_) (AllReadyH.cons rfl (fun K hK => ?_) (AllReadyH.nil))
   ·go_simp
    refine (S1.out _).mono ?_
    rintro e w7 ⟨rfl, h1'⟩
    refine hK.out _ _ (⟨hide (hHeld.1.out.below h1'), hide (hHeld.2.1.out.below h1'), hide (hHeld.2.2.1.out.below h1'), hide (bel_next hHeld.2.2.2.out h1')⟩) (fun hHeld => ?_)
    clear hK K h1'
    try simp only [Act.put, sI1, sI2, sI3]
    refine wpAnyH_ready (rs := [11]) (by kernel_rfl) (by simp) ?_
    refine AllReadyH.cons rfl (fun K hK => ?_) AllReadyH.nil
    ·go_simp
     have l0 := hHeld.1.out.lt
     have l1 := hHeld.2.1.out.lt
     have l2 := hHeld.2.2.1.out.lt
     have lz := hHeld.2.2.2.out.size
     have hz := hide (show Ro ((w7).alloc (.cells (#[.int .i64 0, .int .i64 0]) 117)) w7.heap.size (#[.int .i64 0, .int .i64 0]) 117 from Ro.new (w7) (#[.int .i64 0, .int .i64 0]) 117)
     have hPrev := hHeld
     refine hK.out _ _ (⟨hide (hHeld.1.out.alloc _), hide (hHeld.2.1.out.alloc _), hide (hHeld.2.2.1.out.alloc _), hide (bl_alloc hHeld.2.2.2.out _)⟩) (fun hHeld => ?_)
     clear hK K
     try simp only [Act.put, sI1, sI2, sI3]
     refine wpAnyH_ready (rs := [12]) (by kernel_rfl) (by simp) ?_
     refine AllReadyH.cons rfl (fun K hK => ?_) AllReadyH.nil
     ·obtain ⟨y0, z0⟩ := ro_cf hz.out 0 _ rfl
      obtain ⟨y1, z1⟩ := ro_cf hz.out 1 _ rfl
      go_simp
      refine hK.out _ _ (⟨hide (hPrev.1.out.alloc _), hide (hPrev.2.1.out.alloc _), hide (hPrev.2.2.1.out.alloc _), hide (bl_alloc hPrev.2.2.2.out _)⟩) (fun hHeld => ?_)
      clear hK K y0 y1 z0 z1
      replace hz := hide (Ro.new (w7) (#[.int .i64 a1, .int .i64 a2]) 117)
      try simp only [Act.put, sI1, sI2, sI3]
      refine wpAnyH_done (by kernel_rfl) ?_ _
      go_wp2_with fail
      go_meet
      exact ⟨w7.heap.size, rfl, hz.out, hHeld.1.out, hHeld.2.1.out, hHeld.2.2.1.out, hHeld.2.2.2.out, by omega, by omega, by omega⟩
   ·go_simp
    have l0 := hHeld.1.out.lt
    have l1 := hHeld.2.1.out.lt
    have l2 := hHeld.2.2.1.out.lt
    have lz := hHeld.2.2.2.out.size
    have hz := hide (show Ro ((w6).alloc (.cells (#[.int .i64 0, .int .i64 0]) 117)) w6.heap.size (#[.int .i64 0, .int .i64 0]) 117 from Ro.new (w6) (#[.int .i64 0, .int .i64 0]) 117)
    have hPrev := hHeld
    refine hK.out _ _ (⟨hide (hHeld.1.out.alloc _), hide (hHeld.2.1.out.alloc _), hide (hHeld.2.2.1.out.alloc _), hide (bl_alloc hHeld.2.2.2.out _)⟩) (fun hHeld => ?_)
    clear hK K
    try simp only [Act.put, sI1, sI2, sI3]
    refine wpAnyH_ready (rs := [10]) (by kernel_rfl) (by simp) ?_
    refine AllReadyH.cons rfl (fun K hK => ?_) AllReadyH.nil
    ·go_simp
     refine (S1.out _).mono ?_
     rintro e w7 ⟨rfl, h1'⟩
     replace hz := hide (hz.out.below h1')
     refine hK.out _ _ (⟨hide (hHeld.1.out.below h1'), hide (hHeld.2.1.out.below h1'), hide (hHeld.2.2.1.out.below h1'), hide (bel_next hHeld.2.2.2.out h1')⟩) (fun hHeld => ?_)
     clear hK K h1'
     try simp only [Act.put, sI1, sI2, sI3]
     refine wpAnyH_ready (rs := [12]) (by kernel_rfl) (by simp) ?_
     refine AllReadyH.cons rfl (fun K hK => ?_) AllReadyH.nil
     ·obtain ⟨y0, z0⟩ := ro_cf hz.out 0 _ rfl
      obtain ⟨y1, z1⟩ := ro_cf hz.out 1 _ rfl
      go_simp
      refine hK.out _ _ (⟨hide (ro_away2 (g' := w6.heap.size) hHeld.1.out (by omega)), hide (ro_away2 (g' := w6.heap.size) hHeld.2.1.out (by omega)), hide (ro_away2 (g' := w6.heap.size) hHeld.2.2.1.out (by omega)), hide (bl_set2 (g := w6.heap.size) hHeld.2.2.2.out (by omega))⟩) (fun hHeld => ?_)
      clear hK K y0 y1 z0 z1
      replace hz := hide (ro_set2 (a := .int .i64 a1) (b := .int .i64 a2) hz.out)
      try simp only [Act.put, sI1, sI2, sI3]
      refine wpAnyH_done (by kernel_rfl) ?_ _
      go_wp2_with fail
      go_meet
      exact ⟨w6.heap.size, rfl, hz.out, hHeld.1.out, hHeld.2.1.out, hHeld.2.2.1.out, hHeld.2.2.2.out, by omega, by omega, by omega⟩
  ·go_simp
   have l0 := hHeld.1.out.lt
   have l1 := hHeld.2.1.out.lt
   have l2 := hHeld.2.2.1.out.lt
   have lz := hHeld.2.2.2.out.size
   have lw : (u.drew).heap.size = (u).heap.size := rfl
   have hz := hide (show Ro ((u.drew).alloc (.cells (#[.int .i64 0, .int .i64 0]) 117)) u.heap.size (#[.int .i64 0, .int .i64 0]) 117 from Ro.new (u.drew) (#[.int .i64 0, .int .i64 0]) 117)
   have hPrev := hHeld
   refine hK.out _ _ (⟨hide (hHeld.1.out.alloc _), hide (hHeld.2.1.out.alloc _), hide (hHeld.2.2.1.out.alloc _), hide (bl_alloc hHeld.2.2.2.out _)⟩) (fun hHeld => ?_)
   clear hK K
   try simp only [Act.put, sI1, sI2, sI3]
   refine wpAnyH_ready (rs := [3]) (by kernel_rfl) (by simp) ?_
   refine AllReadyH.cons rfl (fun K hK => ?_) AllReadyH.nil
   ·go_simp
    refine (D1.out _).mono ?_
    rintro e w6 ⟨rfl, h1'⟩
    replace hz := hide (hz.out.below h1')
    refine hK.out _ _ (⟨hide (hHeld.1.out.below h1'), hide (hHeld.2.1.out.below h1'), hide (hHeld.2.2.1.out.below h1'), hide (bel_next hHeld.2.2.2.out h1')⟩) (fun hHeld => ?_)
    clear hK K h1'
    try simp only [Act.put, sI1, sI2, sI3]
    refine wpAnyH_ready (rs := [10]) (by kernel_rfl) (by simp) ?_
    refine AllReadyH.cons rfl (fun K hK => ?_) AllReadyH.nil
    ·go_simp
     refine (S1.out _).mono ?_
     rintro e w7 ⟨rfl, h1'⟩
     replace hz := hide (hz.out.below h1')
     refine hK.out _ _ (⟨hide (hHeld.1.out.below h1'), hide (hHeld.2.1.out.below h1'), hide (hHeld.2.2.1.out.below h1'), hide (bel_next hHeld.2.2.2.out h1')⟩) (fun hHeld => ?_)
     clear hK K h1'
     try simp only [Act.put, sI1, sI2, sI3]
     refine wpAnyH_ready (rs := [12]) (by kernel_rfl) (by simp) ?_
     refine AllReadyH.cons rfl (fun K hK => ?_) AllReadyH.nil
     ·obtain ⟨y0, z0⟩ := ro_cf hz.out 0 _ rfl
      obtain ⟨y1, z1⟩ := ro_cf hz.out 1 _ rfl
      go_simp
      refine hK.out _ _ (⟨hide (ro_away2 (g' := u.heap.size) hHeld.1.out (by omega)), hide (ro_away2 (g' := u.heap.size) hHeld.2.1.out (by omega)), hide (ro_away2 (g' := u.heap.size) hHeld.2.2.1.out (by omega)), hide (bl_set2 (g := u.heap.size) hHeld.2.2.2.out (by omega))⟩) (fun hHeld => ?_)
      clear hK K y0 y1 z0 z1
      replace hz := hide (ro_set2 (a := .int .i64 a1) (b := .int .i64 a2) hz.out)
      try simp only [Act.put, sI1, sI2, sI3]
      refine wpAnyH_done (by kernel_rfl) ?_ _
      go_wp2_with fail
      go_meet
      exact ⟨u.heap.size, rfl, hz.out, hHeld.1.out, hHeld.2.1.out, hHeld.2.2.1.out, hHeld.2.2.2.out, by omega, by omega, by omega⟩
 obtain ⟨g6, rfl, h6, hR', h4', h5', hb', l0, l4, l5⟩ := hcut
 replace h6 := hide h6
 replace hR := hide hR'
 replace h4 := hide h4'
 replace h5 := hide h5'
 replace hb := hide hb'
 clear hR' h4' h5' hb'
 go_upto_region 2 with fail
 rename World => w1
 go_cut [7] (fun s1 wx => ∃ g : Nat, s1 = .pointer (some ⟨g, 0, none⟩) ∧ Ro wx g #[.int .i64 b1, .int .i64 b2] 117 ∧ Ro wx (w.heap.size) (cs) 51 ∧ Ro wx (w.heap.size + 1) (#[.int .i64 0, .int .i64 0]) 117 ∧ Ro wx (w.heap.size + 1 + 1) (#[.int .i64 0, .int .i64 0]) 117 ∧ Ro wx g6 (#[.int .i64 a1, .int .i64 a2]) 117 ∧ Below w.heap.size w wx ∧ (w.heap.size) < g ∧ (w.heap.size + 1) < g ∧ (w.heap.size + 1 + 1) < g ∧ g6 < g)
 case first =>
  refine wp_region_held_drew (S := fun w' => Hid (Ro w' (w.heap.size) (cs) 51) ∧ Hid (Ro w' (w.heap.size + 1) (#[.int .i64 0, .int .i64 0]) 117) ∧ Hid (Ro w' (w.heap.size + 1 + 1) (#[.int .i64 0, .int .i64 0]) 117) ∧ Hid (Ro w' g6 (#[.int .i64 a1, .int .i64 a2]) 117) ∧ Hid (Below w.heap.size w w')) (by kernel_rfl) (⟨hR, h4, h5, h6, hide (bl_drew hb.out)⟩) (fun hHeld => ?_)
  refine wpAnyH_takeD (i := 0) (d := some 19) (v := ?_) rfl rfl (by kernel_rfl) (by kernel_rfl) (by kernel_rfl) (fun _ _ _ h => h) (Or.inl ⟨by rfl, ?_⟩) (by assumption) ?_
  rotate_left
  ·((intro w hSw; go_simp) <;> with_reducible rfl)
  try simp only [Act.put, sI1, sI2, sI3]
  refine wpAnyH_takeD (i := 1) (d := some 20) (v := ?_) rfl rfl (by kernel_rfl) (by kernel_rfl) (by kernel_rfl) (fun _ _ _ h => h) (Or.inl ⟨by rfl, ?_⟩) (by assumption) ?_
  rotate_left
  ·((intro w hSw; obtain ⟨c0, c1, c2, c3, c4, c5, c6⟩ := rcE (by rw [hcs.out]; exact hSw.1.out); go_simp) <;> with_reducible rfl)
  try simp only [Act.put, sI1, sI2, sI3]
  refine wpAnyH_takeD (i := 2) (d := some 21) (v := ?_) rfl rfl (by kernel_rfl) (by kernel_rfl) (by kernel_rfl) (fun _ _ _ h => h) (Or.inl ⟨by rfl, ?_⟩) (by assumption) ?_
  rotate_left
  ·((intro w hSw; go_simp) <;> with_reducible rfl)
  try simp only [Act.put, sI1, sI2, sI3]
  refine wpAnyH_takeD (i := 4) (d := some 23) (v := ?_) rfl rfl (by kernel_rfl) (by kernel_rfl) (by kernel_rfl) (fun _ _ _ h => h) (Or.inl ⟨by rfl, ?_⟩) (by assumption) ?_
  rotate_left
  ·((intro w hSw; go_simp) <;> with_reducible rfl)
  try simp only [Act.put, sI1, sI2, sI3]
  refine wpAnyH_takeD (i := 5) (d := some 24) (v := ?_) rfl rfl (by kernel_rfl) (by kernel_rfl) (by kernel_rfl) (fun _ _ _ h => h) (Or.inl ⟨by rfl, ?_⟩) (by assumption) ?_
  rotate_left
  ·((intro w hSw; go_simp) <;> with_reducible rfl)
  try simp only [Act.put, sI1, sI2, sI3]
  refine wpAnyH_takeD (i := 6) (d := some 25) (v := ?_) rfl rfl (by kernel_rfl) (by kernel_rfl) (by kernel_rfl) (fun _ _ _ h => h) (Or.inl ⟨by rfl, ?_⟩) (by assumption) ?_
  rotate_left
  ·((intro w hSw; obtain ⟨c0, c1, c2, c3, c4, c5, c6⟩ := rcE (by rw [hcs.out]; exact hSw.1.out); go_simp) <;> with_reducible rfl)
  try simp only [Act.put, sI1, sI2, sI3]
  refine wpAnyH_takeD (i := 7) (d := some 26) (v := ?_) rfl rfl (by kernel_rfl) (by kernel_rfl) (by kernel_rfl) (fun _ _ _ h => h) (Or.inl ⟨by rfl, ?_⟩) (by assumption) ?_
  rotate_left
  ·((intro w hSw; go_simp) <;> with_reducible rfl)
  try simp only [Act.put, sI1, sI2, sI3]
  refine wpAnyH_takeD (i := 8) (d := some 27) (v := ?_) rfl rfl (by kernel_rfl) (by kernel_rfl) (by kernel_rfl) (fun _ _ _ h => h) (Or.inl ⟨by rfl, ?_⟩) (by assumption) ?_
  rotate_left
  ·((intro w hSw; obtain ⟨c0, c1, c2, c3, c4, c5, c6⟩ := rcE (by rw [hcs.out]; exact hSw.1.out); go_simp) <;> with_reducible rfl)
  try simp only [Act.put, sI1, sI2, sI3]
  refine wpAnyH_takeD (i := 9) (d := some 28) (v := ?_) rfl rfl (by kernel_rfl) (by kernel_rfl) (by kernel_rfl) (fun _ _ _ h => h) (Or.inl ⟨by rfl, ?_⟩) (by assumption) ?_
  rotate_left
  ·((intro w hSw; go_simp) <;> with_reducible rfl)
  try simp only [Act.put, sI1, sI2, sI3]
  refine wpAnyH_ready (rs := [3, 11]) (by kernel_rfl) (by simp) ?_
  refine AllReadyH.cons rfl (fun K hK => ?_) (AllReadyH.cons rfl (fun K hK => ?_) (AllReadyH.nil))
  ·go_simp
   refine (D2.out _).mono ?_
   rintro e w6 ⟨rfl, h1'⟩
   refine hK.out _ _ (⟨hide (hHeld.1.out.below h1'), hide (hHeld.2.1.out.below h1'), hide (hHeld.2.2.1.out.below h1'), hide (hHeld.2.2.2.1.out.below h1'), hide (bel_next hHeld.2.2.2.2.out h1')⟩) (fun hHeld => ?_)
   clear hK K h1'
   try simp only [Act.put, sI1, sI2, sI3]
   refine wpAnyH_ready (rs := [10, 11]) (by kernel_rfl) (by simp) ?_
   refine AllReadyH.cons rfl (fun K hK => ?_) (AllReadyH.cons rfl (fun K hK => ?_) (AllReadyH.nil))
   ·go_simp
    refine (S2.out _).mono ?_
    rintro e w7 ⟨rfl, h1'⟩
    refine hK.out _ _ (⟨hide (hHeld.1.out.below h1'), hide (hHeld.2.1.out.below h1'), hide (hHeld.2.2.1.out.below h1'), hide (hHeld.2.2.2.1.out.below h1'), hide (bel_next hHeld.2.2.2.2.out h1')⟩) (fun hHeld => ?_)
    clear hK K h1'
    try simp only [Act.put, sI1, sI2, sI3]
    refine wpAnyH_ready (rs := [11]) (by kernel_rfl) (by simp) ?_
    refine AllReadyH.cons rfl (fun K hK => ?_) AllReadyH.nil
    ·go_simp
     have l0 := hHeld.1.out.lt
     have l1 := hHeld.2.1.out.lt
     have l2 := hHeld.2.2.1.out.lt
     have l3 := hHeld.2.2.2.1.out.lt
     have lz := hHeld.2.2.2.2.out.size
     have hz := hide (show Ro ((w7).alloc (.cells (#[.int .i64 0, .int .i64 0]) 117)) w7.heap.size (#[.int .i64 0, .int .i64 0]) 117 from Ro.new (w7) (#[.int .i64 0, .int .i64 0]) 117)
     have hPrev := hHeld
     refine hK.out _ _ (⟨hide (hHeld.1.out.alloc _), hide (hHeld.2.1.out.alloc _), hide (hHeld.2.2.1.out.alloc _), hide (hHeld.2.2.2.1.out.alloc _), hide (bl_alloc hHeld.2.2.2.2.out _)⟩) (fun hHeld => ?_)
     clear hK K
     try simp only [Act.put, sI1, sI2, sI3]
     refine wpAnyH_ready (rs := [12]) (by kernel_rfl) (by simp) ?_
     refine AllReadyH.cons rfl (fun K hK => ?_) AllReadyH.nil
     ·obtain ⟨y0, z0⟩ := ro_cf hz.out 0 _ rfl
      obtain ⟨y1, z1⟩ := ro_cf hz.out 1 _ rfl
      go_simp
      refine hK.out _ _ (⟨hide (hPrev.1.out.alloc _), hide (hPrev.2.1.out.alloc _), hide (hPrev.2.2.1.out.alloc _), hide (hPrev.2.2.2.1.out.alloc _), hide (bl_alloc hPrev.2.2.2.2.out _)⟩) (fun hHeld => ?_)
      clear hK K y0 y1 z0 z1
      replace hz := hide (Ro.new (w7) (#[.int .i64 b1, .int .i64 b2]) 117)
      try simp only [Act.put, sI1, sI2, sI3]
      refine wpAnyH_done (by kernel_rfl) ?_ _
      go_wp2_with fail
      go_meet
      exact ⟨w7.heap.size, rfl, hz.out, hHeld.1.out, hHeld.2.1.out, hHeld.2.2.1.out, hHeld.2.2.2.1.out, hHeld.2.2.2.2.out, by omega, by omega, by omega, by omega⟩
   ·go_simp
    have l0 := hHeld.1.out.lt
    have l1 := hHeld.2.1.out.lt
    have l2 := hHeld.2.2.1.out.lt
    have l3 := hHeld.2.2.2.1.out.lt
    have lz := hHeld.2.2.2.2.out.size
    have hz := hide (show Ro ((w6).alloc (.cells (#[.int .i64 0, .int .i64 0]) 117)) w6.heap.size (#[.int .i64 0, .int .i64 0]) 117 from Ro.new (w6) (#[.int .i64 0, .int .i64 0]) 117)
    have hPrev := hHeld
    refine hK.out _ _ (⟨hide (hHeld.1.out.alloc _), hide (hHeld.2.1.out.alloc _), hide (hHeld.2.2.1.out.alloc _), hide (hHeld.2.2.2.1.out.alloc _), hide (bl_alloc hHeld.2.2.2.2.out _)⟩) (fun hHeld => ?_)
    clear hK K
    try simp only [Act.put, sI1, sI2, sI3]
    refine wpAnyH_ready (rs := [10]) (by kernel_rfl) (by simp) ?_
    refine AllReadyH.cons rfl (fun K hK => ?_) AllReadyH.nil
    ·go_simp
     refine (S2.out _).mono ?_
     rintro e w7 ⟨rfl, h1'⟩
     replace hz := hide (hz.out.below h1')
     refine hK.out _ _ (⟨hide (hHeld.1.out.below h1'), hide (hHeld.2.1.out.below h1'), hide (hHeld.2.2.1.out.below h1'), hide (hHeld.2.2.2.1.out.below h1'), hide (bel_next hHeld.2.2.2.2.out h1')⟩) (fun hHeld => ?_)
     clear hK K h1'
     try simp only [Act.put, sI1, sI2, sI3]
     refine wpAnyH_ready (rs := [12]) (by kernel_rfl) (by simp) ?_
     refine AllReadyH.cons rfl (fun K hK => ?_) AllReadyH.nil
     ·obtain ⟨y0, z0⟩ := ro_cf hz.out 0 _ rfl
      obtain ⟨y1, z1⟩ := ro_cf hz.out 1 _ rfl
      go_simp
      refine hK.out _ _ (⟨hide (ro_away2 (g' := w6.heap.size) hHeld.1.out (by omega)), hide (ro_away2 (g' := w6.heap.size) hHeld.2.1.out (by omega)), hide (ro_away2 (g' := w6.heap.size) hHeld.2.2.1.out (by omega)), hide (ro_away2 (g' := w6.heap.size) hHeld.2.2.2.1.out (by omega)), hide (bl_set2 (g := w6.heap.size) hHeld.2.2.2.2.out (by omega))⟩) (fun hHeld => ?_)
      clear hK K y0 y1 z0 z1
      replace hz := hide (ro_set2 (a := .int .i64 b1) (b := .int .i64 b2) hz.out)
      try simp only [Act.put, sI1, sI2, sI3]
      refine wpAnyH_done (by kernel_rfl) ?_ _
      go_wp2_with fail
      go_meet
      exact ⟨w6.heap.size, rfl, hz.out, hHeld.1.out, hHeld.2.1.out, hHeld.2.2.1.out, hHeld.2.2.2.1.out, hHeld.2.2.2.2.out, by omega, by omega, by omega, by omega⟩
  ·go_simp
   have l0 := hHeld.1.out.lt
   have l1 := hHeld.2.1.out.lt
   have l2 := hHeld.2.2.1.out.lt
   have l3 := hHeld.2.2.2.1.out.lt
   have lz := hHeld.2.2.2.2.out.size
   have lw : (w1.drew).heap.size = (w1).heap.size := rfl
   have hz := hide (show Ro ((w1.drew).alloc (.cells (#[.int .i64 0, .int .i64 0]) 117)) w1.heap.size (#[.int .i64 0, .int .i64 0]) 117 from Ro.new (w1.drew) (#[.int .i64 0, .int .i64 0]) 117)
   have hPrev := hHeld
   refine hK.out _ _ (⟨hide (hHeld.1.out.alloc _), hide (hHeld.2.1.out.alloc _), hide (hHeld.2.2.1.out.alloc _), hide (hHeld.2.2.2.1.out.alloc _), hide (bl_alloc hHeld.2.2.2.2.out _)⟩) (fun hHeld => ?_)
   clear hK K
   try simp only [Act.put, sI1, sI2, sI3]
   refine wpAnyH_ready (rs := [3]) (by kernel_rfl) (by simp) ?_
   refine AllReadyH.cons rfl (fun K hK => ?_) AllReadyH.nil
   ·go_simp
    refine (D2.out _).mono ?_
    rintro e w6 ⟨rfl, h1'⟩
    replace hz := hide (hz.out.below h1')
    refine hK.out _ _ (⟨hide (hHeld.1.out.below h1'), hide (hHeld.2.1.out.below h1'), hide (hHeld.2.2.1.out.below h1'), hide (hHeld.2.2.2.1.out.below h1'), hide (bel_next hHeld.2.2.2.2.out h1')⟩) (fun hHeld => ?_)
    clear hK K h1'
    try simp only [Act.put, sI1, sI2, sI3]
    refine wpAnyH_ready (rs := [10]) (by kernel_rfl) (by simp) ?_
    refine AllReadyH.cons rfl (fun K hK => ?_) AllReadyH.nil
    ·go_simp
     refine (S2.out _).mono ?_
     rintro e w7 ⟨rfl, h1'⟩
     replace hz := hide (hz.out.below h1')
     refine hK.out _ _ (⟨hide (hHeld.1.out.below h1'), hide (hHeld.2.1.out.below h1'), hide (hHeld.2.2.1.out.below h1'), hide (hHeld.2.2.2.1.out.below h1'), hide (bel_next hHeld.2.2.2.2.out h1')⟩) (fun hHeld => ?_)
     clear hK K h1'
     try simp only [Act.put, sI1, sI2, sI3]
     refine wpAnyH_ready (rs := [12]) (by kernel_rfl) (by simp) ?_
     refine AllReadyH.cons rfl (fun K hK => ?_) AllReadyH.nil
     ·obtain ⟨y0, z0⟩ := ro_cf hz.out 0 _ rfl
      obtain ⟨y1, z1⟩ := ro_cf hz.out 1 _ rfl
      go_simp
      refine hK.out _ _ (⟨hide (ro_away2 (g' := w1.heap.size) hHeld.1.out (by omega)), hide (ro_away2 (g' := w1.heap.size) hHeld.2.1.out (by omega)), hide (ro_away2 (g' := w1.heap.size) hHeld.2.2.1.out (by omega)), hide (ro_away2 (g' := w1.heap.size) hHeld.2.2.2.1.out (by omega)), hide (bl_set2 (g := w1.heap.size) hHeld.2.2.2.2.out (by omega))⟩) (fun hHeld => ?_)
      clear hK K y0 y1 z0 z1
      replace hz := hide (ro_set2 (a := .int .i64 b1) (b := .int .i64 b2) hz.out)
      try simp only [Act.put, sI1, sI2, sI3]
      refine wpAnyH_done (by kernel_rfl) ?_ _
      go_wp2_with fail
      go_meet
      exact ⟨w1.heap.size, rfl, hz.out, hHeld.1.out, hHeld.2.1.out, hHeld.2.2.1.out, hHeld.2.2.2.1.out, hHeld.2.2.2.2.out, by omega, by omega, by omega, by omega⟩
 obtain ⟨g7, rfl, h7, hR', h4', h5', h6', hb', m0, m4, m5, m6⟩ := hcut
 obtain ⟨x60, _⟩ := ro_cf h6' 0 _ rfl
 obtain ⟨x61, _⟩ := ro_cf h6' 1 _ rfl
 obtain ⟨x70, _⟩ := ro_cf h7 0 _ rfl
 obtain ⟨x71, _⟩ := ro_cf h7 1 _ rfl
 obtain ⟨x40, y40⟩ := ro_cf h4' 0 _ rfl
 obtain ⟨x41, y41⟩ := ro_cf h4' 1 _ rfl
 obtain ⟨x50, y50⟩ := ro_cf h5' 0 _ rfl
 obtain ⟨x51, y51⟩ := ro_cf h5' 1 _ rfl
 have ne45 : ¬ w.heap.size + 1 = w.heap.size + 1 + 1 := by omega
 clear D1 D2 S1 S2 hcs h7 h6' hR' f1 f2 h6 hR h4 h5 hb
 go_upto_region 3 with fail
 go_region
 all_goals
  go_wp2
  refine bodyPost_ret (v := .tuple #[.agg #[.int .i64 a1, .int .i64 a2], .agg #[.int .i64 b1, .int .i64 b2]]) (by simp [results, Tryz.results116, go_sem, x40, x41, x50, x51]) rfl ⟨rfl, ?_⟩
  exact bl_set2 (bl_set2 (bel_drewN hb' _) (by omega)) (by omega)
end r11_
def Lst (A B : Int → Prop) (t : Int) (fd on : Bool) (L : Int) : Prop :=
 (fd = false ∧ on = false ∧ ∀ c, A c ∨ B c → t < c) ∨ (fd = true ∧ L ≤ t ∧ (∀ c, A c ∨ B c → c ≤ t → c ≤ L) ∧ (A L ∨ B L) ∧ (on = true ↔ A L))
section
variable {A B : Int → Prop} {t L b : Int} {fd on : Bool}
theorem Lst.start (t L : Int) : Lst (fun _ => False) (fun _ => False) t false false L := .inl ⟨rfl, rfl, fun _ h => by simp at h⟩
theorem Lst.congr {A' B' : Int → Prop} (h : Lst A B t fd on L) (ha : ∀ c, A' c ↔ A c) (hb : ∀ c, B' c ↔ B c) : Lst A' B' t fd on L := by
 have e1 : A' = A := by funext c; exact propext (ha c)
 have e2 : B' = B := by funext c; exact propext (hb c)
 rw [e1, e2]; exact h
theorem Lst.skipB (h : Lst A B t fd on L) (hb : t < b) : Lst A (fun c => B c ∨ c = b) t fd on L := by
 rcases h with ⟨h1, h2, h3⟩ | ⟨h1, h2, h3, h4, h5⟩
 ·refine .inl ⟨h1, h2, fun c hc => ?_⟩
  rcases hc with hc | hc | rfl
  ·exact h3 c (.inl hc)
  ·exact h3 c (.inr hc)
  ·exact hb
 ·refine .inr ⟨h1, h2, fun c hc hct => ?_, h4.imp id .inl, h5⟩
  rcases hc with hc | hc | rfl
  ·exact h3 c (.inl hc) hct
  ·exact h3 c (.inr hc) hct
  ·omega
theorem Lst.takeB (h : Lst A B t fd on L) (hb : b ≤ t) (hl : fd = false ∨ L < b) : Lst A (fun c => B c ∨ c = b) t true false b := by
 have hn : ∀ c, A c ∨ B c → c ≤ t → c < b := by
  intro c hc hct
  rcases h with ⟨_, _, h3⟩ | ⟨h1, h2, h3, h4, h5⟩
  ·have := h3 c hc; omega
  ·rcases hl with hl | hl
   ·rw [hl] at h1; cases h1
   ·have := h3 c hc hct; omega
 refine .inr ⟨rfl, hb, fun c hc hct => ?_, .inr (.inr rfl), by simp only [Bool.false_eq_true, false_iff]; intro ha; have := hn b (.inl ha) hb; omega⟩
 rcases hc with hc | hc | rfl
 ·have := hn c (.inl hc) hct; omega
 ·have := hn c (.inr hc) hct; omega
 ·exact Int.le_refl _
theorem Lst.keepB (h : Lst A B t fd on L) (hf : fd = true) (hb : b ≤ L) : Lst A (fun c => B c ∨ c = b) t fd on L := by
 rcases h with ⟨h1, _, _⟩ | ⟨h1, h2, h3, h4, h5⟩
 ·rw [h1] at hf; cases hf
 ·refine .inr ⟨h1, h2, fun c hc hct => ?_, h4.imp id .inl, h5⟩
  rcases hc with hc | hc | rfl
  ·exact h3 c (.inl hc) hct
  ·exact h3 c (.inr hc) hct
  ·exact hb
theorem Lst.skipA (h : Lst A B t fd on L) (hb : t < b) : Lst (fun c => A c ∨ c = b) B t fd on L := by
 rcases h with ⟨h1, h2, h3⟩ | ⟨h1, h2, h3, h4, h5⟩
 ·refine .inl ⟨h1, h2, fun c hc => ?_⟩
  rcases hc with (hc | rfl) | hc
  ·exact h3 c (.inl hc)
  ·exact hb
  ·exact h3 c (.inr hc)
 ·refine .inr ⟨h1, h2, fun c hc hct => ?_, h4.imp .inl id, h5.trans ⟨.inl, fun hh => ?_⟩⟩
  ·rcases hc with (hc | rfl) | hc
   ·exact h3 c (.inl hc) hct
   ·omega
   ·exact h3 c (.inr hc) hct
  ·rcases hh with hh | hh
   ·exact hh
   ·omega
theorem Lst.takeA (h : Lst A B t fd on L) (hb : b ≤ t) (hl : fd = false ∨ L ≤ b) : Lst (fun c => A c ∨ c = b) B t true true b := by
 have hn : ∀ c, A c ∨ B c → c ≤ t → c ≤ b := by
  intro c hc hct
  rcases h with ⟨_, _, h3⟩ | ⟨h1, h2, h3, h4, h5⟩
  ·have := h3 c hc; omega
  ·rcases hl with hl | hl
   ·rw [hl] at h1; cases h1
   ·have := h3 c hc hct; omega
 refine .inr ⟨rfl, hb, fun c hc hct => ?_, .inl (.inr rfl), by simp⟩
 rcases hc with (hc | rfl) | hc
 ·exact hn c (.inl hc) hct
 ·exact Int.le_refl _
 ·exact hn c (.inr hc) hct
theorem Lst.keepA (h : Lst A B t fd on L) (hf : fd = true) (hb : b < L) : Lst (fun c => A c ∨ c = b) B t fd on L := by
 rcases h with ⟨h1, _, _⟩ | ⟨h1, h2, h3, h4, h5⟩
 ·rw [h1] at hf; cases hf
 ·refine .inr ⟨h1, h2, fun c hc hct => ?_, h4.imp .inl id, h5.trans ⟨.inl, fun hh => ?_⟩⟩
  ·rcases hc with (hc | rfl) | hc
   ·exact h3 c (.inl hc) hct
   ·omega
   ·exact h3 c (.inr hc) hct
  ·rcases hh with hh | hh
   ·exact hh
   ·omega
end
def chs (d : RD) (o lo y c : Int) : Prop := ∃ z, lo ≤ z ∧ z < y ∧ c = chI d o z
theorem chs_succ {d : RD} {o lo y : Int} (h : lo ≤ y) (c : Int) : chs d o lo (y + 1) c ↔ chs d o lo y c ∨ c = chI d o y := by
 constructor
 ·rintro ⟨z, h1, h2, h3⟩
  by_cases hz : z = y
  ·subst hz; exact .inr h3
  ·exact .inl ⟨z, h1, by omega, h3⟩
 ·rintro (⟨z, h1, h2, h3⟩ | rfl)
  ·exact ⟨z, h1, by omega, h3⟩
  ·exact ⟨y, h, by omega, rfl⟩
theorem chs_zero {d : RD} {o lo : Int} (c : Int) : chs d o lo lo c ↔ False := ⟨fun ⟨z, h1, h2, _⟩ => by omega, fun h => h.elim⟩
theorem Lst.on {st en : RD} (hs : rdOk st) (he : rdOk en) {so dof t Y L : Int} {fd on : Bool} (so0 : -89999 ≤ so ∧ so ≤ 89999) (do0 : -89999 ≤ dof ∧ dof ≤ 89999) (t0 : ystart Y * 86400 ≤ t) (t1 : t < ystart (Y + 1) * 86400)
 (h : Lst (chs st so (Y - 3) (Y + 3)) (chs en dof (Y - 3) (Y + 3)) t fd on L) : on = true ↔ onS st en so dof t := by
 obtain ⟨ya, a1, a2⟩ := chI_ex hs so t
 obtain ⟨yb, b1, b2⟩ := chI_ex he dof t
 have wa := chI_win hs so0 t0 t1 a1 a2
 have wb := chI_win he do0 t0 t1 b1 b2
 rw [onS_iff hs he a1 a2 b1 b2]
 have ma : chs st so (Y - 3) (Y + 3) (chI st so ya) := ⟨ya, by omega, by omega, rfl⟩
 have mb : chs en dof (Y - 3) (Y + 3) (chI en dof yb) := ⟨yb, by omega, by omega, rfl⟩
 rcases h with ⟨_, _, h3⟩ | ⟨_, h2, h3, h4, h5⟩
 ·have := h3 _ (.inl ma); omega
 ·rw [h5]
  have ga := h3 _ (.inl ma) a1
  have gb := h3 _ (.inr mb) b1
  constructor
  ·rintro ⟨z, z1, z2, rfl⟩
   have := (chI_le hs so).2 (chI_uniq hs so a1 a2 h2)
   omega
  ·intro hle
   rcases h4 with h4 | ⟨z, z1, z2, rfl⟩
   ·exact h4
   ·have := (chI_le he dof).2 (chI_uniq he dof b1 b2 h2)
    have e : chI en dof z = chI st so ya := by omega
    rw [e]; exact ma
end Go.Proofs.YtbehflfpdkedgaaGreatDoor
