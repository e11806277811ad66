/-
  CONTRACTS OF PACKAGE ruleday, as it landed at 9a58981.
-/
import Derived.Test.YtgonchceckifcaaDoorTab
import Derived.Test.YtgonchceckifcaaDoorRdRef2
import Derived.Test.YtgonchceckifcaaDoorMapf
import Derived.Deep.RegionHeld3
import Derived.Deep.DeepCutAuto
namespace Go.Proofs.YtgonchceckifcaaDoor
open Go.ChangeShapes Go.WideShapes Go.ChangeAt Go.RowKit Go.Maps
set_option linter.unusedVariables false
namespace rd_
theorem between_ (v a b : Int) (w : World) : Calls Tryd.prog 22 #[.int .i64 v, .int .i64 a, .int .i64 b] w fun e w' => e = .returned (.bool (decide (a ≤ v ∧ v ≤ b))) ∧ w = w' := by
  by_cases h : a ≤ v
  all_goals
    go_enter Tryd.func22, Tryd.ntmps22
    go_wp2
    go_ret
    exact ⟨retb (by first | (simp [h]; done) | (simp; omega)), rfl⟩
/-- the closure of the two kinds that number the days. -/
def fnN (g : Nat) : Value := .func (.func 34) #[] #[.pointer (some ⟨g, 0, none⟩)]
def fnM : Value := .func (.func 27) #[] #[]
theorem numbered_ (n : Int) (w : World) : Calls Tryd.prog 26 #[.int .i64 n] w fun e w' => e = .returned (fnN w.heap.size) ∧ Bx w' w.heap.size [.int .i64 n] ∧ Below w.heap.size w w' := by
  have hmf : ∀ (fn : Fn) (first cap : Array Value) (w : World), (Instr.makeFunc fn first cap).run Tryd.prog w = .ok (.func fn first cap) w := fun _ _ _ _ => rfl
  go_enter Tryd.func26, Tryd.ntmps26
  go_wp2
  go_ret
  exact ⟨rfl, Bx.new w [.int .i64 n] _, bl_new _ _⟩
/-- the table of the checks. -/
def Chk (w : World) (B g1 g0 : Nat) : Prop :=
  w.ownsMap Tryd.prog 3 heldE B 3 (three (fnN g1) (fnN g0) fnM) ∧ Bx w g1 [.int .i64 1] ∧ Bx w g0 [.int .i64 0]
theorem Chk.below {w w' : World} {B g1 g0 : Nat} (h : Chk w B g1 g0) (hb : Below w.heap.size w w') : Chk w' B g1 g0 := ⟨own_below h.1 hb, h.2.1.below hb, h.2.2.below hb⟩
theorem law : Keyed Tryd.prog 3 := int_keyed Tryd.underlying3
theorem keyl {K : Int} (h : (Lit.int .i64 K).wf = true) : keyOf Tryd.prog 3 (.int .i64 K) = some (.int .i64 K) := keyOf_int_mk Tryd.underlying3 h
set_option maxHeartbeats 2000000 in
theorem checks_ (w : World) : Calls Tryd.prog 21 #[] w fun e w' => ∃ B g1 g0, e = .returned (.map (some B)) ∧ Chk w' B g1 g0 ∧ Below w.heap.size w w' := by
  have hmm := @run_makeMap Tryd.prog
  have o0 := hide (World.ownsMap_made w Tryd.prog 3 heldE)
  have b0 := hide (bl_new w (.map #[] 0))
  go_enter Tryd.func21, Tryd.ntmps21
  go_wp2_with fail
  refine (numbered_ 1 _).mono ?_
  rintro e w1 ⟨rfl, x1, h1⟩
  replace o0 := hide (own_below o0.out h1)
  replace b0 := hide (bel_next b0.out h1)
  have s1 := h1.size
  have z0 : (w.alloc (.map #[] 0)).heap.size = w.heap.size + 1 := by simp
  rw [z0] at s1 x1
  go_wp2_with (refine wpList_insert_held _ rfl _ _ _ 40 rfl 3 25 law Tryd.underlying40 w.heap.size 0 (.map []) rfl o0.out (by decide) _ (fnN (w.heap.size + 1)) (.int .i64 1) rfl rfl (keyl (by decide)) ?_; intro w2 o2 g2)
  have s2 := g2.size
  replace x1 := hide (x1.grown g2 (by simp))
  replace b0 := hide (b0.out.grown g2 (by omega) (fun j hj => by cases hj; omega))
  clear o0 g2 h1
  replace o2 := hide o2
  refine (numbered_ 0 _).mono ?_
  rintro e w3 ⟨rfl, x3, h3⟩
  have s3 := h3.size
  replace o2 := hide (own_below o2.out h3)
  replace x1 := hide (x1.out.below h3)
  replace b0 := hide (b0.out.trans (h3.mono (by omega)))
  replace x3 := hide x3
  clear h3
  go_wp2_with (first | (refine wpList_insert_held _ rfl _ _ _ 40 rfl 3 25 law Tryd.underlying40 w.heap.size 1 _ rfl o2.out (by decide) _ (fnN w2.heap.size) (.int .i64 2) rfl rfl (keyl (by decide)) ?_; intro w4 o4 g4) | (refine wpList_insert_held _ rfl _ _ _ 40 rfl 3 25 law Tryd.underlying40 w.heap.size 2 _ rfl (hide o4).out (by decide) _ fnM (.int .i64 3) rfl rfl (keyl (by decide)) ?_; intro w5 o5 g5))
  have s4 := g4.size
  have s5 := g5.size
  go_ret
  exact ⟨_, _, _, rfl, ⟨o5, (x1.out.grown g4 (by simp)).grown g5 (by simp), (x3.out.grown g4 (by simp; omega)).grown g5 (by simp; omega)⟩, (b0.out.grown g4 (by omega) (fun j hj => by cases hj; omega)).grown g5 (by omega) (fun j hj => by cases hj; omega)⟩
set_option maxHeartbeats 2000000 in
theorem month_ (K D M Wk Wd T : Int) (w : World) : Calls Tryd.prog 27 #[vrd K D M Wk Wd T] w fun e w' => e = .returned (.bool (decide (1 ≤ M ∧ M ≤ 12 ∧ 1 ≤ Wk ∧ Wk ≤ 5 ∧ 0 ≤ Wd ∧ Wd ≤ 6 ∧ D = 0))) ∧ Below w.heap.size w w' := by
  have A := hide (fun (v a b : Int) w => between_ v a b w)
  unfold vrd
  by_cases h1 : 1 ≤ M ∧ M ≤ 12
  all_goals by_cases h2 : 1 ≤ Wk ∧ Wk ≤ 5
  all_goals by_cases h3 : 0 ≤ Wd ∧ Wd ≤ 6
  all_goals
    go_enter Tryd.func27, Tryd.ntmps27
    go_wp2_with (go_at_call 22; refine (A.out _ _ _ _).mono ?_; rintro e w' ⟨rfl, rfl⟩)
    go_ret
    refine ⟨retb ?_, bl_new _ _⟩
    by_cases h4 : D = 0
    all_goals simp [h1, h2, h3, h4]
    all_goals try omega
set_option maxHeartbeats 2000000 in
theorem closed_ (n K D M Wk Wd T : Int) (w : World) (g : Nat) (hx : Bx w g [.int .i64 n]) : Calls Tryd.prog 34 #[vrd K D M Wk Wd T, .pointer (some ⟨g, 0, none⟩)] w fun e w' => e = .returned (.bool (decide (M = 0 ∧ Wk = 0 ∧ Wd = 0 ∧ n ≤ D ∧ D ≤ 365))) ∧ Below w.heap.size w w' := by
  have A := hide (fun (v a b : Int) w => between_ v a b w)
  unfold vrd
  obtain ⟨p, hp⟩ : ∃ p, p = decide (M = 0 ∧ Wk = 0 ∧ Wd = 0) := ⟨_, rfl⟩
  have hcmp : ∀ w : World, (binOp .eql 23 (.agg #[.int .i64 K, .int .i64 D, .int .i64 M, .int .i64 Wk, .int .i64 Wd, .int .i64 T]) (.agg #[.int .i64 K, .int .i64 D, .int .i64 0, .int .i64 0, .int .i64 0, .int .i64 T])).run Tryd.prog w = .ok (.bool p) w := by
    intro w
    rw [hp]
    simp [go_sem]
    by_cases a : M = 0 <;> by_cases b : Wk = 0 <;> by_cases c : Wd = 0 <;> simp [a, b, c]
  replace hp := hide hp
  have hc : ∀ o1 o2, ((w.alloc o1).alloc o2).cell? ⟨g, 0, none⟩ = some (.int .i64 n) := fun o1 o2 => (hx.alloc o1).alloc o2 |>.2.1 0 _ rfl
  have hb := hide (fun o1 o2 => bl_alloc (bl_new w o1) o2)
  clear hx
  cases p
  all_goals
    go_enter Tryd.func34, Tryd.ntmps34
    go_wp2_with (go_at_call 22; refine (A.out _ _ _ _).mono ?_; rintro e w' ⟨rfl, rfl⟩)
    go_ret
    refine ⟨retb ?_, hb.out _ _⟩
    have h := hp.out
  · symm at h
    rw [decide_eq_false_iff_not] at h
    symm
    rw [decide_eq_false_iff_not]
    omega
  · symm at h
    rw [decide_eq_true_iff] at h
    rw [Bool.eq_iff_iff, decide_eq_true_iff, Bool.and_eq_true, decide_eq_true_iff, decide_eq_true_iff]
    omega
set_option maxHeartbeats 4000000 in
theorem Valid1 (D M Wk Wd T : Int) (w : World) : Calls Tryd.prog 9 #[vrd 1 D M Wk Wd T] w fun e w' => e = .returned (.bool (decide (RdOk 1 D M Wk Wd T))) ∧ Below w.heap.size w w' := by
  have A := hide (fun (v a b : Int) w => between_ v a b w)
  have C := hide (fun w => checks_ w)
  have hb := hide (bl_new w (.cells #[.int .i64 1, .int .i64 D, .int .i64 M, .int .i64 Wk, .int .i64 Wd, .int .i64 T] 23))
  have bx := hide (Bx.new w [.int .i64 1, .int .i64 D, .int .i64 M, .int .i64 Wk, .int .i64 Wd, .int .i64 T] 23)
  have bxd := hide (bx.out.drew)
  have hbd := hide (bl_drew hb.out)
  have zf : ∀ w, (zeroValue 25).run Tryd.prog w = .ok .nilFunc w := fun _ => rfl
  unfold vrd
  go_enter Tryd.func9, Tryd.ntmps9
  go_upto_region 1 with fail
  go_region_with (go_at_call 21; refine (C.out _).mono ?_; rintro e w6 ⟨B, g1, g0, rfl, hc, h1'⟩; have hl := held_look_ok hc.1 law Tryd.underlying40 (zf _) (keyl (by decide)) (three_1 _ _ _).1 (three_1 _ _ _).2; simp only [fnN] at hl; obtain ⟨y0, y1, y2, y3, y4, y5⟩ := cells6 (Bx.below bxd.out h1'); have hbf := hide (bel_next hbd.out h1'); have bxf := hide (bxd.out.below h1'); replace hc := hide hc; clear h1')
  all_goals
    clear bx bxd hbd hb
    by_cases hT : -604799 ≤ T ∧ T ≤ 604799
    · go_wp2_with (first
        | (go_at_call 22; refine (A.out _ _ _ _).mono ?_; rintro e w' ⟨rfl, rfl⟩)
        | (refine (closed_ 1 1 D M Wk Wd T _ _ hc.out.2.1).mono ?_; rintro e w7 ⟨rfl, h7⟩))
      go_ret
      refine ⟨retb ?_, bel_next hbf.out h7⟩
      rw [Bool.eq_iff_iff, decide_eq_true_iff]
      simp only [Bool.and_eq_true, decide_eq_true_eq]
      unfold RdOk
      omega
    · go_wp2_with (go_at_call 22; refine (A.out _ _ _ _).mono ?_; rintro e w' ⟨rfl, rfl⟩)
      go_ret
      refine ⟨retb ?_, hbf.out⟩
      symm
      rw [decide_eq_false_iff_not]
      unfold RdOk
      omega
set_option maxHeartbeats 4000000 in
theorem Valid2 (D M Wk Wd T : Int) (w : World) : Calls Tryd.prog 9 #[vrd 2 D M Wk Wd T] w fun e w' => e = .returned (.bool (decide (RdOk 2 D M Wk Wd T))) ∧ Below w.heap.size w w' := by
  have A := hide (fun (v a b : Int) w => between_ v a b w)
  have C := hide (fun w => checks_ w)
  have hb := hide (bl_new w (.cells #[.int .i64 2, .int .i64 D, .int .i64 M, .int .i64 Wk, .int .i64 Wd, .int .i64 T] 23))
  have bx := hide (Bx.new w [.int .i64 2, .int .i64 D, .int .i64 M, .int .i64 Wk, .int .i64 Wd, .int .i64 T] 23)
  have bxd := hide (bx.out.drew)
  have hbd := hide (bl_drew hb.out)
  have zf : ∀ w, (zeroValue 25).run Tryd.prog w = .ok .nilFunc w := fun _ => rfl
  unfold vrd
  go_enter Tryd.func9, Tryd.ntmps9
  go_upto_region 1 with fail
  go_region_with (go_at_call 21; refine (C.out _).mono ?_; rintro e w6 ⟨B, g1, g0, rfl, hc, h1'⟩; have hl := held_look_ok hc.1 law Tryd.underlying40 (zf _) (keyl (by decide)) (three_2 _ _ _).1 (three_2 _ _ _).2; simp only [fnN] at hl; obtain ⟨y0, y1, y2, y3, y4, y5⟩ := cells6 (Bx.below bxd.out h1'); have hbf := hide (bel_next hbd.out h1'); have bxf := hide (bxd.out.below h1'); replace hc := hide hc; clear h1')
  all_goals
    clear bx bxd hbd hb
    by_cases hT : -604799 ≤ T ∧ T ≤ 604799
    · go_wp2_with (first
        | (go_at_call 22; refine (A.out _ _ _ _).mono ?_; rintro e w' ⟨rfl, rfl⟩)
        | (refine (closed_ 0 2 D M Wk Wd T _ _ hc.out.2.2).mono ?_; rintro e w7 ⟨rfl, h7⟩))
      go_ret
      refine ⟨retb ?_, bel_next hbf.out h7⟩
      rw [Bool.eq_iff_iff, decide_eq_true_iff]
      simp only [Bool.and_eq_true, decide_eq_true_eq]
      unfold RdOk
      omega
    · go_wp2_with (go_at_call 22; refine (A.out _ _ _ _).mono ?_; rintro e w' ⟨rfl, rfl⟩)
      go_ret
      refine ⟨retb ?_, hbf.out⟩
      symm
      rw [decide_eq_false_iff_not]
      unfold RdOk
      omega
set_option maxHeartbeats 4000000 in
theorem Valid3 (D M Wk Wd T : Int) (w : World) : Calls Tryd.prog 9 #[vrd 3 D M Wk Wd T] w fun e w' => e = .returned (.bool (decide (RdOk 3 D M Wk Wd T))) ∧ Below w.heap.size w w' := by
  have A := hide (fun (v a b : Int) w => between_ v a b w)
  have C := hide (fun w => checks_ w)
  have hb := hide (bl_new w (.cells #[.int .i64 3, .int .i64 D, .int .i64 M, .int .i64 Wk, .int .i64 Wd, .int .i64 T] 23))
  have bx := hide (Bx.new w [.int .i64 3, .int .i64 D, .int .i64 M, .int .i64 Wk, .int .i64 Wd, .int .i64 T] 23)
  have bxd := hide (bx.out.drew)
  have hbd := hide (bl_drew hb.out)
  have zf : ∀ w, (zeroValue 25).run Tryd.prog w = .ok .nilFunc w := fun _ => rfl
  unfold vrd
  go_enter Tryd.func9, Tryd.ntmps9
  go_upto_region 1 with fail
  go_region_with (go_at_call 21; refine (C.out _).mono ?_; rintro e w6 ⟨B, g1, g0, rfl, hc, h1'⟩; have hl := held_look_ok hc.1 law Tryd.underlying40 (zf _) (keyl (by decide)) (three_3 _ _ _).1 (three_3 _ _ _).2; simp only [fnM] at hl; obtain ⟨y0, y1, y2, y3, y4, y5⟩ := cells6 (Bx.below bxd.out h1'); have hbf := hide (bel_next hbd.out h1'); have bxf := hide (bxd.out.below h1'); replace hc := hide hc; clear h1')
  all_goals
    clear bx bxd hbd hb
    by_cases hT : -604799 ≤ T ∧ T ≤ 604799
    · go_wp2_with (first
        | (go_at_call 22; refine (A.out _ _ _ _).mono ?_; rintro e w' ⟨rfl, rfl⟩)
        | (refine (month_ 3 D M Wk Wd T _).mono ?_; rintro e w7 ⟨rfl, h7⟩))
      go_ret
      refine ⟨retb ?_, bel_next hbf.out h7⟩
      rw [Bool.eq_iff_iff, decide_eq_true_iff]
      simp only [Bool.and_eq_true, decide_eq_true_eq]
      unfold RdOk
      omega
    · go_wp2_with (go_at_call 22; refine (A.out _ _ _ _).mono ?_; rintro e w' ⟨rfl, rfl⟩)
      go_ret
      refine ⟨retb ?_, hbf.out⟩
      symm
      rw [decide_eq_false_iff_not]
      unfold RdOk
      omega
set_option maxHeartbeats 4000000 in
theorem Valid0 (K D M Wk Wd T : Int) (w : World) (hw : (Lit.int .i64 K).wf = true) (n1 : K ≠ 1) (n2 : K ≠ 2) (n3 : K ≠ 3) : Calls Tryd.prog 9 #[vrd K D M Wk Wd T] w fun e w' => e = .returned (.bool (decide (RdOk K D M Wk Wd T))) ∧ Below w.heap.size w w' := by
  have A := hide (fun (v a b : Int) w => between_ v a b w)
  have C := hide (fun w => checks_ w)
  have hb := hide (bl_new w (.cells #[.int .i64 K, .int .i64 D, .int .i64 M, .int .i64 Wk, .int .i64 Wd, .int .i64 T] 23))
  have bx := hide (Bx.new w [.int .i64 K, .int .i64 D, .int .i64 M, .int .i64 Wk, .int .i64 Wd, .int .i64 T] 23)
  have bxd := hide (bx.out.drew)
  have hbd := hide (bl_drew hb.out)
  have zf : ∀ w, (zeroValue 25).run Tryd.prog w = .ok .nilFunc w := fun _ => rfl
  unfold vrd
  go_enter Tryd.func9, Tryd.ntmps9
  go_upto_region 1 with fail
  go_region_with (go_at_call 21; refine (C.out _).mono ?_; rintro e w6 ⟨B, g1, g0, rfl, hc, h1'⟩; have hl := held_look_ok hc.1 law Tryd.underlying40 (zf _) (keyl hw) (three_no _ _ _ n1 n2 n3).1 (three_no _ _ _ n1 n2 n3).2;  obtain ⟨y0, y1, y2, y3, y4, y5⟩ := cells6 (Bx.below bxd.out h1'); have hbf := hide (bel_next hbd.out h1'); have bxf := hide (bxd.out.below h1'); replace hc := hide hc; clear h1')
  all_goals
    clear bx bxd hbd hb
    go_wp2
    go_ret
    refine ⟨retb ?_, hbf.out⟩
    symm
    rw [decide_eq_false_iff_not]
    unfold RdOk
    omega
theorem Valid (K D M Wk Wd T : Int) (w : World) (hT : Tb w) (hw : (Lit.int .i64 K).wf = true) : Calls Tryd.prog 9 #[vrd K D M Wk Wd T] w fun e w' => e = .returned (.bool (decide (RdOk K D M Wk Wd T))) ∧ Below w.heap.size w w' := by
  rcases (show K = 1 ∨ K = 2 ∨ K = 3 ∨ (K ≠ 1 ∧ K ≠ 2 ∧ K ≠ 3) by omega) with rfl | rfl | rfl | ⟨n1, n2, n3⟩
  · exact Valid1 D M Wk Wd T w
  · exact Valid2 D M Wk Wd T w
  · exact Valid3 D M Wk Wd T w
  · exact Valid0 K D M Wk Wd T w hw n1 n2 n3
theorem days_from (y M d : Int) : days y M d = days y M 1 + (d - 1) := by unfold days yday; omega
def fnJ : Value := .func (.func 28) #[] #[]
def fnZ : Value := .func (.func 31) #[] #[]
def fnP : Value := .func (.func 32) #[] #[]
/-- the table of the places. -/
def Plc (w : World) (B : Nat) : Prop := w.ownsMap Tryd.prog 3 heldE B 3 (three fnJ fnZ fnP)
theorem Plc.own {w : World} {B : Nat} (h : Plc w B) : w.ownsMap Tryd.prog 3 heldE B 3 (three fnJ fnZ fnP) := h
set_option maxHeartbeats 2000000 in
theorem places_ (w : World) : Calls Tryd.prog 23 #[] w fun e w' => ∃ B, e = .returned (.map (some B)) ∧ Plc w' B ∧ Below w.heap.size w w' := by
  have hmm := @run_makeMap Tryd.prog
  have o0 := hide (World.ownsMap_made w Tryd.prog 3 heldE)
  have b0 := hide (bl_new w (.map #[] 0))
  have z0 : (w.alloc (.map #[] 0)).heap.size = w.heap.size + 1 := by simp
  go_enter Tryd.func23, Tryd.ntmps23
  go_wp2_with (first
    | (refine wpList_insert_held _ rfl _ _ _ 43 rfl 3 27 law Tryd.underlying43 w.heap.size 0 (.map []) rfl o0.out (by decide) _ fnJ (.int .i64 1) rfl rfl (keyl (by decide)) ?_; intro w2 o2 g2)
    | (refine wpList_insert_held _ rfl _ _ _ 43 rfl 3 27 law Tryd.underlying43 w.heap.size 1 _ rfl (hide o2).out (by decide) _ fnZ (.int .i64 2) rfl rfl (keyl (by decide)) ?_; intro w4 o4 g4)
    | (refine wpList_insert_held _ rfl _ _ _ 43 rfl 3 27 law Tryd.underlying43 w.heap.size 2 _ rfl (hide o4).out (by decide) _ fnP (.int .i64 3) rfl rfl (keyl (by decide)) ?_; intro w5 o5 g5))
  have s2 := g2.size
  have s4 := g4.size
  have s5 := g5.size
  go_ret
  exact ⟨_, rfl, o5, ((b0.out.grown g2 (by omega) (fun j hj => by cases hj; omega)).grown g4 (by omega) (fun j hj => by cases hj; omega)).grown g5 (by omega) (fun j hj => by cases hj; omega)⟩
theorem vd1 {y M d : Int} (h0 : -200000000001 ≤ y) (h1 : y ≤ 200000000001) (hd : DateOk y M d) : Vd y M d := ⟨by omega, by omega, hd⟩
theorem ok1 {y M : Int} (h0 : 1 ≤ M) (h1 : M ≤ 12) : DateOk y M 1 := ⟨h0, h1, by omega, by have := mdays_bd y M; omega⟩
set_option maxHeartbeats 2000000 in
theorem zero_ (K D M Wk Wd T y : Int) (w : World) (hT : Tb w) (h0 : -200000000001 ≤ y) (h1 : y ≤ 200000000001) (d0 : 0 ≤ D) (d1 : D ≤ 366) : Calls Tryd.prog 31 #[vrd K D M Wk Wd T, .int .i64 y] w fun e w' => e = .returned (.int .i64 (ystart y + D)) ∧ Below w.heap.size w w' := by
  have hs := r6_.ystart_bd h0 h1
  have C := hide (fun w hT => cv_.Days y 1 1 w hT (vd1 h0 h1 (ok1 (by omega) (by omega))))
  rw [days_first] at C
  generalize ystart y = s at *
  obtain ⟨s0, s1⟩ := hs
  have hb := hide (bl_new w (.cells #[.int .i64 K, .int .i64 D, .int .i64 M, .int .i64 Wk, .int .i64 Wd, .int .i64 T] 23))
  have bx := hide (Bx.new w [.int .i64 K, .int .i64 D, .int .i64 M, .int .i64 Wk, .int .i64 Wd, .int .i64 T] 23)
  have HT := hide (hT.below hb.out)
  have bxd := hide (bx.out.drew)
  have hbd := hide (bl_drew hb.out)
  have HTd : Hid (Tb (w.alloc (.cells #[.int .i64 K, .int .i64 D, .int .i64 M, .int .i64 Wk, .int .i64 Wd, .int .i64 T] 23)).drew) := HT
  clear hT
  have e1 : IntKind.i64.wrap (s + D) = s + D := by rw [IntKind.wrap_i64]; omega
  unfold vrd
  go_enter Tryd.func31, Tryd.ntmps31
  go_upto_region 1 with fail
  go_region_with (go_at_call 29; with_reducible refine (C.out _ HTd.out).mono ?_; rintro e w6 ⟨rfl, h1'⟩; obtain ⟨y0, y1, y2, y3, y4, y5⟩ := cells6 (Bx.below bxd.out h1'); have hbf := hide (bel_next hbd.out h1'); clear h1')
  all_goals
    go_wp2
    go_ret
    exact ⟨rfl, hbf.out⟩
set_option maxHeartbeats 4000000 in
theorem julian_ (K D M Wk Wd T y : Int) (w : World) (hT : Tb w) (h0 : -200000000001 ≤ y) (h1 : y ≤ 200000000001) (d0 : 1 ≤ D) (d1 : D ≤ 365) : Calls Tryd.prog 28 #[vrd K D M Wk Wd T, .int .i64 y] w fun e w' => e = .returned (.int .i64 (rdj y D)) ∧ Below w.heap.size w w' := by
  have hs := r6_.ystart_bd h0 h1
  have C := hide (fun w hT => cv_.Days y 1 1 w hT (vd1 h0 h1 (ok1 (by omega) (by omega))))
  have L := hide (fun w hT => cv_.IsLeap y w hT (by omega) (by omega))
  have hr := hide (show rdj y D = ystart y + D - 1 + (if leap y = true ∧ 60 ≤ D then 1 else 0) from rfl)
  rw [days_first] at C
  generalize rdj y D = r at *
  generalize ystart y = s at *
  generalize leap y = lp at *
  obtain ⟨s0, s1⟩ := hs
  have hb := hide (bl_new w (.cells #[.int .i64 K, .int .i64 D, .int .i64 M, .int .i64 Wk, .int .i64 Wd, .int .i64 T] 23))
  have bx := hide (Bx.new w [.int .i64 K, .int .i64 D, .int .i64 M, .int .i64 Wk, .int .i64 Wd, .int .i64 T] 23)
  have HT := hide (hT.below hb.out)
  have bxd := hide (bx.out.drew)
  have hbd := hide (bl_drew hb.out)
  have HTd : Hid (Tb (w.alloc (.cells #[.int .i64 K, .int .i64 D, .int .i64 M, .int .i64 Wk, .int .i64 Wd, .int .i64 T] 23)).drew) := HT
  clear hT
  have e1 : IntKind.i64.wrap (s + D) = s + D := by rw [IntKind.wrap_i64]; omega
  have e2 : IntKind.i64.wrap (s + D - 1) = s + D - 1 := by rw [IntKind.wrap_i64]; omega
  have e3 : IntKind.i64.wrap (s + D - 1 + 1) = s + D - 1 + 1 := by rw [IntKind.wrap_i64]; omega
  unfold vrd
  go_enter Tryd.func28, Tryd.ntmps28
  go_upto_region 1 with fail
  go_region_with (go_at_call 29; with_reducible refine (C.out _ HTd.out).mono ?_; rintro e w6 ⟨rfl, h1'⟩; obtain ⟨y0, y1, y2, y3, y4, y5⟩ := cells6 (Bx.below bxd.out h1'); have hbf := hide (bel_next hbd.out h1'); have HTf := hide (HTd.out.below h1'); clear h1')
  all_goals
    rcases (show (D ≤ 59) ∨ (59 < D ∧ lp = true) ∨ (59 < D ∧ lp = false) by cases lp <;> simp <;> omega) with hd | ⟨hd, rfl⟩ | ⟨hd, rfl⟩
    · go_wp2
      go_ret
      exact ⟨reti (by rw [hr.out, if_neg (by omega)]; omega), hbf.out⟩
    · go_wp2_with (go_at_call 30; refine (L.out _ HTf.out).mono ?_; rintro e w7 ⟨rfl, h7⟩)
      go_ret
      exact ⟨reti (by rw [hr.out, if_pos (by simp; omega)]; omega), bel_next hbf.out h7⟩
    · go_wp2_with (go_at_call 30; refine (L.out _ HTf.out).mono ?_; rintro e w7 ⟨rfl, h7⟩)
      go_ret
      exact ⟨reti (by rw [hr.out, if_neg (by simp)]; omega), bel_next hbf.out h7⟩
set_option maxHeartbeats 4000000 in
theorem week_ (K D M Wk Wd T y : Int) (w : World) (hT : Tb w) (h0 : -200000000001 ≤ y) (h1 : y ≤ 200000000001) (m0 : 1 ≤ M) (m1 : M ≤ 12) (k0 : 1 ≤ Wk) (k1 : Wk ≤ 5) (d0 : 0 ≤ Wd) (d1 : Wd ≤ 6) :
    Calls Tryd.prog 33 #[vrd K D M Wk Wd T, .int .i64 y] w fun e w' => e = .returned (.int .i64 (rdm y M Wk Wd - days y M 1 + 1)) ∧ Below w.heap.size w w' := by
  have hv := vd1 (d := 1) h0 h1 (ok1 m0 m1)
  have hdm := hv.day
  have C := hide (fun w hT => cv_.Days y M 1 w hT hv)
  have W := hide (fun w hT => cv_.Weekday (days y M 1) w hT hdm.1 hdm.2)
  have L := hide (fun w hT => cv_.MonthDays y M w hT (by omega) (by omega) m0 m1)
  have hl := mdays_bd y M
  obtain ⟨q, hq⟩ : ∃ q, q = (Wd - (days y M 1 + 4)) % 7 := ⟨_, rfl⟩
  have q0 : 0 ≤ q := by omega
  have q1 : q ≤ 6 := by omega
  have hr : Hid (rdm y M Wk Wd - days y M 1 + 1 = if 1 + q + 7 * (Wk - 1) > mdays y M then 1 + q + 7 * (Wk - 1) - 7 else 1 + q + 7 * (Wk - 1)) := hide (by
    unfold rdm rfirst
    rw [← hq]
    generalize days y M 1 = s at *
    generalize mdays y M = l at *
    repeat' split
    all_goals omega)
  have et : (Wd - (days y M 1 + 4) % 7 + 7).tmod 7 = q := by rw [Int.tmod_eq_emod_of_nonneg (by omega)]; omega
  clear hq hdm hv
  generalize rdm y M Wk Wd - days y M 1 + 1 = r at *
  obtain ⟨f, hf⟩ : ∃ f, f = (days y M 1 + 4) % 7 := ⟨_, rfl⟩
  have f0 : 0 ≤ f := by omega
  have f1 : f ≤ 6 := by omega
  rw [← hf] at W et
  clear hf
  generalize days y M 1 = s at *
  generalize mdays y M = l at *
  obtain ⟨l0, l1⟩ := hl
  have hb := hide (bl_new w (.cells #[.int .i64 K, .int .i64 D, .int .i64 M, .int .i64 Wk, .int .i64 Wd, .int .i64 T] 23))
  have bx := hide (Bx.new w [.int .i64 K, .int .i64 D, .int .i64 M, .int .i64 Wk, .int .i64 Wd, .int .i64 T] 23)
  have HT := hide (hT.below hb.out)
  have bxd := hide (bx.out.drew)
  have hbd := hide (bl_drew hb.out)
  have HTd : Hid (Tb (w.alloc (.cells #[.int .i64 K, .int .i64 D, .int .i64 M, .int .i64 Wk, .int .i64 Wd, .int .i64 T] 23)).drew) := HT
  clear hT
  clear bxd hbd HTd
  unfold vrd
  go_enter Tryd.func33, Tryd.ntmps33
  obtain ⟨x0, x1, x2, x3, x4, x5⟩ := cells6 bx.out
  go_wp2_with fail
  refine (C.out _ HT.out).mono ?_
  rintro e w1 ⟨rfl, h1⟩
  replace bx := hide (bx.out.below h1)
  replace HT := hide (HT.out.below h1)
  replace hb := hide (bel_next hb.out h1)
  clear h1 x0 x1 x2 x3 x4 x5
  go_wp2_with fail
  refine (W.out _ HT.out).mono ?_
  rintro e w2 ⟨rfl, h1⟩
  replace bx := hide (bx.out.below h1)
  replace HT := hide (HT.out.below h1)
  replace hb := hide (bel_next hb.out h1)
  clear h1
  obtain ⟨x0, x1, x2, x3, x4, x5⟩ := cells6 bx.out
  go_wp2_with fail
  refine (L.out _ HT.out).mono ?_
  rintro e w3 ⟨rfl, h1⟩
  replace hb := hide (bel_next hb.out h1)
  clear h1 x0 x1 x2 x3 x4 x5 bx HT
  by_cases hgt : 1 + q + 7 * (Wk - 1) > l
  · go_wp2
    go_ret
    exact ⟨reti (by rw [hr.out, if_pos (by omega)]), hb.out⟩
  · go_wp2
    go_ret
    exact ⟨reti (by rw [hr.out, if_neg (by omega)]), hb.out⟩
set_option maxHeartbeats 4000000 in
theorem place_ (K D M Wk Wd T y : Int) (w : World) (hT : Tb w) (h0 : -200000000001 ≤ y) (h1 : y ≤ 200000000001) (m0 : 1 ≤ M) (m1 : M ≤ 12) (k0 : 1 ≤ Wk) (k1 : Wk ≤ 5) (d0 : 0 ≤ Wd) (d1 : Wd ≤ 6) :
    Calls Tryd.prog 32 #[vrd K D M Wk Wd T, .int .i64 y] w fun e w' => e = .returned (.int .i64 (rdm y M Wk Wd)) ∧ Below w.heap.size w w' := by
  have hrb := rdm_bd y M Wk Wd d0 d1 k0 k1
  have W := hide (fun w hT => week_ K D M Wk Wd T y w hT h0 h1 m0 m1 k0 k1 d0 d1)
  have C := hide (fun w hT => cv_.Days y M (rdm y M Wk Wd - days y M 1 + 1) w hT (vd1 h0 h1 ⟨m0, m1, by omega, by omega⟩))
  rw [days_from y M (rdm y M Wk Wd - days y M 1 + 1), show days y M 1 + (rdm y M Wk Wd - days y M 1 + 1 - 1) = rdm y M Wk Wd by omega] at C
  clear hrb
  generalize rdm y M Wk Wd - days y M 1 + 1 = d at *
  generalize rdm y M Wk Wd = r at *
  have hb := hide (bl_new w (.cells #[.int .i64 K, .int .i64 D, .int .i64 M, .int .i64 Wk, .int .i64 Wd, .int .i64 T] 23))
  have bx := hide (Bx.new w [.int .i64 K, .int .i64 D, .int .i64 M, .int .i64 Wk, .int .i64 Wd, .int .i64 T] 23)
  have HT := hide (hT.below hb.out)
  have bxd := hide (bx.out.drew)
  have hbd := hide (bl_drew hb.out)
  have HTd : Hid (Tb (w.alloc (.cells #[.int .i64 K, .int .i64 D, .int .i64 M, .int .i64 Wk, .int .i64 Wd, .int .i64 T] 23)).drew) := HT
  clear hT
  unfold vrd at *
  go_enter Tryd.func32, Tryd.ntmps32
  go_upto_region 1 with fail
  go_region_with (first
    | (go_at_call 33; with_reducible refine (W.out _ HTd.out).mono ?_; rintro e w6 ⟨rfl, h1'⟩; obtain ⟨y0, y1, y2, y3, y4, y5⟩ := cells6 (Bx.below bxd.out h1'); have hbf := hide (bel_next hbd.out h1'); have HTf := hide (HTd.out.below h1'); clear h1')
    | (go_at_call 29; with_reducible refine (C.out _ HTf.out).mono ?_; rintro e w7 ⟨rfl, h1'⟩; replace hbf := hide (bel_next hbf.out h1'); clear h1'))
  all_goals
    go_wp2
    go_ret
    exact ⟨rfl, hbf.out⟩
set_option maxHeartbeats 4000000 in
theorem Day1 (K D M Wk Wd T y : Int) (w : World) (hT : Tb w) (hK : K = 1) (hv : RdOk K D M Wk Wd T) (h0 : -200000000001 ≤ y) (h1 : y ≤ 200000000001) (d0 : 1 ≤ D) (d1 : D ≤ 365) :
    Calls Tryd.prog 12 #[vrd K D M Wk Wd T, .int .i64 y] w fun e w' => e = .returned (.int .i64 (rdj y D)) ∧ Below w.heap.size w w' := by
  have V : Hid (∀ w, Tb w → Calls Tryd.prog 9 #[vrd K D M Wk Wd T] w fun e w' => e = .returned (.bool true) ∧ Below w.heap.size w w') := hide (fun w hT => by
    have := Valid K D M Wk Wd T w hT (by rw [hK]; decide)
    rwa [decide_eq_true hv] at this)
  have P := hide (fun w => places_ w)
  have F := hide (fun w hT => julian_ K D M Wk Wd T y w hT h0 h1 d0 d1)
  have zf : ∀ w, (zeroValue 27).run Tryd.prog w = .ok .nilFunc w := fun _ => rfl
  generalize rdj y D = r at *
  clear hv
  subst hK
  have hb := hide (bl_new w (.cells #[.int .i64 1, .int .i64 D, .int .i64 M, .int .i64 Wk, .int .i64 Wd, .int .i64 T] 23))
  have bx := hide (Bx.new w [.int .i64 1, .int .i64 D, .int .i64 M, .int .i64 Wk, .int .i64 Wd, .int .i64 T] 23)
  have HT := hide (hT.below hb.out)
  have bxd := hide (bx.out.drew)
  have hbd := hide (bl_drew hb.out)
  have HTd : Hid (Tb (w.alloc (.cells #[.int .i64 1, .int .i64 D, .int .i64 M, .int .i64 Wk, .int .i64 Wd, .int .i64 T] 23)).drew) := HT
  clear hT
  clear bxd hbd HTd
  unfold vrd at *
  obtain ⟨x0, x1, x2, x3, x4, x5⟩ := cells6 bx.out
  go_enter Tryd.func12, Tryd.ntmps12
  go_wp2_with fail
  refine (V.out _ HT.out).mono ?_
  rintro e w1 ⟨rfl, h1⟩
  clear x0 x1 x2 x3 x4 x5
  replace bx := hide (bx.out.below h1)
  replace HT := hide (HT.out.below h1)
  replace hb := hide (bel_next hb.out h1)
  clear h1
  obtain ⟨x0, x1, x2, x3, x4, x5⟩ := cells6 bx.out
  have bxd := hide (bx.out.drew)
  have hbd := hide (bl_drew hb.out)
  have HTd : Hid (Tb w1.drew) := HT
  go_upto_region 3 with fail
  clear x0 x1 x2 x3 x4 x5
  obtain ⟨x0, x1, x2, x3, x4, x5⟩ := cells6 bx.out
  go_region_with (first
    | (go_at_call 23; (with_reducible refine (P.out _).mono ?_; rintro e w6 ⟨B, rfl, hc, h1'⟩; have hl := held_look hc.own law Tryd.underlying43 (zf _) (keyl (by decide)) (three_1 fnJ fnZ fnP).1; simp only [fnJ] at hl; obtain ⟨y0, y1, y2, y3, y4, y5⟩ := cells6 (Bx.below bxd.out h1'); have hbf := hide (bel_next hbd.out h1'); have HTf := hide (HTd.out.below h1'); clear h1' hc))
    | (with_reducible refine (F.out _ HTf.out).mono ?_; rintro e w7 ⟨rfl, h1'⟩; replace hbf := hide (bel_next hbf.out h1'); clear h1'))
  all_goals
    go_wp2
    go_ret
    exact ⟨rfl, hbf.out⟩
set_option maxHeartbeats 4000000 in
theorem Day2 (K D M Wk Wd T y : Int) (w : World) (hT : Tb w) (hK : K = 2) (hv : RdOk K D M Wk Wd T) (h0 : -200000000001 ≤ y) (h1 : y ≤ 200000000001) (d0 : 0 ≤ D) (d1 : D ≤ 366) :
    Calls Tryd.prog 12 #[vrd K D M Wk Wd T, .int .i64 y] w fun e w' => e = .returned (.int .i64 (ystart y + D)) ∧ Below w.heap.size w w' := by
  have V : Hid (∀ w, Tb w → Calls Tryd.prog 9 #[vrd K D M Wk Wd T] w fun e w' => e = .returned (.bool true) ∧ Below w.heap.size w w') := hide (fun w hT => by
    have := Valid K D M Wk Wd T w hT (by rw [hK]; decide)
    rwa [decide_eq_true hv] at this)
  have P := hide (fun w => places_ w)
  have F := hide (fun w hT => zero_ K D M Wk Wd T y w hT h0 h1 d0 d1)
  have zf : ∀ w, (zeroValue 27).run Tryd.prog w = .ok .nilFunc w := fun _ => rfl
  generalize ystart y + D = r at *
  clear hv
  subst hK
  have hb := hide (bl_new w (.cells #[.int .i64 2, .int .i64 D, .int .i64 M, .int .i64 Wk, .int .i64 Wd, .int .i64 T] 23))
  have bx := hide (Bx.new w [.int .i64 2, .int .i64 D, .int .i64 M, .int .i64 Wk, .int .i64 Wd, .int .i64 T] 23)
  have HT := hide (hT.below hb.out)
  have bxd := hide (bx.out.drew)
  have hbd := hide (bl_drew hb.out)
  have HTd : Hid (Tb (w.alloc (.cells #[.int .i64 2, .int .i64 D, .int .i64 M, .int .i64 Wk, .int .i64 Wd, .int .i64 T] 23)).drew) := HT
  clear hT
  clear bxd hbd HTd
  unfold vrd at *
  obtain ⟨x0, x1, x2, x3, x4, x5⟩ := cells6 bx.out
  go_enter Tryd.func12, Tryd.ntmps12
  go_wp2_with fail
  refine (V.out _ HT.out).mono ?_
  rintro e w1 ⟨rfl, h1⟩
  clear x0 x1 x2 x3 x4 x5
  replace bx := hide (bx.out.below h1)
  replace HT := hide (HT.out.below h1)
  replace hb := hide (bel_next hb.out h1)
  clear h1
  obtain ⟨x0, x1, x2, x3, x4, x5⟩ := cells6 bx.out
  have bxd := hide (bx.out.drew)
  have hbd := hide (bl_drew hb.out)
  have HTd : Hid (Tb w1.drew) := HT
  go_upto_region 3 with fail
  clear x0 x1 x2 x3 x4 x5
  obtain ⟨x0, x1, x2, x3, x4, x5⟩ := cells6 bx.out
  go_region_with (first
    | (go_at_call 23; (with_reducible refine (P.out _).mono ?_; rintro e w6 ⟨B, rfl, hc, h1'⟩; have hl := held_look hc.own law Tryd.underlying43 (zf _) (keyl (by decide)) (three_2 fnJ fnZ fnP).1; simp only [fnZ] at hl; obtain ⟨y0, y1, y2, y3, y4, y5⟩ := cells6 (Bx.below bxd.out h1'); have hbf := hide (bel_next hbd.out h1'); have HTf := hide (HTd.out.below h1'); clear h1' hc))
    | (with_reducible refine (F.out _ HTf.out).mono ?_; rintro e w7 ⟨rfl, h1'⟩; replace hbf := hide (bel_next hbf.out h1'); clear h1'))
  all_goals
    go_wp2
    go_ret
    exact ⟨rfl, hbf.out⟩
set_option maxHeartbeats 4000000 in
theorem Day3 (K D M Wk Wd T y : Int) (w : World) (hT : Tb w) (hK : K = 3) (hv : RdOk K D M Wk Wd T) (h0 : -200000000001 ≤ y) (h1 : y ≤ 200000000001) (m0 : 1 ≤ M) (m1 : M ≤ 12) (k0 : 1 ≤ Wk) (k1 : Wk ≤ 5) (d0 : 0 ≤ Wd) (d1 : Wd ≤ 6) :
    Calls Tryd.prog 12 #[vrd K D M Wk Wd T, .int .i64 y] w fun e w' => e = .returned (.int .i64 (rdm y M Wk Wd)) ∧ Below w.heap.size w w' := by
  have V : Hid (∀ w, Tb w → Calls Tryd.prog 9 #[vrd K D M Wk Wd T] w fun e w' => e = .returned (.bool true) ∧ Below w.heap.size w w') := hide (fun w hT => by
    have := Valid K D M Wk Wd T w hT (by rw [hK]; decide)
    rwa [decide_eq_true hv] at this)
  have P := hide (fun w => places_ w)
  have F := hide (fun w hT => place_ K D M Wk Wd T y w hT h0 h1 m0 m1 k0 k1 d0 d1)
  have zf : ∀ w, (zeroValue 27).run Tryd.prog w = .ok .nilFunc w := fun _ => rfl
  generalize rdm y M Wk Wd = r at *
  clear hv
  subst hK
  have hb := hide (bl_new w (.cells #[.int .i64 3, .int .i64 D, .int .i64 M, .int .i64 Wk, .int .i64 Wd, .int .i64 T] 23))
  have bx := hide (Bx.new w [.int .i64 3, .int .i64 D, .int .i64 M, .int .i64 Wk, .int .i64 Wd, .int .i64 T] 23)
  have HT := hide (hT.below hb.out)
  have bxd := hide (bx.out.drew)
  have hbd := hide (bl_drew hb.out)
  have HTd : Hid (Tb (w.alloc (.cells #[.int .i64 3, .int .i64 D, .int .i64 M, .int .i64 Wk, .int .i64 Wd, .int .i64 T] 23)).drew) := HT
  clear hT
  clear bxd hbd HTd
  unfold vrd at *
  obtain ⟨x0, x1, x2, x3, x4, x5⟩ := cells6 bx.out
  go_enter Tryd.func12, Tryd.ntmps12
  go_wp2_with fail
  refine (V.out _ HT.out).mono ?_
  rintro e w1 ⟨rfl, h1⟩
  clear x0 x1 x2 x3 x4 x5
  replace bx := hide (bx.out.below h1)
  replace HT := hide (HT.out.below h1)
  replace hb := hide (bel_next hb.out h1)
  clear h1
  obtain ⟨x0, x1, x2, x3, x4, x5⟩ := cells6 bx.out
  have bxd := hide (bx.out.drew)
  have hbd := hide (bl_drew hb.out)
  have HTd : Hid (Tb w1.drew) := HT
  go_upto_region 3 with fail
  clear x0 x1 x2 x3 x4 x5
  obtain ⟨x0, x1, x2, x3, x4, x5⟩ := cells6 bx.out
  go_region_with (first
    | (go_at_call 23; (with_reducible refine (P.out _).mono ?_; rintro e w6 ⟨B, rfl, hc, h1'⟩; have hl := held_look hc.own law Tryd.underlying43 (zf _) (keyl (by decide)) (three_3 fnJ fnZ fnP).1; simp only [fnP] at hl; obtain ⟨y0, y1, y2, y3, y4, y5⟩ := cells6 (Bx.below bxd.out h1'); have hbf := hide (bel_next hbd.out h1'); have HTf := hide (HTd.out.below h1'); clear h1' hc))
    | (with_reducible refine (F.out _ HTf.out).mono ?_; rintro e w7 ⟨rfl, h1'⟩; replace hbf := hide (bel_next hbf.out h1'); clear h1'))
  all_goals
    go_wp2
    go_ret
    exact ⟨rfl, hbf.out⟩
theorem Day {K D M Wk Wd T : Int} (y : Int) (w : World) (hT : Tb w) (hv : RdOk K D M Wk Wd T) (h0 : -200000000001 ≤ y) (h1 : y ≤ 200000000001) :
    Calls Tryd.prog 12 #[vrd K D M Wk Wd T, .int .i64 y] w fun e w' => e = .returned (.int .i64 (rday K D M Wk Wd y)) ∧ Below w.heap.size w w' := by
  obtain ⟨_, _, ⟨rfl, h2, h3, _⟩ | ⟨rfl, h2, h3, _⟩ | ⟨rfl, _, h2, h3, h4, h5, h6, h7⟩⟩ := id hv
  · exact Day1 1 D M Wk Wd T y w hT rfl hv h0 h1 h2 h3
  · exact Day2 2 D M Wk Wd T y w hT rfl hv h0 h1 h2 (by omega)
  · exact Day3 3 D M Wk Wd T y w hT rfl hv h0 h1 h2 h3 h4 h5 h6 h7
set_option maxHeartbeats 4000000 in
theorem At {K D M Wk Wd T : Int} (y : Int) (w : World) (hT : Tb w) (hv : RdOk K D M Wk Wd T) (h0 : -200000000001 ≤ y) (h1 : y ≤ 200000000001) :
    Calls Tryd.prog 14 #[vrd K D M Wk Wd T, .int .i64 y] w fun e w' => e = .returned (.int .i64 (rday K D M Wk Wd y * 86400 + T)) ∧ Below w.heap.size w w' := by
  have C := hide (fun w hT => Day y w hT hv h0 h1)
  have hd := rday_bd hv h0 h1
  have ht : -604799 ≤ T ∧ T ≤ 604799 := ⟨hv.1, hv.2.1⟩
  obtain ⟨t0, t1⟩ := ht
  obtain ⟨d0, d1⟩ := hd
  generalize rday K D M Wk Wd y = n at *
  have e1 : IntKind.i64.wrap (n * 86400) = n * 86400 := by rw [IntKind.wrap_i64]; omega
  have e2 : IntKind.i64.wrap (n * 86400 + T) = n * 86400 + T := by rw [IntKind.wrap_i64]; omega
  clear hv
  have hb := hide (bl_new w (.cells #[.int .i64 K, .int .i64 D, .int .i64 M, .int .i64 Wk, .int .i64 Wd, .int .i64 T] 23))
  have bx := hide (Bx.new w [.int .i64 K, .int .i64 D, .int .i64 M, .int .i64 Wk, .int .i64 Wd, .int .i64 T] 23)
  have HT := hide (hT.below hb.out)
  have bxd := hide (bx.out.drew)
  have hbd := hide (bl_drew hb.out)
  have HTd : Hid (Tb (w.alloc (.cells #[.int .i64 K, .int .i64 D, .int .i64 M, .int .i64 Wk, .int .i64 Wd, .int .i64 T] 23)).drew) := HT
  clear hT
  unfold vrd at *
  go_enter Tryd.func14, Tryd.ntmps14
  obtain ⟨x0, x1, x2, x3, x4, x5⟩ := cells6 bx.out
  go_upto_region 1 with fail
  go_region_with (go_at_call 12; with_reducible refine (C.out _ HTd.out).mono ?_; rintro e w6 ⟨rfl, h1'⟩; obtain ⟨y0, y1, y2, y3, y4, y5⟩ := cells6 (Bx.below bxd.out h1'); have hbf := hide (bel_next hbd.out h1'); clear h1')
  all_goals
    go_wp2
    go_ret
    exact ⟨rfl, hbf.out⟩
end rd_
end Go.Proofs.YtgonchceckifcaaDoor
