/-
  Texts of mine in one file: Rd. Their conditions stand in the theorems.
-/
import Derived.Test.YtbehflfpdkedgaaGreatDoorQ03
import Derived.Test.YtbehflfpdkedgaaGreatDoorQ23
import Derived.Test.YtbehflfpdkedgaaGreatDoorQ19
import Derived.Deep.RegionHeld3
import Derived.Deep.DeepCutAuto
namespace Go.Proofs.YtbehflfpdkedgaaGreatDoor
set_option linter.unusedVariables false
set_option linter.unusedSimpArgs false
set_option maxRecDepth 100000
set_option maxHeartbeats 16000000
open Go.ChangeShapes Go.WideShapes Go.ChangeAt Go.RowKit
open Go.ChangeShapes Go.WideShapes Go.ChangeAt Go.RowKit Go.Maps
namespace rd_
theorem Valid (K D M Wk Wd T : Int) (w : World) (hT : Tb w) (hw : (Lit.int .i64 K).wf = true) : Calls Tryz.prog 191 #[vrd K D M Wk Wd T] w fun e w' => e = .returned (.bool (decide (RdOk K D M Wk Wd T))) ∧ Below w.heap.size w w' := Valid_ K D M Wk Wd T w hw
theorem days_from (y M d : Int) : days y M d = days y M 1 + (d - 1) := by unfold days yday; omega
def fnJ : Value := .func (.func 212) #[] #[]
def fnZ : Value := .func (.func 214) #[] #[]
def fnP : Value := .func (.func 215) #[] #[]
def Plc (w : World) (B : Nat) : Prop := w.ownsMap Tryz.prog 3 heldE B 3 (three fnJ fnZ fnP)
theorem Plc.own {w : World} {B : Nat} (h : Plc w B) : w.ownsMap Tryz.prog 3 heldE B 3 (three fnJ fnZ fnP) := h
theorem places_ (w : World) : Calls Tryz.prog 203 #[] w fun e w' => ∃ B, e = .returned (.map (some B)) ∧ Plc w' B ∧ Below w.heap.size w w' := by
 have hmm := @run_makeMap Tryz.prog
 have o0 := hide (World.ownsMap_made w Tryz.prog 3 heldE)
 have b0 := hide (bl_new w (.map #[] 0))
 have z0 : (w.alloc (.map #[] 0)).heap.size = w.heap.size + 1 := by simp
 go_enter Tryz.func203, Tryz.ntmps203
 go_wp2_with (first
  | (refine wpList_insert_held _ rfl _ _ _ 202 rfl 3 169 law Tryz.underlying202 w.heap.size 0 (.map []) rfl o0.out (by decide) _ fnJ (.int .i64 1) rfl rfl (keyl (by decide)) ?_; intro w2 o2 g2)
  | (refine wpList_insert_held _ rfl _ _ _ 202 rfl 3 169 law Tryz.underlying202 w.heap.size 1 _ rfl (hide o2).out (by decide) _ fnZ (.int .i64 2) rfl rfl (keyl (by decide)) ?_; intro w4 o4 g4)
  | (refine wpList_insert_held _ rfl _ _ _ 202 rfl 3 169 law Tryz.underlying202 w.heap.size 2 _ rfl (hide o4).out (by decide) _ fnP (.int .i64 3) rfl rfl (keyl (by decide)) ?_; intro w5 o5 g5))
 have s2 := g2.size
 have s4 := g4.size
 have s5 := g5.size
 go_ret
 exact ⟨_, rfl, o5, ((b0.out.grown g2 (by omega) (fun j hj => by cases hj; omega)).grown g4 (by omega) (fun j hj => by cases hj; omega)).grown g5 (by omega) (fun j hj => by cases hj; omega)⟩
theorem vd1 {y M d : Int} (h0 : -600000000001 ≤ y) (h1 : y ≤ 600000000001) (hd : DateOk y M d) : Vd y M d := ⟨by omega, by omega, hd⟩
theorem ok1 {y M : Int} (h0 : 1 ≤ M) (h1 : M ≤ 12) : DateOk y M 1 := ⟨h0, h1, by omega, by have := mdays_bd y M; omega⟩
theorem zero_ (K D M Wk Wd T y : Int) (w : World) (hT : Tb w) (h0 : -600000000001 ≤ y) (h1 : y ≤ 600000000001) (d0 : 0 ≤ D) (d1 : D ≤ 366) : Calls Tryz.prog 214 #[vrd K D M Wk Wd T, .int .i64 y] w fun e w' => e = .returned (.int .i64 (ystart y + D)) ∧ Below w.heap.size w w' := by
 have hs : -240000000000000 ≤ ystart y ∧ ystart y ≤ 240000000000000 := by unfold ystart; omega
 have C := hide (fun w hT => cv_.Days y 1 1 w hT (vd1 h0 h1 (ok1 (by omega) (by omega))))
 rw [days_first] at C
 generalize ystart y = s at *
 obtain ⟨s0, s1⟩ := hs
 have hb := hide (bl_new w (.cells #[.int .i64 K, .int .i64 D, .int .i64 M, .int .i64 Wk, .int .i64 Wd, .int .i64 T] 49))
 have bx := hide (Bx.new w [.int .i64 K, .int .i64 D, .int .i64 M, .int .i64 Wk, .int .i64 Wd, .int .i64 T] 49)
 have HT := hide (hT.below hb.out)
 have bxd := hide (bx.out.drew)
 have hbd := hide (bl_drew hb.out)
 have HTd : Hid (Tb (w.alloc (.cells #[.int .i64 K, .int .i64 D, .int .i64 M, .int .i64 Wk, .int .i64 Wd, .int .i64 T] 49)).drew) := HT
 clear hT
 have e1 : IntKind.i64.wrap (s + D) = s + D := by rw [IntKind.wrap_i64]; omega
 unfold vrd
 go_enter Tryz.func214, Tryz.ntmps214
 go_upto_region 1 with fail
 go_region_with (go_at_call 213; with_reducible refine (C.out _ HTd.out).mono ?_; rintro e w6 ⟨rfl, h1'⟩; obtain ⟨y0, y1, y2, y3, y4, y5⟩ := cells6 (Bx.below bxd.out h1'); have hbf := hide (bel_next hbd.out h1'); clear h1')
 all_goals
  go_wp2
  go_ret
  exact ⟨rfl, hbf.out⟩
theorem julian_ (K D M Wk Wd T y : Int) (w : World) (hT : Tb w) (h0 : -600000000001 ≤ y) (h1 : y ≤ 600000000001) (d0 : 1 ≤ D) (d1 : D ≤ 365) : Calls Tryz.prog 212 #[vrd K D M Wk Wd T, .int .i64 y] w fun e w' => e = .returned (.int .i64 (rdj y D)) ∧ Below w.heap.size w w' := by
 have hs : -240000000000000 ≤ ystart y ∧ ystart y ≤ 240000000000000 := by unfold ystart; omega
 have C := hide (fun w hT => cv_.Days y 1 1 w hT (vd1 h0 h1 (ok1 (by omega) (by omega))))
 have L := hide (fun w hT => cv_.IsLeap y w hT (by omega) (by omega))
 have hr := hide (show rdj y D = ystart y + D - 1 + (if leap y = true ∧ 60 ≤ D then 1 else 0) from rfl)
 rw [days_first] at C
 generalize rdj y D = r at *
 generalize ystart y = s at *
 generalize leap y = lp at *
 obtain ⟨s0, s1⟩ := hs
 have hb := hide (bl_new w (.cells #[.int .i64 K, .int .i64 D, .int .i64 M, .int .i64 Wk, .int .i64 Wd, .int .i64 T] 49))
 have bx := hide (Bx.new w [.int .i64 K, .int .i64 D, .int .i64 M, .int .i64 Wk, .int .i64 Wd, .int .i64 T] 49)
 have HT := hide (hT.below hb.out)
 have bxd := hide (bx.out.drew)
 have hbd := hide (bl_drew hb.out)
 have HTd : Hid (Tb (w.alloc (.cells #[.int .i64 K, .int .i64 D, .int .i64 M, .int .i64 Wk, .int .i64 Wd, .int .i64 T] 49)).drew) := HT
 clear hT
 have e1 : IntKind.i64.wrap (s + D) = s + D := by rw [IntKind.wrap_i64]; omega
 have e2 : IntKind.i64.wrap (s + D - 1) = s + D - 1 := by rw [IntKind.wrap_i64]; omega
 have e3 : IntKind.i64.wrap (s + D - 1 + 1) = s + D - 1 + 1 := by rw [IntKind.wrap_i64]; omega
 unfold vrd
 go_enter Tryz.func212, Tryz.ntmps212
 go_upto_region 1 with fail
 go_region_with (go_at_call 213; with_reducible refine (C.out _ HTd.out).mono ?_; rintro e w6 ⟨rfl, h1'⟩; obtain ⟨y0, y1, y2, y3, y4, y5⟩ := cells6 (Bx.below bxd.out h1'); have hbf := hide (bel_next hbd.out h1'); have HTf := hide (HTd.out.below h1'); clear h1')
 all_goals
  rcases (show (D ≤ 59) ∨ (59 < D ∧ lp = true) ∨ (59 < D ∧ lp = false) by cases lp <;> simp <;> omega) with hd | ⟨hd, rfl⟩ | ⟨hd, rfl⟩
  ·go_wp2
   go_ret
   exact ⟨reti (by rw [hr.out, if_neg (by omega)]; omega), hbf.out⟩
  ·go_wp2_with (go_at_call 211; refine (L.out _ HTf.out).mono ?_; rintro e w7 ⟨rfl, h7⟩)
   go_ret
   exact ⟨reti (by rw [hr.out, if_pos (by simp; omega)]; omega), bel_next hbf.out h7⟩
  ·go_wp2_with (go_at_call 211; refine (L.out _ HTf.out).mono ?_; rintro e w7 ⟨rfl, h7⟩)
   go_ret
   exact ⟨reti (by rw [hr.out, if_neg (by simp)]; omega), bel_next hbf.out h7⟩
theorem week_ (K D M Wk Wd T y : Int) (w : World) (hT : Tb w) (h0 : -600000000001 ≤ y) (h1 : y ≤ 600000000001) (m0 : 1 ≤ M) (m1 : M ≤ 12) (k0 : 1 ≤ Wk) (k1 : Wk ≤ 5) (d0 : 0 ≤ Wd) (d1 : Wd ≤ 6) :
 Calls Tryz.prog 216 #[vrd K D M Wk Wd T, .int .i64 y] w fun e w' => e = .returned (.int .i64 (rdm y M Wk Wd - days y M 1 + 1)) ∧ Below w.heap.size w w' := by
 have hv := vd1 (d := 1) h0 h1 (ok1 m0 m1)
 have hdm := hv.day
 have C := hide (fun w hT => cv_.Days y M 1 w hT hv)
 have W := hide (fun w hT => cv_.Weekday (days y M 1) w hT hdm.1 hdm.2)
 have L := hide (fun w hT => cv_.MonthDays y M w hT (by omega) (by omega) m0 m1)
 have hl := mdays_bd y M
 obtain ⟨q, hq⟩ : ∃ q, q = (Wd - (days y M 1 + 4)) % 7 := ⟨_, rfl⟩
 have q0 : 0 ≤ q := by omega
 have q1 : q ≤ 6 := by omega
 have hr : Hid (rdm y M Wk Wd - days y M 1 + 1 = if 1 + q + 7 * (Wk - 1) > mdays y M then 1 + q + 7 * (Wk - 1) - 7 else 1 + q + 7 * (Wk - 1)) := hide (by
  unfold rdm rfirst
  rw [← hq]
  generalize days y M 1 = s at *
  generalize mdays y M = l at *
  repeat' split
  all_goals omega)
 have et : (Wd - (days y M 1 + 4) % 7 + 7).tmod 7 = q := by rw [Int.tmod_eq_emod_of_nonneg (by omega)]; omega
 clear hq hdm hv
 generalize rdm y M Wk Wd - days y M 1 + 1 = r at *
 obtain ⟨f, hf⟩ : ∃ f, f = (days y M 1 + 4) % 7 := ⟨_, rfl⟩
 have f0 : 0 ≤ f := by omega
 have f1 : f ≤ 6 := by omega
 rw [← hf] at W et
 clear hf
 generalize days y M 1 = s at *
 generalize mdays y M = l at *
 obtain ⟨l0, l1⟩ := hl
 have hb := hide (bl_new w (.cells #[.int .i64 K, .int .i64 D, .int .i64 M, .int .i64 Wk, .int .i64 Wd, .int .i64 T] 49))
 have bx := hide (Bx.new w [.int .i64 K, .int .i64 D, .int .i64 M, .int .i64 Wk, .int .i64 Wd, .int .i64 T] 49)
 have HT := hide (hT.below hb.out)
 have bxd := hide (bx.out.drew)
 have hbd := hide (bl_drew hb.out)
 have HTd : Hid (Tb (w.alloc (.cells #[.int .i64 K, .int .i64 D, .int .i64 M, .int .i64 Wk, .int .i64 Wd, .int .i64 T] 49)).drew) := HT
 clear hT
 clear bxd hbd HTd
 unfold vrd
 go_enter Tryz.func216, Tryz.ntmps216
 obtain ⟨x0, x1, x2, x3, x4, x5⟩ := cells6 bx.out
 go_wp2_with fail
 refine (C.out _ HT.out).mono ?_
 rintro e w1 ⟨rfl, h1⟩
 replace bx := hide (bx.out.below h1)
 replace HT := hide (HT.out.below h1)
 replace hb := hide (bel_next hb.out h1)
 clear h1 x0 x1 x2 x3 x4 x5
 go_wp2_with fail
 refine (W.out _ HT.out).mono ?_
 rintro e w2 ⟨rfl, h1⟩
 replace bx := hide (bx.out.below h1)
 replace HT := hide (HT.out.below h1)
 replace hb := hide (bel_next hb.out h1)
 clear h1
 obtain ⟨x0, x1, x2, x3, x4, x5⟩ := cells6 bx.out
 go_wp2_with fail
 refine (L.out _ HT.out).mono ?_
 rintro e w3 ⟨rfl, h1⟩
 replace hb := hide (bel_next hb.out h1)
 clear h1 x0 x1 x2 x3 x4 x5 bx HT
 by_cases hgt : 1 + q + 7 * (Wk - 1) > l
 ·go_wp2
  go_ret
  exact ⟨reti (by rw [hr.out, if_pos (by omega)]), hb.out⟩
 ·go_wp2
  go_ret
  exact ⟨reti (by rw [hr.out, if_neg (by omega)]), hb.out⟩
theorem place_ (K D M Wk Wd T y : Int) (w : World) (hT : Tb w) (h0 : -600000000001 ≤ y) (h1 : y ≤ 600000000001) (m0 : 1 ≤ M) (m1 : M ≤ 12) (k0 : 1 ≤ Wk) (k1 : Wk ≤ 5) (d0 : 0 ≤ Wd) (d1 : Wd ≤ 6) :
 Calls Tryz.prog 215 #[vrd K D M Wk Wd T, .int .i64 y] w fun e w' => e = .returned (.int .i64 (rdm y M Wk Wd)) ∧ Below w.heap.size w w' := by
 have hrb := rdm_bd y M Wk Wd d0 d1 k0 k1
 have W := hide (fun w hT => week_ K D M Wk Wd T y w hT h0 h1 m0 m1 k0 k1 d0 d1)
 have C := hide (fun w hT => cv_.Days y M (rdm y M Wk Wd - days y M 1 + 1) w hT (vd1 h0 h1 ⟨m0, m1, by omega, by omega⟩))
 rw [days_from y M (rdm y M Wk Wd - days y M 1 + 1), show days y M 1 + (rdm y M Wk Wd - days y M 1 + 1 - 1) = rdm y M Wk Wd by omega] at C
 clear hrb
 generalize rdm y M Wk Wd - days y M 1 + 1 = d at *
 generalize rdm y M Wk Wd = r at *
 have hb := hide (bl_new w (.cells #[.int .i64 K, .int .i64 D, .int .i64 M, .int .i64 Wk, .int .i64 Wd, .int .i64 T] 49))
 have bx := hide (Bx.new w [.int .i64 K, .int .i64 D, .int .i64 M, .int .i64 Wk, .int .i64 Wd, .int .i64 T] 49)
 have HT := hide (hT.below hb.out)
 have bxd := hide (bx.out.drew)
 have hbd := hide (bl_drew hb.out)
 have HTd : Hid (Tb (w.alloc (.cells #[.int .i64 K, .int .i64 D, .int .i64 M, .int .i64 Wk, .int .i64 Wd, .int .i64 T] 49)).drew) := HT
 clear hT
 unfold vrd at *
 go_enter Tryz.func215, Tryz.ntmps215
 go_upto_region 1 with fail
 go_region_with (first
  | (go_at_call 216; with_reducible refine (W.out _ HTd.out).mono ?_; rintro e w6 ⟨rfl, h1'⟩; obtain ⟨y0, y1, y2, y3, y4, y5⟩ := cells6 (Bx.below bxd.out h1'); have hbf := hide (bel_next hbd.out h1'); have HTf := hide (HTd.out.below h1'); clear h1')
  | (go_at_call 213; with_reducible refine (C.out _ HTf.out).mono ?_; rintro e w7 ⟨rfl, h1'⟩; replace hbf := hide (bel_next hbf.out h1'); clear h1'))
 all_goals
  go_wp2
  go_ret
  exact ⟨rfl, hbf.out⟩
theorem Day1 (K D M Wk Wd T y : Int) (w : World) (hT : Tb w) (hK : K = 1) (hv : RdOk K D M Wk Wd T) (h0 : -600000000001 ≤ y) (h1 : y ≤ 600000000001) (d0 : 1 ≤ D) (d1 : D ≤ 365) :
 Calls Tryz.prog 194 #[vrd K D M Wk Wd T, .int .i64 y] w fun e w' => e = .returned (.int .i64 (rdj y D)) ∧ Below w.heap.size w w' := by
 have V : Hid (∀ w, Tb w → Calls Tryz.prog 191 #[vrd K D M Wk Wd T] w fun e w' => e = .returned (.bool true) ∧ Below w.heap.size w w') := hide (fun w hT => by
  have := Valid K D M Wk Wd T w hT (by rw [hK]; decide)
  rwa [decide_eq_true hv] at this)
 have P := hide (fun w => places_ w)
 have F := hide (fun w hT => julian_ K D M Wk Wd T y w hT h0 h1 d0 d1)
 have zf : ∀ w, (zeroValue 169).run Tryz.prog w = .ok .nilFunc w := fun _ => rfl
 generalize rdj y D = r at *
 clear hv
 subst hK
 have hb := hide (bl_new w (.cells #[.int .i64 1, .int .i64 D, .int .i64 M, .int .i64 Wk, .int .i64 Wd, .int .i64 T] 49))
 have bx := hide (Bx.new w [.int .i64 1, .int .i64 D, .int .i64 M, .int .i64 Wk, .int .i64 Wd, .int .i64 T] 49)
 have HT := hide (hT.below hb.out)
 have bxd := hide (bx.out.drew)
 have hbd := hide (bl_drew hb.out)
 have HTd : Hid (Tb (w.alloc (.cells #[.int .i64 1, .int .i64 D, .int .i64 M, .int .i64 Wk, .int .i64 Wd, .int .i64 T] 49)).drew) := HT
 clear hT
 clear bxd hbd HTd
 unfold vrd at *
 obtain ⟨x0, x1, x2, x3, x4, x5⟩ := cells6 bx.out
 go_enter Tryz.func194, Tryz.ntmps194
 go_wp2_with fail
 refine (V.out _ HT.out).mono ?_
 rintro e w1 ⟨rfl, h1⟩
 clear x0 x1 x2 x3 x4 x5
 replace bx := hide (bx.out.below h1)
 replace HT := hide (HT.out.below h1)
 replace hb := hide (bel_next hb.out h1)
 clear h1
 obtain ⟨x0, x1, x2, x3, x4, x5⟩ := cells6 bx.out
 have bxd := hide (bx.out.drew)
 have hbd := hide (bl_drew hb.out)
 have HTd : Hid (Tb w1.drew) := HT
 go_upto_region 3 with fail
 clear x0 x1 x2 x3 x4 x5
 obtain ⟨x0, x1, x2, x3, x4, x5⟩ := cells6 bx.out
 go_region_with (first
  | (go_at_call 203; (with_reducible refine (P.out _).mono ?_; rintro e w6 ⟨B, rfl, hc, h1'⟩; have hl := held_look hc.own law Tryz.underlying202 (zf _) (keyl (by decide)) (three_1 fnJ fnZ fnP).1; simp only [fnJ] at hl; obtain ⟨y0, y1, y2, y3, y4, y5⟩ := cells6 (Bx.below bxd.out h1'); have hbf := hide (bel_next hbd.out h1'); have HTf := hide (HTd.out.below h1'); clear h1' hc))
  | (with_reducible refine (F.out _ HTf.out).mono ?_; rintro e w7 ⟨rfl, h1'⟩; replace hbf := hide (bel_next hbf.out h1'); clear h1'))
 all_goals
  go_wp2
  go_ret
  exact ⟨rfl, hbf.out⟩
theorem Day2 (K D M Wk Wd T y : Int) (w : World) (hT : Tb w) (hK : K = 2) (hv : RdOk K D M Wk Wd T) (h0 : -600000000001 ≤ y) (h1 : y ≤ 600000000001) (d0 : 0 ≤ D) (d1 : D ≤ 366) :
 Calls Tryz.prog 194 #[vrd K D M Wk Wd T, .int .i64 y] w fun e w' => e = .returned (.int .i64 (ystart y + D)) ∧ Below w.heap.size w w' := by
 have V : Hid (∀ w, Tb w → Calls Tryz.prog 191 #[vrd K D M Wk Wd T] w fun e w' => e = .returned (.bool true) ∧ Below w.heap.size w w') := hide (fun w hT => by
  have := Valid K D M Wk Wd T w hT (by rw [hK]; decide)
  rwa [decide_eq_true hv] at this)
 have P := hide (fun w => places_ w)
 have F := hide (fun w hT => zero_ K D M Wk Wd T y w hT h0 h1 d0 d1)
 have zf : ∀ w, (zeroValue 169).run Tryz.prog w = .ok .nilFunc w := fun _ => rfl
 generalize ystart y + D = r at *
 clear hv
 subst hK
 have hb := hide (bl_new w (.cells #[.int .i64 2, .int .i64 D, .int .i64 M, .int .i64 Wk, .int .i64 Wd, .int .i64 T] 49))
 have bx := hide (Bx.new w [.int .i64 2, .int .i64 D, .int .i64 M, .int .i64 Wk, .int .i64 Wd, .int .i64 T] 49)
 have HT := hide (hT.below hb.out)
 have bxd := hide (bx.out.drew)
 have hbd := hide (bl_drew hb.out)
 have HTd : Hid (Tb (w.alloc (.cells #[.int .i64 2, .int .i64 D, .int .i64 M, .int .i64 Wk, .int .i64 Wd, .int .i64 T] 49)).drew) := HT
 clear hT
 clear bxd hbd HTd
 unfold vrd at *
 obtain ⟨x0, x1, x2, x3, x4, x5⟩ := cells6 bx.out
 go_enter Tryz.func194, Tryz.ntmps194
 go_wp2_with fail
 refine (V.out _ HT.out).mono ?_
 rintro e w1 ⟨rfl, h1⟩
 clear x0 x1 x2 x3 x4 x5
 replace bx := hide (bx.out.below h1)
 replace HT := hide (HT.out.below h1)
 replace hb := hide (bel_next hb.out h1)
 clear h1
 obtain ⟨x0, x1, x2, x3, x4, x5⟩ := cells6 bx.out
 have bxd := hide (bx.out.drew)
 have hbd := hide (bl_drew hb.out)
 have HTd : Hid (Tb w1.drew) := HT
 go_upto_region 3 with fail
 clear x0 x1 x2 x3 x4 x5
 obtain ⟨x0, x1, x2, x3, x4, x5⟩ := cells6 bx.out
 go_region_with (first
  | (go_at_call 203; (with_reducible refine (P.out _).mono ?_; rintro e w6 ⟨B, rfl, hc, h1'⟩; have hl := held_look hc.own law Tryz.underlying202 (zf _) (keyl (by decide)) (three_2 fnJ fnZ fnP).1; simp only [fnZ] at hl; obtain ⟨y0, y1, y2, y3, y4, y5⟩ := cells6 (Bx.below bxd.out h1'); have hbf := hide (bel_next hbd.out h1'); have HTf := hide (HTd.out.below h1'); clear h1' hc))
  | (with_reducible refine (F.out _ HTf.out).mono ?_; rintro e w7 ⟨rfl, h1'⟩; replace hbf := hide (bel_next hbf.out h1'); clear h1'))
 all_goals
  go_wp2
  go_ret
  exact ⟨rfl, hbf.out⟩
theorem Day3 (K D M Wk Wd T y : Int) (w : World) (hT : Tb w) (hK : K = 3) (hv : RdOk K D M Wk Wd T) (h0 : -600000000001 ≤ y) (h1 : y ≤ 600000000001) (m0 : 1 ≤ M) (m1 : M ≤ 12) (k0 : 1 ≤ Wk) (k1 : Wk ≤ 5) (d0 : 0 ≤ Wd) (d1 : Wd ≤ 6) :
 Calls Tryz.prog 194 #[vrd K D M Wk Wd T, .int .i64 y] w fun e w' => e = .returned (.int .i64 (rdm y M Wk Wd)) ∧ Below w.heap.size w w' := by
 have V : Hid (∀ w, Tb w → Calls Tryz.prog 191 #[vrd K D M Wk Wd T] w fun e w' => e = .returned (.bool true) ∧ Below w.heap.size w w') := hide (fun w hT => by
  have := Valid K D M Wk Wd T w hT (by rw [hK]; decide)
  rwa [decide_eq_true hv] at this)
 have P := hide (fun w => places_ w)
 have F := hide (fun w hT => place_ K D M Wk Wd T y w hT h0 h1 m0 m1 k0 k1 d0 d1)
 have zf : ∀ w, (zeroValue 169).run Tryz.prog w = .ok .nilFunc w := fun _ => rfl
 generalize rdm y M Wk Wd = r at *
 clear hv
 subst hK
 have hb := hide (bl_new w (.cells #[.int .i64 3, .int .i64 D, .int .i64 M, .int .i64 Wk, .int .i64 Wd, .int .i64 T] 49))
 have bx := hide (Bx.new w [.int .i64 3, .int .i64 D, .int .i64 M, .int .i64 Wk, .int .i64 Wd, .int .i64 T] 49)
 have HT := hide (hT.below hb.out)
 have bxd := hide (bx.out.drew)
 have hbd := hide (bl_drew hb.out)
 have HTd : Hid (Tb (w.alloc (.cells #[.int .i64 3, .int .i64 D, .int .i64 M, .int .i64 Wk, .int .i64 Wd, .int .i64 T] 49)).drew) := HT
 clear hT
 clear bxd hbd HTd
 unfold vrd at *
 obtain ⟨x0, x1, x2, x3, x4, x5⟩ := cells6 bx.out
 go_enter Tryz.func194, Tryz.ntmps194
 go_wp2_with fail
 refine (V.out _ HT.out).mono ?_
 rintro e w1 ⟨rfl, h1⟩
 clear x0 x1 x2 x3 x4 x5
 replace bx := hide (bx.out.below h1)
 replace HT := hide (HT.out.below h1)
 replace hb := hide (bel_next hb.out h1)
 clear h1
 obtain ⟨x0, x1, x2, x3, x4, x5⟩ := cells6 bx.out
 have bxd := hide (bx.out.drew)
 have hbd := hide (bl_drew hb.out)
 have HTd : Hid (Tb w1.drew) := HT
 go_upto_region 3 with fail
 clear x0 x1 x2 x3 x4 x5
 obtain ⟨x0, x1, x2, x3, x4, x5⟩ := cells6 bx.out
 go_region_with (first
  | (go_at_call 203; (with_reducible refine (P.out _).mono ?_; rintro e w6 ⟨B, rfl, hc, h1'⟩; have hl := held_look hc.own law Tryz.underlying202 (zf _) (keyl (by decide)) (three_3 fnJ fnZ fnP).1; simp only [fnP] at hl; obtain ⟨y0, y1, y2, y3, y4, y5⟩ := cells6 (Bx.below bxd.out h1'); have hbf := hide (bel_next hbd.out h1'); have HTf := hide (HTd.out.below h1'); clear h1' hc))
  | (with_reducible refine (F.out _ HTf.out).mono ?_; rintro e w7 ⟨rfl, h1'⟩; replace hbf := hide (bel_next hbf.out h1'); clear h1'))
 all_goals
  go_wp2
  go_ret
  exact ⟨rfl, hbf.out⟩
theorem Day {K D M Wk Wd T : Int} (y : Int) (w : World) (hT : Tb w) (hv : RdOk K D M Wk Wd T) (h0 : -600000000001 ≤ y) (h1 : y ≤ 600000000001) :
 Calls Tryz.prog 194 #[vrd K D M Wk Wd T, .int .i64 y] w fun e w' => e = .returned (.int .i64 (rday K D M Wk Wd y)) ∧ Below w.heap.size w w' := by
 obtain ⟨_, _, ⟨rfl, h2, h3, _⟩ | ⟨rfl, h2, h3, _⟩ | ⟨rfl, _, h2, h3, h4, h5, h6, h7⟩⟩ := id hv
 ·exact Day1 1 D M Wk Wd T y w hT rfl hv h0 h1 h2 h3
 ·exact Day2 2 D M Wk Wd T y w hT rfl hv h0 h1 h2 (by omega)
 ·exact Day3 3 D M Wk Wd T y w hT rfl hv h0 h1 h2 h3 h4 h5 h6 h7
end rd_
end Go.Proofs.YtbehflfpdkedgaaGreatDoor
