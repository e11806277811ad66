/-
  Texts of mine in one file: Ref14, Cu, R2, BlO, Ref19f, Fw20. Their conditions stand in the theorems.
-/
import Derived.Test.YtbehflfpdkedgaaGreatDoorRows
import Derived.Test.YtbehflfpdkedgaaGreatDoorQ01
import Derived.BigQuiet
import Derived.Deep.DeepCutAuto
import Derived.Test.YtbehflfpdkedgaaGreatDoorQ07
import Derived.Deep.RegionHeld3
import Derived.Test.YtbehflfpdkedgaaGreatDoorQ04
import Derived.Test.YtbehflfpdkedgaaGreatDoorQ08
import Derived.Test.YtbehflfpdkedgaaGreatDoorQ09
import Derived.Test.YtbehflfpdkedgaaGreatDoorQ10
import Derived.Test.YtbehflfpdkedgaaGreatDoorQ05
import Derived.Test.YtbehflfpdkedgaaGreatDoorQ11
namespace Go.Proofs.YtbehflfpdkedgaaGreatDoor
set_option linter.unusedVariables false
set_option linter.unusedSimpArgs false
set_option maxRecDepth 100000
set_option maxHeartbeats 16000000
open Go.ChangeShapes Go.WideShapes Go.ChangeAt Go.RowKit
def pre : List Int → Nat → Int
 | _, 0 => 0
 | [], _ => 0
 | x :: l, k + 1 => x + pre l k
namespace r14_
theorem SizeB (b : Bool) (w : World) : Calls Tryz.prog 11 #[.bool b] w fun e w' => e = .returned (.int .i64 (if b then 8 else 4)) ∧ Below w.heap.size w w' := by
 cases b
 all_goals
  go_enter Tryz.func11, Tryz.ntmps11
  go_wp2
  go_ret
  exact ⟨rfl, bl_refl _⟩
end r14_
def fewB (b : Bk) : Bool := decide (b.ti.length ≤ 200) && decide (b.ix.length ≤ 200) && decide (b.ty.length ≤ 200) && decide (b.ch.length ≤ 600) && decide (b.lp.length ≤ 200) && decide (b.sd.length ≤ 200) && decide (b.ut.length ≤ 200)
theorem bx_snd19 (w : World) (o : Obj) (vs : List Value) (T : TypeId) : Bx ((w.alloc o).alloc (.cells vs.toArray T)) (w.heap.size + 1) vs := by
 have := Bx.new (w.alloc o) vs T
 rwa [show (w.alloc o).heap.size = w.heap.size + 1 by simp] at this
namespace r19_
theorem Few (S : BkS) (b : Bk) (w : World) (h : IsBk w S b) : Calls Tryz.prog 10 #[bkV S] w fun e w' => e = .returned (.bool (fewB b)) ∧ Below w.heap.size w w' := by
 obtain ⟨l1, l2, l3, l4, l5, l6, l7⟩ := h.lens
 have e : fewB b = (decide (S.ti.n ≤ 200) && decide (S.ix.n ≤ 200) && decide (S.ty.n ≤ 200) && decide (S.ch.n ≤ 600) && decide (S.lp.n ≤ 200) && decide (S.sd.n ≤ 200) && decide (S.ut.n ≤ 200)) := by unfold fewB; rw [l1, l2, l3, l4, l5, l6, l7]
 rw [e]
 clear e l1 l2 l3 l4 l5 l6 l7 h
 obtain ⟨⟨A1, n1, c1⟩, ⟨A2, n2, c2⟩, ⟨A3, n3, c3⟩, ⟨A4, n4, c4⟩, ⟨A5, n5, c5⟩, ⟨A6, n6, c6⟩, ⟨A7, n7, c7⟩⟩ := S
 dsimp only
 have hb := hide (bl_new w (.cells #[.slice A1 n1 c1, .slice A2 n2 c2, .slice A3 n3 c3, .slice A4 n4 c4, .slice A5 n5 c5, .slice A6 n6 c6, .slice A7 n7 c7] 28))
 go_enter Tryz.func10, Tryz.ntmps10
 go_wp2
 all_goals
  go_ret
  refine ⟨retb ?_, hb.out⟩
  rw [Bool.eq_iff_iff]
  simp only [Bool.and_eq_true, decide_eq_true_eq, Bool.false_eq_true]
  first
   | omega
   | exact iff_of_false id (by omega)
theorem Equal (S S' : BkS) (b b' : Bk) (w : World) (h : IsBk w S b) (h' : IsBk w S' b') : Calls Tryz.prog 18 #[bkV S, bkV S'] w fun e w' => e = .returned (.bool (beqB b b')) ∧ Below w.heap.size w w' := by
 have Z1 := hide (fun w a a' => r15_.Same S.ti.A S'.ti.A S.ti.n S'.ti.n S.ti.c S'.ti.c b.ti b'.ti w (by have := h.oti; unfold Sl.ok at this; omega) (by have := h'.oti; unfold Sl.ok at this; omega) a a')
 have Z2 := hide (fun w a a' => r1_.SameG S.ix.A S'.ix.A S.ix.n S'.ix.n S.ix.c S'.ix.c b.ix b'.ix w (by have := h.oix; unfold Sl.ok at this; omega) (by have := h'.oix; unfold Sl.ok at this; omega) a a')
 have Z3 := hide (fun w a a' => r16_.Same S.ty.A S'.ty.A S.ty.n S'.ty.n S.ty.c S'.ty.c b.ty b'.ty w (by have := h.oty; unfold Sl.ok at this; omega) (by have := h'.oty; unfold Sl.ok at this; omega) a a')
 have Z4 := hide (fun w a a' => r1_.SameG S.ch.A S'.ch.A S.ch.n S'.ch.n S.ch.c S'.ch.c b.ch b'.ch w (by have := h.och; unfold Sl.ok at this; omega) (by have := h'.och; unfold Sl.ok at this; omega) a a')
 have Z5 := hide (fun w a a' => r17_.Same S.lp.A S'.lp.A S.lp.n S'.lp.n S.lp.c S'.lp.c b.lp b'.lp w (by have := h.olp; unfold Sl.ok at this; omega) (by have := h'.olp; unfold Sl.ok at this; omega) a a')
 have Z6 := hide (fun w a a' => r18_.Same S.sd.A S'.sd.A S.sd.n S'.sd.n S.sd.c S'.sd.c b.sd b'.sd w (by have := h.osd; unfold Sl.ok at this; omega) (by have := h'.osd; unfold Sl.ok at this; omega) a a')
 have Z7 := hide (fun w a a' => r18_.Same S.ut.A S'.ut.A S.ut.n S'.ut.n S.ut.c S'.ut.c b.ut b'.ut w (by have := h.out_; unfold Sl.ok at this; omega) (by have := h'.out_; unfold Sl.ok at this; omega) a a')
 have R1 := hide (fun (W : World) (hb : Below w.heap.size w W) => (h.ti.below hb))
 have R2 := hide (fun (W : World) (hb : Below w.heap.size w W) => (h.ix.below hb))
 have R3 := hide (fun (W : World) (hb : Below w.heap.size w W) => (h.ty.below hb))
 have R4 := hide (fun (W : World) (hb : Below w.heap.size w W) => (h.ch.below hb))
 have R5 := hide (fun (W : World) (hb : Below w.heap.size w W) => (h.lp.below hb))
 have R6 := hide (fun (W : World) (hb : Below w.heap.size w W) => (h.sd.below hb))
 have R7 := hide (fun (W : World) (hb : Below w.heap.size w W) => (h.ut.below hb))
 have T1 := hide (fun (W : World) (hb : Below w.heap.size w W) => (h'.ti.below hb))
 have T2 := hide (fun (W : World) (hb : Below w.heap.size w W) => (h'.ix.below hb))
 have T3 := hide (fun (W : World) (hb : Below w.heap.size w W) => (h'.ty.below hb))
 have T4 := hide (fun (W : World) (hb : Below w.heap.size w W) => (h'.ch.below hb))
 have T5 := hide (fun (W : World) (hb : Below w.heap.size w W) => (h'.lp.below hb))
 have T6 := hide (fun (W : World) (hb : Below w.heap.size w W) => (h'.sd.below hb))
 have T7 := hide (fun (W : World) (hb : Below w.heap.size w W) => (h'.ut.below hb))
 unfold beqB
 clear h h'
 obtain ⟨⟨A1, n1, c1⟩, ⟨A2, n2, c2⟩, ⟨A3, n3, c3⟩, ⟨A4, n4, c4⟩, ⟨A5, n5, c5⟩, ⟨A6, n6, c6⟩, ⟨A7, n7, c7⟩⟩ := S
 obtain ⟨⟨A1', n1', c1'⟩, ⟨A2', n2', c2'⟩, ⟨A3', n3', c3'⟩, ⟨A4', n4', c4'⟩, ⟨A5', n5', c5'⟩, ⟨A6', n6', c6'⟩, ⟨A7', n7', c7'⟩⟩ := S'
 dsimp only at Z1 Z2 Z3 Z4 Z5 Z6 Z7 R1 R2 R3 R4 R5 R6 R7 T1 T2 T3 T4 T5 T6 T7 ⊢
 generalize decide (b.ti = b'.ti) = z1 at *
 generalize decide (b.ix = b'.ix) = z2 at *
 generalize decide (b.ty = b'.ty) = z3 at *
 generalize decide (b.ch = b'.ch) = z4 at *
 generalize decide (b.lp = b'.lp) = z5 at *
 generalize decide (b.sd = b'.sd) = z6 at *
 generalize decide (b.ut = b'.ut) = z7 at *
 have hb := hide (bl_alloc (bl_new w (.cells #[.slice A1 n1 c1, .slice A2 n2 c2, .slice A3 n3 c3, .slice A4 n4 c4, .slice A5 n5 c5, .slice A6 n6 c6, .slice A7 n7 c7] 28)) (.cells #[.slice A1' n1' c1', .slice A2' n2' c2', .slice A3' n3' c3', .slice A4' n4' c4', .slice A5' n5' c5', .slice A6' n6' c6', .slice A7' n7' c7'] 28))
 have bx := hide ((Bx.new w [.slice A1 n1 c1, .slice A2 n2 c2, .slice A3 n3 c3, .slice A4 n4 c4, .slice A5 n5 c5, .slice A6 n6 c6, .slice A7 n7 c7] 28).alloc (.cells #[.slice A1' n1' c1', .slice A2' n2' c2', .slice A3' n3' c3', .slice A4' n4' c4', .slice A5' n5' c5', .slice A6' n6' c6', .slice A7' n7' c7'] 28))
 have by_ := hide (bx_snd19 w (.cells #[.slice A1 n1 c1, .slice A2 n2 c2, .slice A3 n3 c3, .slice A4 n4 c4, .slice A5 n5 c5, .slice A6 n6 c6, .slice A7 n7 c7] 28) [.slice A1' n1' c1', .slice A2' n2' c2', .slice A3' n3' c3', .slice A4' n4' c4', .slice A5' n5' c5', .slice A6' n6' c6', .slice A7' n7' c7'] 28)
 go_enter Tryz.func18, Tryz.ntmps18
 go_upto_region 1 with fail
 generalize ((w.alloc (.cells #[.slice A1 n1 c1, .slice A2 n2 c2, .slice A3 n3 c3, .slice A4 n4 c4, .slice A5 n5 c5, .slice A6 n6 c6, .slice A7 n7 c7] 28)).alloc (.cells #[.slice A1' n1' c1', .slice A2' n2' c2', .slice A3' n3' c3', .slice A4' n4' c4', .slice A5' n5' c5', .slice A6' n6' c6', .slice A7' n7' c7'] 28)) = w0 at *
 have x := bx.out.2.1 0 _ rfl
 have y := by_.out.2.1 0 _ rfl
 go_wp2_with fail
 clear x y
 refine (Z1.out _ (R1.out _ hb.out) (T1.out _ hb.out)).mono ?_
 rintro e w1 ⟨rfl, h1⟩
 replace hb := hide (bel_next hb.out h1)
 replace bx := hide (bx.out.below h1)
 replace by_ := hide (by_.out.below h1)
 clear h1
 cases z1
 ·clear bx by_
  go_wp2
  go_ret
  exact ⟨rfl, hb.out⟩
 have x := bx.out.2.1 1 _ rfl
 have y := by_.out.2.1 1 _ rfl
 go_wp2_with fail
 clear x y
 refine (Z2.out _ (R2.out _ hb.out) (T2.out _ hb.out)).mono ?_
 rintro e w2 ⟨rfl, h1⟩
 replace hb := hide (bel_next hb.out h1)
 replace bx := hide (bx.out.below h1)
 replace by_ := hide (by_.out.below h1)
 clear h1
 cases z2
 ·clear bx by_
  go_wp2
  go_ret
  exact ⟨rfl, hb.out⟩
 have x := bx.out.2.1 2 _ rfl
 have y := by_.out.2.1 2 _ rfl
 go_wp2_with fail
 clear x y
 refine (Z3.out _ (R3.out _ hb.out) (T3.out _ hb.out)).mono ?_
 rintro e w3 ⟨rfl, h1⟩
 replace hb := hide (bel_next hb.out h1)
 replace bx := hide (bx.out.below h1)
 replace by_ := hide (by_.out.below h1)
 clear h1
 cases z3
 ·clear bx by_
  go_wp2
  go_ret
  exact ⟨rfl, hb.out⟩
 have x := bx.out.2.1 3 _ rfl
 have y := by_.out.2.1 3 _ rfl
 go_wp2_with fail
 clear x y
 refine (Z4.out _ (R4.out _ hb.out) (T4.out _ hb.out)).mono ?_
 rintro e w4 ⟨rfl, h1⟩
 replace hb := hide (bel_next hb.out h1)
 replace bx := hide (bx.out.below h1)
 replace by_ := hide (by_.out.below h1)
 clear h1
 cases z4
 ·clear bx by_
  go_wp2
  go_ret
  exact ⟨rfl, hb.out⟩
 have x := bx.out.2.1 4 _ rfl
 have y := by_.out.2.1 4 _ rfl
 go_wp2_with fail
 clear x y
 refine (Z5.out _ (R5.out _ hb.out) (T5.out _ hb.out)).mono ?_
 rintro e w5 ⟨rfl, h1⟩
 replace hb := hide (bel_next hb.out h1)
 replace bx := hide (bx.out.below h1)
 replace by_ := hide (by_.out.below h1)
 clear h1
 cases z5
 ·clear bx by_
  go_wp2
  go_ret
  exact ⟨rfl, hb.out⟩
 have x := bx.out.2.1 5 _ rfl
 have y := by_.out.2.1 5 _ rfl
 go_wp2_with fail
 clear x y
 refine (Z6.out _ (R6.out _ hb.out) (T6.out _ hb.out)).mono ?_
 rintro e w6 ⟨rfl, h1⟩
 replace hb := hide (bel_next hb.out h1)
 replace bx := hide (bx.out.below h1)
 replace by_ := hide (by_.out.below h1)
 clear h1
 cases z6
 ·clear bx by_
  go_wp2
  go_ret
  exact ⟨rfl, hb.out⟩
 have x := bx.out.2.1 6 _ rfl
 have y := by_.out.2.1 6 _ rfl
 go_wp2_with fail
 clear x y
 refine (Z7.out _ (R7.out _ hb.out) (T7.out _ hb.out)).mono ?_
 rintro e w7 ⟨rfl, h1⟩
 replace hb := hide (bel_next hb.out h1)
 replace bx := hide (bx.out.below h1)
 replace by_ := hide (by_.out.below h1)
 clear h1
 cases z7
 ·clear bx by_
  go_wp2
  go_ret
  exact ⟨rfl, hb.out⟩
 go_wp2
 go_ret
 exact ⟨rfl, hb.out⟩
end r19_
namespace r19_
end r19_
def PPs (w : World) (B : Nat) (u : TypeId) (xs : List Int) (p : Nat) (M : List Nat) (Ps : List Sl) (A1 : Option Addr) : Prop := ∀ (j : Nat) (s : Sl), Ps[j]? = some s → M[j]? = some s.n ∧ Ow w B u s.A s.n s.c ((fld xs (p + (M.take j).sum) s.n).map (Value.int .u8)) ∧ Dj s.A A1
section
variable {w w' : World} {B : Nat} {u : TypeId} {xs : List Int} {p : Nat} {M : List Nat} {Ps : List Sl} {A A' : Option Addr}
theorem PPs.below (h : PPs w B u xs p M Ps A) (hb : Below w.heap.size w w') : PPs w' B u xs p M Ps A := fun j s hj => by
 obtain ⟨h1, h2, h3⟩ := h j s hj
 exact ⟨h1, h2.below hb, h3⟩
theorem PPs.set (h : PPs w B u xs p M Ps A) {g : Nat} (o : Nat) (hg : g < B) (v : Value) : PPs (w.setCell ⟨g, o, none⟩ v) B u xs p M Ps A := fun j s hj => by
 obtain ⟨h1, h2, h3⟩ := h j s hj
 exact ⟨h1, h2.setLow o hg v, h3⟩
end
namespace r19_
end r19_
namespace r19_
end r19_
theorem few_small {w : World} {S : BkS} {b : Bk} (h : IsBk w S b) (hf : fewB b = true) : S.small := by
 obtain ⟨l0, l1, l2, l3, l4, l5, l6⟩ := h.lens
 unfold fewB at hf
 simp only [Bool.and_eq_true, decide_eq_true_eq] at hf
 obtain ⟨⟨⟨⟨⟨⟨a0, a1⟩, a2⟩, a3⟩, a4⟩, a5⟩, a6⟩ := hf
 exact ⟨by omega, by omega, by omega, by omega, by omega, by omega, by omega⟩
namespace r20_
theorem Few (v : Int) (S S' : BkS) (f : ByteArray) (A B : Bk) (w : World) (h : IsBk w S A) (h' : IsBk w S' B) : Calls Tryz.prog 9 #[.agg (flA v S S' f)] w fun e w' => e = .returned (.bool (fewB A && fewB B && decide (f.size ≤ 600))) ∧ Below w.heap.size w w' := by
 have F1 := hide (fun W (hb : Below w.heap.size w W) => r19_.Few S A W (h.below hb))
 have F2 := hide (fun W (hb : Below w.heap.size w W) => r19_.Few S' B W (h'.below hb))
 clear h h'
 obtain ⟨⟨A0, n0, c0⟩, ⟨A1, n1, c1⟩, ⟨A2, n2, c2⟩, ⟨A3, n3, c3⟩, ⟨A4, n4, c4⟩, ⟨A5, n5, c5⟩, ⟨A6, n6, c6⟩⟩ := S
 obtain ⟨⟨xA0, xn0, xc0⟩, ⟨xA1, xn1, xc1⟩, ⟨xA2, xn2, xc2⟩, ⟨xA3, xn3, xc3⟩, ⟨xA4, xn4, xc4⟩, ⟨xA5, xn5, xc5⟩, ⟨xA6, xn6, xc6⟩⟩ := S'
 dsimp only [bkV] at F1 F2
 obtain ⟨cs, hcs⟩ : ∃ cs, cs = flA v ⟨⟨A0, n0, c0⟩, ⟨A1, n1, c1⟩, ⟨A2, n2, c2⟩, ⟨A3, n3, c3⟩, ⟨A4, n4, c4⟩, ⟨A5, n5, c5⟩, ⟨A6, n6, c6⟩⟩ ⟨⟨xA0, xn0, xc0⟩, ⟨xA1, xn1, xc1⟩, ⟨xA2, xn2, xc2⟩, ⟨xA3, xn3, xc3⟩, ⟨xA4, xn4, xc4⟩, ⟨xA5, xn5, xc5⟩, ⟨xA6, xn6, xc6⟩⟩ f := ⟨_, rfl⟩
 have q1 := hide (show cs[1]? = some (.slice A0 n0 c0) by rw [hcs]; rfl)
 have q2 := hide (show cs[2]? = some (.slice A1 n1 c1) by rw [hcs]; rfl)
 have q3 := hide (show cs[3]? = some (.slice A2 n2 c2) by rw [hcs]; rfl)
 have q4 := hide (show cs[4]? = some (.slice A3 n3 c3) by rw [hcs]; rfl)
 have q5 := hide (show cs[5]? = some (.slice A4 n4 c4) by rw [hcs]; rfl)
 have q6 := hide (show cs[6]? = some (.slice A5 n5 c5) by rw [hcs]; rfl)
 have q7 := hide (show cs[7]? = some (.slice A6 n6 c6) by rw [hcs]; rfl)
 have q8 := hide (show cs[8]? = some (.slice xA0 xn0 xc0) by rw [hcs]; rfl)
 have q9 := hide (show cs[9]? = some (.slice xA1 xn1 xc1) by rw [hcs]; rfl)
 have q10 := hide (show cs[10]? = some (.slice xA2 xn2 xc2) by rw [hcs]; rfl)
 have q11 := hide (show cs[11]? = some (.slice xA3 xn3 xc3) by rw [hcs]; rfl)
 have q12 := hide (show cs[12]? = some (.slice xA4 xn4 xc4) by rw [hcs]; rfl)
 have q13 := hide (show cs[13]? = some (.slice xA5 xn5 xc5) by rw [hcs]; rfl)
 have q14 := hide (show cs[14]? = some (.slice xA6 xn6 xc6) by rw [hcs]; rfl)
 have q15 := hide (show cs[15]? = some (.string f) by rw [hcs]; rfl)
 rw [← hcs]
 clear hcs
 obtain ⟨z, hz⟩ : ∃ z, z = decide (f.size ≤ 600) := ⟨_, rfl⟩
 rw [← hz]
 have z1 : decide ((f.size : Int) ≤ 600) = z := by rw [hz, decide_eq_decide]; omega
 have z2 := hz.symm
 clear hz
 have k := hide (Ro.new w cs 30)
 have hb := hide (bl_new w (.cells cs 30))
 generalize fewB A = a at *
 generalize fewB B = b at *
 cases a
 ·go_enter Tryz.func9, Tryz.ntmps9
  go_upto_region 1 with fail
  generalize (w.alloc (.cells cs 30)) = u at *
  obtain ⟨y1, _⟩ := ro_cf k.out 1 _ q1.out
  obtain ⟨y2, _⟩ := ro_cf k.out 2 _ q2.out
  obtain ⟨y3, _⟩ := ro_cf k.out 3 _ q3.out
  obtain ⟨y4, _⟩ := ro_cf k.out 4 _ q4.out
  obtain ⟨y5, _⟩ := ro_cf k.out 5 _ q5.out
  obtain ⟨y6, _⟩ := ro_cf k.out 6 _ q6.out
  obtain ⟨y7, _⟩ := ro_cf k.out 7 _ q7.out
  go_wp2_with fail
  refine (F1.out _ hb.out).mono ?_
  rintro e w1 ⟨rfl, h1⟩
  replace hb := hide (bel_next hb.out h1)
  clear h1 y1 y2 y3 y4 y5 y6 y7
  go_wp2
  go_ret
  exact ⟨rfl, hb.out⟩
 ·cases b
  all_goals
   go_enter Tryz.func9, Tryz.ntmps9
   go_upto_region 1 with fail
   generalize (w.alloc (.cells cs 30)) = u at *
   obtain ⟨y1, _⟩ := ro_cf k.out 1 _ q1.out
   obtain ⟨y2, _⟩ := ro_cf k.out 2 _ q2.out
   obtain ⟨y3, _⟩ := ro_cf k.out 3 _ q3.out
   obtain ⟨y4, _⟩ := ro_cf k.out 4 _ q4.out
   obtain ⟨y5, _⟩ := ro_cf k.out 5 _ q5.out
   obtain ⟨y6, _⟩ := ro_cf k.out 6 _ q6.out
   obtain ⟨y7, _⟩ := ro_cf k.out 7 _ q7.out
   go_wp2_with fail
   refine (F1.out _ hb.out).mono ?_
   rintro e w1 ⟨rfl, h1⟩
   replace hb := hide (bel_next hb.out h1)
   replace k := hide (k.out.below h1)
   clear h1 y1 y2 y3 y4 y5 y6 y7
   obtain ⟨y8, _⟩ := ro_cf k.out 8 _ q8.out
   obtain ⟨y9, _⟩ := ro_cf k.out 9 _ q9.out
   obtain ⟨y10, _⟩ := ro_cf k.out 10 _ q10.out
   obtain ⟨y11, _⟩ := ro_cf k.out 11 _ q11.out
   obtain ⟨y12, _⟩ := ro_cf k.out 12 _ q12.out
   obtain ⟨y13, _⟩ := ro_cf k.out 13 _ q13.out
   obtain ⟨y14, _⟩ := ro_cf k.out 14 _ q14.out
   go_wp2_with fail
   refine (F2.out _ hb.out).mono ?_
   rintro e w2 ⟨rfl, h1⟩
   replace hb := hide (bel_next hb.out h1)
   replace k := hide (k.out.below h1)
   clear h1 y8 y9 y10 y11 y12 y13 y14
   obtain ⟨y15, _⟩ := ro_cf k.out 15 _ q15.out
   go_wp2
   go_ret
   exact ⟨rfl, hb.out⟩
end r20_
end Go.Proofs.YtbehflfpdkedgaaGreatDoor
