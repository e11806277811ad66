/-
  CONTRACTS OF PACKAGE zoneinforef19 (the reference of layer 19): Header, Few, Equal. Conditions: a block that can be read.
  CONTRACTS OF PACKAGE zoneinforef19 (the reference of layer 19): Encodable, Encode. Conditions: a block that can be read, time sizes 4 and 8; of Encode: an encodable block.
  CONTRACTS OF PACKAGE zoneinforef19 (the reference of layer 19): Decode. UNDER WAY.
  CONTRACTS OF PACKAGE zoneinforef19: Decode, all cases in one.
-/
import Derived.Test.YtgbojkbhkjameaaBlW
import Derived.Test.YtgbojkbhkjameaaRef14
import Derived.Test.YtgbojkbhkjameaaRef15
import Derived.Test.YtgbojkbhkjameaaRef16
import Derived.Test.YtgbojkbhkjameaaRef17
import Derived.Test.YtgbojkbhkjameaaRef18
import Derived.Test.YtgbojkbhkjameaaR2
import Derived.Test.YtgbojkbhkjameaaRow4
import Derived.Test.YtgbojkbhkjameaaBlO
import Derived.Test.YtgbojkbhkjameaaBase2
namespace Go.Proofs.Ytgbojkbhkjameaa
open Go.ChangeShapes Go.WideShapes Go.ChangeAt Go.RowKit
set_option linter.unusedVariables false
set_option maxRecDepth 100000
/-- the header's counts of a block: six numbers. -/
@[reducible] def hdB (v : Int) (b : Bk) : Value := hdV v b.ut.length b.sd.length b.lp.length b.ti.length b.ty.length b.ch.length
/-- is the block small? -/
def fewB (b : Bk) : Bool := decide (b.ti.length ≤ 200) && decide (b.ix.length ≤ 200) && decide (b.ty.length ≤ 200) && decide (b.ch.length ≤ 600) && decide (b.lp.length ≤ 200) && decide (b.sd.length ≤ 200) && decide (b.ut.length ≤ 200)
theorem cast_le (n m : Nat) : decide ((n : Int) ≤ (m : Int)) = decide (n ≤ m) := by rw [decide_eq_decide]; omega
theorem bx_snd19 (w : World) (o : Obj) (vs : List Value) (T : TypeId) : Bx ((w.alloc o).alloc (.cells vs.toArray T)) (w.heap.size + 1) vs := by
  have := Bx.new (w.alloc o) vs T
  rwa [show (w.alloc o).heap.size = w.heap.size + 1 by simp] at this
namespace r19_
set_option maxHeartbeats 1000000 in
theorem Few (S : BkS) (b : Bk) (w : World) (h : IsBk w S b) : Calls Try.prog 9 #[bkV S] w fun e w' => e = .returned (.bool (fewB b)) ∧ Below w.heap.size w w' := by
  obtain ⟨l1, l2, l3, l4, l5, l6, l7⟩ := h.lens
  have e : fewB b = (decide (S.ti.n ≤ 200) && decide (S.ix.n ≤ 200) && decide (S.ty.n ≤ 200) && decide (S.ch.n ≤ 600) && decide (S.lp.n ≤ 200) && decide (S.sd.n ≤ 200) && decide (S.ut.n ≤ 200)) := by unfold fewB; rw [l1, l2, l3, l4, l5, l6, l7]
  rw [e]
  clear e l1 l2 l3 l4 l5 l6 l7 h
  obtain ⟨⟨A1, n1, c1⟩, ⟨A2, n2, c2⟩, ⟨A3, n3, c3⟩, ⟨A4, n4, c4⟩, ⟨A5, n5, c5⟩, ⟨A6, n6, c6⟩, ⟨A7, n7, c7⟩⟩ := S
  dsimp only
  have hb := hide (bl_new w (.cells #[.slice A1 n1 c1, .slice A2 n2 c2, .slice A3 n3 c3, .slice A4 n4 c4, .slice A5 n5 c5, .slice A6 n6 c6, .slice A7 n7 c7] 28))
  go_enter Try.func9, Try.ntmps9
  go_wp2
  all_goals
    go_ret
    refine ⟨retb ?_, hb.out⟩
    rw [Bool.eq_iff_iff]
    simp only [Bool.and_eq_true, decide_eq_true_eq, Bool.false_eq_true]
    first
      | omega
      | exact iff_of_false id (by omega)
set_option maxHeartbeats 4000000 in
theorem Equal (S S' : BkS) (b b' : Bk) (w : World) (h : IsBk w S b) (h' : IsBk w S' b') : Calls Try.prog 16 #[bkV S, bkV S'] w fun e w' => e = .returned (.bool (beqB b b')) ∧ Below w.heap.size w w' := by
  have Z1 := hide (fun w a a' => r15_.Same S.ti.A S'.ti.A S.ti.n S'.ti.n S.ti.c S'.ti.c b.ti b'.ti w (by have := h.oti; unfold Sl.ok at this; omega) (by have := h'.oti; unfold Sl.ok at this; omega) a a')
  have Z2 := hide (fun w a a' => r1_.SameG S.ix.A S'.ix.A S.ix.n S'.ix.n S.ix.c S'.ix.c b.ix b'.ix w (by have := h.oix; unfold Sl.ok at this; omega) (by have := h'.oix; unfold Sl.ok at this; omega) a a')
  have Z3 := hide (fun w a a' => r16_.Same S.ty.A S'.ty.A S.ty.n S'.ty.n S.ty.c S'.ty.c b.ty b'.ty w (by have := h.oty; unfold Sl.ok at this; omega) (by have := h'.oty; unfold Sl.ok at this; omega) a a')
  have Z4 := hide (fun w a a' => r1_.SameG S.ch.A S'.ch.A S.ch.n S'.ch.n S.ch.c S'.ch.c b.ch b'.ch w (by have := h.och; unfold Sl.ok at this; omega) (by have := h'.och; unfold Sl.ok at this; omega) a a')
  have Z5 := hide (fun w a a' => r17_.Same S.lp.A S'.lp.A S.lp.n S'.lp.n S.lp.c S'.lp.c b.lp b'.lp w (by have := h.olp; unfold Sl.ok at this; omega) (by have := h'.olp; unfold Sl.ok at this; omega) a a')
  have Z6 := hide (fun w a a' => r18_.Same S.sd.A S'.sd.A S.sd.n S'.sd.n S.sd.c S'.sd.c b.sd b'.sd w (by have := h.osd; unfold Sl.ok at this; omega) (by have := h'.osd; unfold Sl.ok at this; omega) a a')
  have Z7 := hide (fun w a a' => r18_.Same S.ut.A S'.ut.A S.ut.n S'.ut.n S.ut.c S'.ut.c b.ut b'.ut w (by have := h.out_; unfold Sl.ok at this; omega) (by have := h'.out_; unfold Sl.ok at this; omega) a a')
  have R1 := hide (fun (W : World) (hb : Below w.heap.size w W) => (h.ti.below hb))
  have R2 := hide (fun (W : World) (hb : Below w.heap.size w W) => (h.ix.below hb))
  have R3 := hide (fun (W : World) (hb : Below w.heap.size w W) => (h.ty.below hb))
  have R4 := hide (fun (W : World) (hb : Below w.heap.size w W) => (h.ch.below hb))
  have R5 := hide (fun (W : World) (hb : Below w.heap.size w W) => (h.lp.below hb))
  have R6 := hide (fun (W : World) (hb : Below w.heap.size w W) => (h.sd.below hb))
  have R7 := hide (fun (W : World) (hb : Below w.heap.size w W) => (h.ut.below hb))
  have T1 := hide (fun (W : World) (hb : Below w.heap.size w W) => (h'.ti.below hb))
  have T2 := hide (fun (W : World) (hb : Below w.heap.size w W) => (h'.ix.below hb))
  have T3 := hide (fun (W : World) (hb : Below w.heap.size w W) => (h'.ty.below hb))
  have T4 := hide (fun (W : World) (hb : Below w.heap.size w W) => (h'.ch.below hb))
  have T5 := hide (fun (W : World) (hb : Below w.heap.size w W) => (h'.lp.below hb))
  have T6 := hide (fun (W : World) (hb : Below w.heap.size w W) => (h'.sd.below hb))
  have T7 := hide (fun (W : World) (hb : Below w.heap.size w W) => (h'.ut.below hb))
  unfold beqB
  clear h h'
  obtain ⟨⟨A1, n1, c1⟩, ⟨A2, n2, c2⟩, ⟨A3, n3, c3⟩, ⟨A4, n4, c4⟩, ⟨A5, n5, c5⟩, ⟨A6, n6, c6⟩, ⟨A7, n7, c7⟩⟩ := S
  obtain ⟨⟨A1', n1', c1'⟩, ⟨A2', n2', c2'⟩, ⟨A3', n3', c3'⟩, ⟨A4', n4', c4'⟩, ⟨A5', n5', c5'⟩, ⟨A6', n6', c6'⟩, ⟨A7', n7', c7'⟩⟩ := S'
  dsimp only at Z1 Z2 Z3 Z4 Z5 Z6 Z7 R1 R2 R3 R4 R5 R6 R7 T1 T2 T3 T4 T5 T6 T7 ⊢
  generalize decide (b.ti = b'.ti) = z1 at *
  generalize decide (b.ix = b'.ix) = z2 at *
  generalize decide (b.ty = b'.ty) = z3 at *
  generalize decide (b.ch = b'.ch) = z4 at *
  generalize decide (b.lp = b'.lp) = z5 at *
  generalize decide (b.sd = b'.sd) = z6 at *
  generalize decide (b.ut = b'.ut) = z7 at *
  have hb := hide (bl_alloc (bl_new w (.cells #[.slice A1 n1 c1, .slice A2 n2 c2, .slice A3 n3 c3, .slice A4 n4 c4, .slice A5 n5 c5, .slice A6 n6 c6, .slice A7 n7 c7] 28)) (.cells #[.slice A1' n1' c1', .slice A2' n2' c2', .slice A3' n3' c3', .slice A4' n4' c4', .slice A5' n5' c5', .slice A6' n6' c6', .slice A7' n7' c7'] 28))
  have bx := hide ((Bx.new w [.slice A1 n1 c1, .slice A2 n2 c2, .slice A3 n3 c3, .slice A4 n4 c4, .slice A5 n5 c5, .slice A6 n6 c6, .slice A7 n7 c7] 28).alloc (.cells #[.slice A1' n1' c1', .slice A2' n2' c2', .slice A3' n3' c3', .slice A4' n4' c4', .slice A5' n5' c5', .slice A6' n6' c6', .slice A7' n7' c7'] 28))
  have by_ := hide (bx_snd19 w (.cells #[.slice A1 n1 c1, .slice A2 n2 c2, .slice A3 n3 c3, .slice A4 n4 c4, .slice A5 n5 c5, .slice A6 n6 c6, .slice A7 n7 c7] 28) [.slice A1' n1' c1', .slice A2' n2' c2', .slice A3' n3' c3', .slice A4' n4' c4', .slice A5' n5' c5', .slice A6' n6' c6', .slice A7' n7' c7'] 28)
  go_enter Try.func16, Try.ntmps16
  go_upto_region 1 with fail
  generalize ((w.alloc (.cells #[.slice A1 n1 c1, .slice A2 n2 c2, .slice A3 n3 c3, .slice A4 n4 c4, .slice A5 n5 c5, .slice A6 n6 c6, .slice A7 n7 c7] 28)).alloc (.cells #[.slice A1' n1' c1', .slice A2' n2' c2', .slice A3' n3' c3', .slice A4' n4' c4', .slice A5' n5' c5', .slice A6' n6' c6', .slice A7' n7' c7'] 28)) = w0 at *
  have x := bx.out.2.1 0 _ rfl
  have y := by_.out.2.1 0 _ rfl
  go_wp2_with fail
  clear x y
  refine (Z1.out _ (R1.out _ hb.out) (T1.out _ hb.out)).mono ?_
  rintro e w1 ⟨rfl, h1⟩
  replace hb := hide (bel_next hb.out h1)
  replace bx := hide (bx.out.below h1)
  replace by_ := hide (by_.out.below h1)
  clear h1
  cases z1
  · clear bx by_
    go_wp2
    go_ret
    exact ⟨rfl, hb.out⟩
  have x := bx.out.2.1 1 _ rfl
  have y := by_.out.2.1 1 _ rfl
  go_wp2_with fail
  clear x y
  refine (Z2.out _ (R2.out _ hb.out) (T2.out _ hb.out)).mono ?_
  rintro e w2 ⟨rfl, h1⟩
  replace hb := hide (bel_next hb.out h1)
  replace bx := hide (bx.out.below h1)
  replace by_ := hide (by_.out.below h1)
  clear h1
  cases z2
  · clear bx by_
    go_wp2
    go_ret
    exact ⟨rfl, hb.out⟩
  have x := bx.out.2.1 2 _ rfl
  have y := by_.out.2.1 2 _ rfl
  go_wp2_with fail
  clear x y
  refine (Z3.out _ (R3.out _ hb.out) (T3.out _ hb.out)).mono ?_
  rintro e w3 ⟨rfl, h1⟩
  replace hb := hide (bel_next hb.out h1)
  replace bx := hide (bx.out.below h1)
  replace by_ := hide (by_.out.below h1)
  clear h1
  cases z3
  · clear bx by_
    go_wp2
    go_ret
    exact ⟨rfl, hb.out⟩
  have x := bx.out.2.1 3 _ rfl
  have y := by_.out.2.1 3 _ rfl
  go_wp2_with fail
  clear x y
  refine (Z4.out _ (R4.out _ hb.out) (T4.out _ hb.out)).mono ?_
  rintro e w4 ⟨rfl, h1⟩
  replace hb := hide (bel_next hb.out h1)
  replace bx := hide (bx.out.below h1)
  replace by_ := hide (by_.out.below h1)
  clear h1
  cases z4
  · clear bx by_
    go_wp2
    go_ret
    exact ⟨rfl, hb.out⟩
  have x := bx.out.2.1 4 _ rfl
  have y := by_.out.2.1 4 _ rfl
  go_wp2_with fail
  clear x y
  refine (Z5.out _ (R5.out _ hb.out) (T5.out _ hb.out)).mono ?_
  rintro e w5 ⟨rfl, h1⟩
  replace hb := hide (bel_next hb.out h1)
  replace bx := hide (bx.out.below h1)
  replace by_ := hide (by_.out.below h1)
  clear h1
  cases z5
  · clear bx by_
    go_wp2
    go_ret
    exact ⟨rfl, hb.out⟩
  have x := bx.out.2.1 5 _ rfl
  have y := by_.out.2.1 5 _ rfl
  go_wp2_with fail
  clear x y
  refine (Z6.out _ (R6.out _ hb.out) (T6.out _ hb.out)).mono ?_
  rintro e w6 ⟨rfl, h1⟩
  replace hb := hide (bel_next hb.out h1)
  replace bx := hide (bx.out.below h1)
  replace by_ := hide (by_.out.below h1)
  clear h1
  cases z6
  · clear bx by_
    go_wp2
    go_ret
    exact ⟨rfl, hb.out⟩
  have x := bx.out.2.1 6 _ rfl
  have y := by_.out.2.1 6 _ rfl
  go_wp2_with fail
  clear x y
  refine (Z7.out _ (R7.out _ hb.out) (T7.out _ hb.out)).mono ?_
  rintro e w7 ⟨rfl, h1⟩
  replace hb := hide (bel_next hb.out h1)
  replace bx := hide (bx.out.below h1)
  replace by_ := hide (by_.out.below h1)
  clear h1
  cases z7
  · clear bx by_
    go_wp2
    go_ret
    exact ⟨rfl, hb.out⟩
  go_wp2
  go_ret
  exact ⟨rfl, hb.out⟩
end r19_
end Go.Proofs.Ytgbojkbhkjameaa
namespace Go.Proofs.Ytgbojkbhkjameaa
open Go.ChangeShapes Go.WideShapes Go.ChangeAt Go.RowKit
set_option linter.unusedVariables false
set_option maxRecDepth 100000
/-- is the block encodable, and small? -/
def encOk (k : Nat) (b : Bk) : Bool := lfit k b.lp && (decide (b.ti.length = b.ix.length) && fT k b.ti && fewB b)
theorem lfit19 (k : Nat) (ts : List LP) (i : Nat) (t : LP) (h : ts[i]? = some t) : lfit k (ts.take (i + 1)) = (lfit k (ts.take i) && fitsB k t.1) := by
  unfold lfit
  rw [List.take_add_one, h, List.all_append]
  simp
theorem lfit_no {k : Nat} {ts : List LP} {i : Nat} {t : LP} (h : ts[i]? = some t) (hf : fitsB k t.1 = false) : lfit k ts = false := by
  rw [← Bool.not_eq_true]
  intro e
  have := List.all_eq_true.1 e t (List.mem_of_getElem? h)
  rw [hf] at this
  cases this
namespace r19_
end r19_
end Go.Proofs.Ytgbojkbhkjameaa
namespace Go.Proofs.Ytgbojkbhkjameaa
open Go.ChangeShapes Go.WideShapes Go.ChangeAt Go.RowKit
set_option linter.unusedVariables false
set_option maxRecDepth 100000
/-- a length as a value; a slice as a value. -/
def lv (m : Nat) : Value := .int .u64 (m : Int)
def slv (s : Sl) : Value := .slice s.A s.n s.c
theorem lv_cell {w : World} {g i m : Nat} {M : List Nat} {T : TypeId} (h : Ro w g ((M.map lv).toArray) T) (hm : M[i]? = some m) : w.cell? ⟨g, i, none⟩ = some (.int .u64 (m : Int)) := by
  rw [h.cell, List.getElem?_toArray, List.getElem?_map, hm]
  rfl
theorem sum_le : ∀ (M : List Nat) (i m : Nat), M[i]? = some m → (M.take i).sum + m ≤ M.sum
  | [], i, m, h => by simp at h
  | a :: l, 0, m, h => by simp at h; subst h; simp
  | a :: l, i + 1, m, h => by
    have := sum_le l i m (by simpa using h)
    simp only [List.take_succ_cons, List.sum_cons]
    omega
theorem take_sum {M : List Nat} {i m : Nat} (h : M[i]? = some m) : (M.take (i + 1)).sum = (M.take i).sum + m := by
  rw [List.take_add_one, h]
  simp
/-- rows below a bound stay; rows apart from a slice stay when it grows. -/
theorem ro_low {w w' : World} {g B : Nat} {vs : Array Value} {T : TypeId} (h : Ro w g vs T) (hb : Below B w w') (hg : g < B) : Ro w' g vs T := (hb.block g hg).trans h
theorem ro_gw {w w' : World} {g : Nat} {A A' : Option Addr} {vs : Array Value} {T : TypeId} (h : Ro w g vs T) (hg : Gw w w' A A') (hd : oB A ≠ some g) : Ro w' g vs T := (hg.g.block g h.lt (fun h' => hd h'.symm)).trans h
/-- the parts that have been taken, apart from the slice at A1 that holds them. -/
def PPs (w : World) (B : Nat) (u : TypeId) (xs : List Int) (p : Nat) (M : List Nat) (Ps : List Sl) (A1 : Option Addr) : Prop := ∀ (j : Nat) (s : Sl), Ps[j]? = some s → M[j]? = some s.n ∧ Ow w B u s.A s.n s.c ((fld xs (p + (M.take j).sum) s.n).map (Value.int .u8)) ∧ Dj s.A A1
section
variable {w w' : World} {B : Nat} {u : TypeId} {xs : List Int} {p : Nat} {M : List Nat} {Ps : List Sl} {A A' : Option Addr}
theorem PPs.below (h : PPs w B u xs p M Ps A) (hb : Below w.heap.size w w') : PPs w' B u xs p M Ps A := fun j s hj => by
  obtain ⟨h1, h2, h3⟩ := h j s hj
  exact ⟨h1, h2.below hb, h3⟩
theorem PPs.gw (h : PPs w B u xs p M Ps A) (hg : Gw w w' A A') : PPs w' B u xs p M Ps A' := fun j s hj => by
  obtain ⟨h1, h2, h3⟩ := h j s hj
  exact ⟨h1, hg.ow h2 h3, hg.dj h2 h3⟩
theorem PPs.set (h : PPs w B u xs p M Ps A) {g : Nat} (o : Nat) (hg : g < B) (v : Value) : PPs (w.setCell ⟨g, o, none⟩ v) B u xs p M Ps A := fun j s hj => by
  obtain ⟨h1, h2, h3⟩ := h j s hj
  exact ⟨h1, h2.setLow o hg v, h3⟩
theorem PPs.snoc (h : PPs w B u xs p M Ps A) {s : Sl} (hm : M[Ps.length]? = some s.n) (ho : Ow w B u s.A s.n s.c ((fld xs (p + (M.take Ps.length).sum) s.n).map (Value.int .u8))) (hd : Dj s.A A) : PPs w B u xs p M (Ps ++ [s]) A := fun j t hj => by
  rcases Nat.lt_trichotomy j Ps.length with hl | hl | hl
  · rw [List.getElem?_append_left hl] at hj
    exact h j t hj
  · subst hl
    rw [List.getElem?_concat_length] at hj
    cases hj
    exact ⟨hm, ho, hd⟩
  · rw [List.getElem?_eq_none (by simp; omega)] at hj
    cases hj
end
namespace r19_
end r19_
end Go.Proofs.Ytgbojkbhkjameaa
namespace Go.Proofs.Ytgbojkbhkjameaa
open Go.RowKit
set_option linter.unusedVariables false
namespace r19_
end r19_
end Go.Proofs.Ytgbojkbhkjameaa
