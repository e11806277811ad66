/-
  CONTRACTS OF PACKAGE zoneinforef19 (the reference of layer 19): Header, Few, Equal. Conditions: a block that can be read.
  CONTRACTS OF PACKAGE zoneinforef19 (the reference of layer 19): Encodable, Encode. Conditions: a block that can be read, time sizes 4 and 8; of Encode: an encodable block.
  CONTRACTS OF PACKAGE zoneinforef19 (the reference of layer 19): Decode. UNDER WAY.
  CONTRACTS OF PACKAGE zoneinforef19: Decode, all cases in one.
-/
import Derived.Test.YtbajdlgcajeldaaGreatDoorBlW
import Derived.Test.YtbajdlgcajeldaaGreatDoorRef14
import Derived.Test.YtbajdlgcajeldaaGreatDoorRef15
import Derived.Test.YtbajdlgcajeldaaGreatDoorRef16
import Derived.Test.YtbajdlgcajeldaaGreatDoorRef17
import Derived.Test.YtbajdlgcajeldaaGreatDoorRef18
import Derived.Test.YtbajdlgcajeldaaGreatDoorR2
import Derived.Test.YtbajdlgcajeldaaGreatDoorRow4
import Derived.Test.YtbajdlgcajeldaaGreatDoorBlO
import Derived.Test.YtbajdlgcajeldaaGreatDoorBase2
namespace Go.Proofs.YtbajdlgcajeldaaGreatDoor
open Go.ChangeShapes Go.WideShapes Go.ChangeAt Go.RowKit
set_option linter.unusedVariables false
set_option maxRecDepth 100000
/-- the header's counts of a block: six numbers. -/
@[reducible] def hdB (v : Int) (b : Bk) : Value := hdV v b.ut.length b.sd.length b.lp.length b.ti.length b.ty.length b.ch.length
/-- is the block small? -/
def fewB (b : Bk) : Bool := decide (b.ti.length ≤ 200) && decide (b.ix.length ≤ 200) && decide (b.ty.length ≤ 200) && decide (b.ch.length ≤ 600) && decide (b.lp.length ≤ 200) && decide (b.sd.length ≤ 200) && decide (b.ut.length ≤ 200)
theorem cast_le (n m : Nat) : decide ((n : Int) ≤ (m : Int)) = decide (n ≤ m) := by rw [decide_eq_decide]; omega
theorem bx_snd19 (w : World) (o : Obj) (vs : List Value) (T : TypeId) : Bx ((w.alloc o).alloc (.cells vs.toArray T)) (w.heap.size + 1) vs := by
  have := Bx.new (w.alloc o) vs T
  rwa [show (w.alloc o).heap.size = w.heap.size + 1 by simp] at this
namespace r19_
set_option maxHeartbeats 1000000 in
theorem Few (S : BkS) (b : Bk) (w : World) (h : IsBk w S b) : Calls Tryz.prog 6 #[bkV S] w fun e w' => e = .returned (.bool (fewB b)) ∧ Below w.heap.size w w' := by
  obtain ⟨l1, l2, l3, l4, l5, l6, l7⟩ := h.lens
  have e : fewB b = (decide (S.ti.n ≤ 200) && decide (S.ix.n ≤ 200) && decide (S.ty.n ≤ 200) && decide (S.ch.n ≤ 600) && decide (S.lp.n ≤ 200) && decide (S.sd.n ≤ 200) && decide (S.ut.n ≤ 200)) := by unfold fewB; rw [l1, l2, l3, l4, l5, l6, l7]
  rw [e]
  clear e l1 l2 l3 l4 l5 l6 l7 h
  obtain ⟨⟨A1, n1, c1⟩, ⟨A2, n2, c2⟩, ⟨A3, n3, c3⟩, ⟨A4, n4, c4⟩, ⟨A5, n5, c5⟩, ⟨A6, n6, c6⟩, ⟨A7, n7, c7⟩⟩ := S
  dsimp only
  have hb := hide (bl_new w (.cells #[.slice A1 n1 c1, .slice A2 n2 c2, .slice A3 n3 c3, .slice A4 n4 c4, .slice A5 n5 c5, .slice A6 n6 c6, .slice A7 n7 c7] 34))
  go_enter Tryz.func6, Tryz.ntmps6
  go_wp2
  all_goals
    go_ret
    refine ⟨retb ?_, hb.out⟩
    rw [Bool.eq_iff_iff]
    simp only [Bool.and_eq_true, decide_eq_true_eq, Bool.false_eq_true]
    first
      | omega
      | exact iff_of_false id (by omega)
set_option maxHeartbeats 2000000 in
theorem Header (S : BkS) (b : Bk) (v : Int) (w : World) (h : IsBk w S b) (hf : fewB b = true) : Calls Tryz.prog 13 #[bkV S, .int .i64 v] w fun e w' => e = .returned (hdB v b) ∧ Below w.heap.size w w' := by
  obtain ⟨l1, l2, l3, l4, l5, l6, l7⟩ := h.lens
  unfold fewB at hf
  simp only [Bool.and_eq_true, decide_eq_true_eq] at hf
  unfold hdB
  rw [l1, l3, l4, l5, l6, l7]
  have k1 : IntKind.u32.wrap (S.ti.n : Int) = S.ti.n := by rw [IntKind.wrap_u32]; omega
  have k3 : IntKind.u32.wrap (S.ty.n : Int) = S.ty.n := by rw [IntKind.wrap_u32]; omega
  have k4 : IntKind.u32.wrap (S.ch.n : Int) = S.ch.n := by rw [IntKind.wrap_u32]; omega
  have k5 : IntKind.u32.wrap (S.lp.n : Int) = S.lp.n := by rw [IntKind.wrap_u32]; omega
  have k6 : IntKind.u32.wrap (S.sd.n : Int) = S.sd.n := by rw [IntKind.wrap_u32]; omega
  have k7 : IntKind.u32.wrap (S.ut.n : Int) = S.ut.n := by rw [IntKind.wrap_u32]; omega
  clear hf l1 l2 l3 l4 l5 l6 l7 h
  obtain ⟨⟨A1, n1, c1⟩, ⟨A2, n2, c2⟩, ⟨A3, n3, c3⟩, ⟨A4, n4, c4⟩, ⟨A5, n5, c5⟩, ⟨A6, n6, c6⟩, ⟨A7, n7, c7⟩⟩ := S
  dsimp only at k1 k3 k4 k5 k6 k7 ⊢
  go_enter Tryz.func13, Tryz.ntmps13
  go_wp2
  exact bodyPost_ret (v := hdV v n7 n6 n5 n1 n3 n4) (by simp [results, Tryz.results13, go_sem]) rfl ⟨rfl, bl_alloc (bl_alloc (bl_new _ _) _) _⟩
set_option maxHeartbeats 4000000 in
theorem Equal (S S' : BkS) (b b' : Bk) (w : World) (h : IsBk w S b) (h' : IsBk w S' b') : Calls Tryz.prog 10 #[bkV S, bkV S'] w fun e w' => e = .returned (.bool (beqB b b')) ∧ Below w.heap.size w w' := by
  have Z1 := hide (fun w a a' => r15_.Same S.ti.A S'.ti.A S.ti.n S'.ti.n S.ti.c S'.ti.c b.ti b'.ti w (by have := h.oti; unfold Sl.ok at this; omega) (by have := h'.oti; unfold Sl.ok at this; omega) a a')
  have Z2 := hide (fun w a a' => r1_.SameG S.ix.A S'.ix.A S.ix.n S'.ix.n S.ix.c S'.ix.c b.ix b'.ix w (by have := h.oix; unfold Sl.ok at this; omega) (by have := h'.oix; unfold Sl.ok at this; omega) a a')
  have Z3 := hide (fun w a a' => r16_.Same S.ty.A S'.ty.A S.ty.n S'.ty.n S.ty.c S'.ty.c b.ty b'.ty w (by have := h.oty; unfold Sl.ok at this; omega) (by have := h'.oty; unfold Sl.ok at this; omega) a a')
  have Z4 := hide (fun w a a' => r1_.SameG S.ch.A S'.ch.A S.ch.n S'.ch.n S.ch.c S'.ch.c b.ch b'.ch w (by have := h.och; unfold Sl.ok at this; omega) (by have := h'.och; unfold Sl.ok at this; omega) a a')
  have Z5 := hide (fun w a a' => r17_.Same S.lp.A S'.lp.A S.lp.n S'.lp.n S.lp.c S'.lp.c b.lp b'.lp w (by have := h.olp; unfold Sl.ok at this; omega) (by have := h'.olp; unfold Sl.ok at this; omega) a a')
  have Z6 := hide (fun w a a' => r18_.Same S.sd.A S'.sd.A S.sd.n S'.sd.n S.sd.c S'.sd.c b.sd b'.sd w (by have := h.osd; unfold Sl.ok at this; omega) (by have := h'.osd; unfold Sl.ok at this; omega) a a')
  have Z7 := hide (fun w a a' => r18_.Same S.ut.A S'.ut.A S.ut.n S'.ut.n S.ut.c S'.ut.c b.ut b'.ut w (by have := h.out_; unfold Sl.ok at this; omega) (by have := h'.out_; unfold Sl.ok at this; omega) a a')
  have R1 := hide (fun (W : World) (hb : Below w.heap.size w W) => (h.ti.below hb))
  have R2 := hide (fun (W : World) (hb : Below w.heap.size w W) => (h.ix.below hb))
  have R3 := hide (fun (W : World) (hb : Below w.heap.size w W) => (h.ty.below hb))
  have R4 := hide (fun (W : World) (hb : Below w.heap.size w W) => (h.ch.below hb))
  have R5 := hide (fun (W : World) (hb : Below w.heap.size w W) => (h.lp.below hb))
  have R6 := hide (fun (W : World) (hb : Below w.heap.size w W) => (h.sd.below hb))
  have R7 := hide (fun (W : World) (hb : Below w.heap.size w W) => (h.ut.below hb))
  have T1 := hide (fun (W : World) (hb : Below w.heap.size w W) => (h'.ti.below hb))
  have T2 := hide (fun (W : World) (hb : Below w.heap.size w W) => (h'.ix.below hb))
  have T3 := hide (fun (W : World) (hb : Below w.heap.size w W) => (h'.ty.below hb))
  have T4 := hide (fun (W : World) (hb : Below w.heap.size w W) => (h'.ch.below hb))
  have T5 := hide (fun (W : World) (hb : Below w.heap.size w W) => (h'.lp.below hb))
  have T6 := hide (fun (W : World) (hb : Below w.heap.size w W) => (h'.sd.below hb))
  have T7 := hide (fun (W : World) (hb : Below w.heap.size w W) => (h'.ut.below hb))
  unfold beqB
  clear h h'
  obtain ⟨⟨A1, n1, c1⟩, ⟨A2, n2, c2⟩, ⟨A3, n3, c3⟩, ⟨A4, n4, c4⟩, ⟨A5, n5, c5⟩, ⟨A6, n6, c6⟩, ⟨A7, n7, c7⟩⟩ := S
  obtain ⟨⟨A1', n1', c1'⟩, ⟨A2', n2', c2'⟩, ⟨A3', n3', c3'⟩, ⟨A4', n4', c4'⟩, ⟨A5', n5', c5'⟩, ⟨A6', n6', c6'⟩, ⟨A7', n7', c7'⟩⟩ := S'
  dsimp only at Z1 Z2 Z3 Z4 Z5 Z6 Z7 R1 R2 R3 R4 R5 R6 R7 T1 T2 T3 T4 T5 T6 T7 ⊢
  generalize decide (b.ti = b'.ti) = z1 at *
  generalize decide (b.ix = b'.ix) = z2 at *
  generalize decide (b.ty = b'.ty) = z3 at *
  generalize decide (b.ch = b'.ch) = z4 at *
  generalize decide (b.lp = b'.lp) = z5 at *
  generalize decide (b.sd = b'.sd) = z6 at *
  generalize decide (b.ut = b'.ut) = z7 at *
  have hb := hide (bl_alloc (bl_new w (.cells #[.slice A1 n1 c1, .slice A2 n2 c2, .slice A3 n3 c3, .slice A4 n4 c4, .slice A5 n5 c5, .slice A6 n6 c6, .slice A7 n7 c7] 34)) (.cells #[.slice A1' n1' c1', .slice A2' n2' c2', .slice A3' n3' c3', .slice A4' n4' c4', .slice A5' n5' c5', .slice A6' n6' c6', .slice A7' n7' c7'] 34))
  have bx := hide ((Bx.new w [.slice A1 n1 c1, .slice A2 n2 c2, .slice A3 n3 c3, .slice A4 n4 c4, .slice A5 n5 c5, .slice A6 n6 c6, .slice A7 n7 c7] 34).alloc (.cells #[.slice A1' n1' c1', .slice A2' n2' c2', .slice A3' n3' c3', .slice A4' n4' c4', .slice A5' n5' c5', .slice A6' n6' c6', .slice A7' n7' c7'] 34))
  have by_ := hide (bx_snd19 w (.cells #[.slice A1 n1 c1, .slice A2 n2 c2, .slice A3 n3 c3, .slice A4 n4 c4, .slice A5 n5 c5, .slice A6 n6 c6, .slice A7 n7 c7] 34) [.slice A1' n1' c1', .slice A2' n2' c2', .slice A3' n3' c3', .slice A4' n4' c4', .slice A5' n5' c5', .slice A6' n6' c6', .slice A7' n7' c7'] 34)
  go_enter Tryz.func10, Tryz.ntmps10
  go_upto_region 1 with fail
  generalize ((w.alloc (.cells #[.slice A1 n1 c1, .slice A2 n2 c2, .slice A3 n3 c3, .slice A4 n4 c4, .slice A5 n5 c5, .slice A6 n6 c6, .slice A7 n7 c7] 34)).alloc (.cells #[.slice A1' n1' c1', .slice A2' n2' c2', .slice A3' n3' c3', .slice A4' n4' c4', .slice A5' n5' c5', .slice A6' n6' c6', .slice A7' n7' c7'] 34)) = w0 at *
  have x := bx.out.2.1 0 _ rfl
  have y := by_.out.2.1 0 _ rfl
  go_wp2_with fail
  clear x y
  refine (Z1.out _ (R1.out _ hb.out) (T1.out _ hb.out)).mono ?_
  rintro e w1 ⟨rfl, h1⟩
  replace hb := hide (bel_next hb.out h1)
  replace bx := hide (bx.out.below h1)
  replace by_ := hide (by_.out.below h1)
  clear h1
  cases z1
  · clear bx by_
    go_wp2
    go_ret
    exact ⟨rfl, hb.out⟩
  have x := bx.out.2.1 1 _ rfl
  have y := by_.out.2.1 1 _ rfl
  go_wp2_with fail
  clear x y
  refine (Z2.out _ (R2.out _ hb.out) (T2.out _ hb.out)).mono ?_
  rintro e w2 ⟨rfl, h1⟩
  replace hb := hide (bel_next hb.out h1)
  replace bx := hide (bx.out.below h1)
  replace by_ := hide (by_.out.below h1)
  clear h1
  cases z2
  · clear bx by_
    go_wp2
    go_ret
    exact ⟨rfl, hb.out⟩
  have x := bx.out.2.1 2 _ rfl
  have y := by_.out.2.1 2 _ rfl
  go_wp2_with fail
  clear x y
  refine (Z3.out _ (R3.out _ hb.out) (T3.out _ hb.out)).mono ?_
  rintro e w3 ⟨rfl, h1⟩
  replace hb := hide (bel_next hb.out h1)
  replace bx := hide (bx.out.below h1)
  replace by_ := hide (by_.out.below h1)
  clear h1
  cases z3
  · clear bx by_
    go_wp2
    go_ret
    exact ⟨rfl, hb.out⟩
  have x := bx.out.2.1 3 _ rfl
  have y := by_.out.2.1 3 _ rfl
  go_wp2_with fail
  clear x y
  refine (Z4.out _ (R4.out _ hb.out) (T4.out _ hb.out)).mono ?_
  rintro e w4 ⟨rfl, h1⟩
  replace hb := hide (bel_next hb.out h1)
  replace bx := hide (bx.out.below h1)
  replace by_ := hide (by_.out.below h1)
  clear h1
  cases z4
  · clear bx by_
    go_wp2
    go_ret
    exact ⟨rfl, hb.out⟩
  have x := bx.out.2.1 4 _ rfl
  have y := by_.out.2.1 4 _ rfl
  go_wp2_with fail
  clear x y
  refine (Z5.out _ (R5.out _ hb.out) (T5.out _ hb.out)).mono ?_
  rintro e w5 ⟨rfl, h1⟩
  replace hb := hide (bel_next hb.out h1)
  replace bx := hide (bx.out.below h1)
  replace by_ := hide (by_.out.below h1)
  clear h1
  cases z5
  · clear bx by_
    go_wp2
    go_ret
    exact ⟨rfl, hb.out⟩
  have x := bx.out.2.1 5 _ rfl
  have y := by_.out.2.1 5 _ rfl
  go_wp2_with fail
  clear x y
  refine (Z6.out _ (R6.out _ hb.out) (T6.out _ hb.out)).mono ?_
  rintro e w6 ⟨rfl, h1⟩
  replace hb := hide (bel_next hb.out h1)
  replace bx := hide (bx.out.below h1)
  replace by_ := hide (by_.out.below h1)
  clear h1
  cases z6
  · clear bx by_
    go_wp2
    go_ret
    exact ⟨rfl, hb.out⟩
  have x := bx.out.2.1 6 _ rfl
  have y := by_.out.2.1 6 _ rfl
  go_wp2_with fail
  clear x y
  refine (Z7.out _ (R7.out _ hb.out) (T7.out _ hb.out)).mono ?_
  rintro e w7 ⟨rfl, h1⟩
  replace hb := hide (bel_next hb.out h1)
  replace bx := hide (bx.out.below h1)
  replace by_ := hide (by_.out.below h1)
  clear h1
  cases z7
  · clear bx by_
    go_wp2
    go_ret
    exact ⟨rfl, hb.out⟩
  go_wp2
  go_ret
  exact ⟨rfl, hb.out⟩
end r19_
end Go.Proofs.YtbajdlgcajeldaaGreatDoor
namespace Go.Proofs.YtbajdlgcajeldaaGreatDoor
open Go.ChangeShapes Go.WideShapes Go.ChangeAt Go.RowKit
set_option linter.unusedVariables false
set_option maxRecDepth 100000
/-- is the block encodable, and small? -/
def encOk (k : Nat) (b : Bk) : Bool := lfit k b.lp && (decide (b.ti.length = b.ix.length) && fT k b.ti && fewB b)
theorem lfit19 (k : Nat) (ts : List LP) (i : Nat) (t : LP) (h : ts[i]? = some t) : lfit k (ts.take (i + 1)) = (lfit k (ts.take i) && fitsB k t.1) := by
  unfold lfit
  rw [List.take_add_one, h, List.all_append]
  simp
theorem lfit_no {k : Nat} {ts : List LP} {i : Nat} {t : LP} (h : ts[i]? = some t) (hf : fitsB k t.1 = false) : lfit k ts = false := by
  rw [← Bool.not_eq_true]
  intro e
  have := List.all_eq_true.1 e t (List.mem_of_getElem? h)
  rw [hf] at this
  cases this
namespace r19_
set_option maxHeartbeats 4000000 in
theorem Encodable (S : BkS) (b : Bk) (k : Nat) (K : Int) (w : World) (hK : K = (k : Int)) (hk : k = 4 ∨ k = 8) (h : IsBk w S b) : Calls Tryz.prog 15 #[bkV S, .int .i64 K] w fun e w' => e = .returned (.bool (encOk k b)) ∧ Below w.heap.size w w' := by
  obtain ⟨l1, l2, l3, l4, l5, l6, l7⟩ := h.lens
  have om : S.lp.n ≤ 9223372036854775807 := by have := h.olp; unfold Sl.ok at this; omega
  have F := hide (fun W (hb : Below w.heap.size w W) => Few S b W (h.below hb))
  have FT := hide (fun W (hb : Below w.heap.size w W) => r15_.FitK S.ti.A S.ti.n S.ti.c b.ti k K W hK hk (by have := h.oti; unfold Sl.ok at this; omega) h.oti.1 (h.ti.below hb) h.ok.ti)
  have FI := hide (fun (i : Nat) (t : LP) (ht : b.lp[i]? = some t) W => r1_.Fits t.1 k W (by omega) (h.ok.lp t (List.mem_of_getElem? ht)).1 (h.ok.lp t (List.mem_of_getElem? ht)).2.1)
  have R5 := hide (fun W (hb : Below w.heap.size w W) => h.lp.below hb)
  have hl5 := hide l5
  have e : encOk k b = (lfit k b.lp && (decide (S.ti.n = S.ix.n) && fT k b.ti && fewB b)) := by unfold encOk; rw [l1, l2]
  obtain ⟨r, hr⟩ : ∃ r, encOk k b = r := ⟨_, rfl⟩
  rw [hr] at e ⊢
  replace e := hide e
  subst hK
  clear l1 l2 l3 l4 l5 l6 l7 h hr
  generalize fewB b = zf at *
  generalize fT k b.ti = zt at *
  obtain ⟨⟨A1, n1, c1⟩, ⟨A2, n2, c2⟩, ⟨A3, n3, c3⟩, ⟨A4, n4, c4⟩, ⟨A5, n5, c5⟩, ⟨A6, n6, c6⟩, ⟨A7, n7, c7⟩⟩ := S
  dsimp only at F FT R5 om hl5 e ⊢
  have hb := hide (bl_new w (.cells #[.slice A1 n1 c1, .slice A2 n2 c2, .slice A3 n3 c3, .slice A4 n4 c4, .slice A5 n5 c5, .slice A6 n6 c6, .slice A7 n7 c7] 34))
  have bx := hide (Bx.new w [.slice A1 n1 c1, .slice A2 n2 c2, .slice A3 n3 c3, .slice A4 n4 c4, .slice A5 n5 c5, .slice A6 n6 c6, .slice A7 n7 c7] 34)
  go_enter Tryz.func15, Tryz.ntmps15
  go_upto_region 1 with fail
  generalize (w.alloc (.cells #[.slice A1 n1 c1, .slice A2 n2 c2, .slice A3 n3 c3, .slice A4 n4 c4, .slice A5 n5 c5, .slice A6 n6 c6, .slice A7 n7 c7] 34)) = w0 at *
  have x0 := bx.out.2.1 0 _ rfl
  have x1 := bx.out.2.1 1 _ rfl
  have x4 := bx.out.2.1 4 _ rfl
  go_wp2_with fail
  go_loop [5] (fun iv => ∃ i : Nat, i ≤ n5 ∧ iv = .int .i64 (i : Nat) ∧ Hid (lfit k (b.lp.take i) = true)) (fun i => n5 - (intOf i).toNat)
  case atStart => exact ⟨0, by omega, rfl, hide rfl⟩
  case round =>
    obtain ⟨i, hi, rfl, hf⟩ := hrel
    by_cases hlt : i < n5
    · have hir : (i : Int) < (n5 : Int) := by omega
      obtain ⟨ad, t, e1, ht, f0, _⟩ := (R5.out _ hb.out).lp hlt
      subst e1
      have HF := hide (FI.out i t ht w0)
      have hst := lfit19 k b.lp i t ht
      rw [hf.out, Bool.true_and] at hst
      have hno := hide (fun (hz : fitsB k t.1 = false) => show r = false by rw [e.out, lfit_no ht hz]; rfl)
      generalize fitsB k t.1 = z at *
      replace hst := hide hst
      clear ht
      go_wp2_with fail
      refine HF.out.mono ?_
      rintro e w' ⟨rfl, rfl⟩
      cases z
      · obtain rfl := hno.out rfl
        go_wp2
        go_ret
        exact ⟨rfl, hb.out⟩
      · clear hno
        go_wp2
        go_round
        case rel => exact ⟨i + 1, by omega, by go_num, by rw [hst.out]; exact hide rfl⟩
        case measure => simp [intOf]; omega
    · obtain rfl : i = n5 := by omega
      rw [List.take_of_length_le (by rw [hl5.out]; exact Nat.le_refl _)] at hf
      have e2 : r = (decide (n1 = n2) && zt && zf) := by rw [e.out, hf.out, Bool.true_and]
      by_cases hn : n1 = n2
      · rw [decide_eq_true hn, Bool.true_and] at e2
        have d : ((n1 : Int) == n2) = true := by simp; omega
        subst e2
        replace hn := hide hn
        go_wp2_with fail
        refine (FT.out _ hb.out).mono ?_
        rintro e w1 ⟨rfl, h1⟩
        have bx1 := hide (bx.out.below h1)
        have hb1 := hide (bel_next hb.out h1)
        clear h1 x0 x1 x4 bx hb R5
        cases zt
        · go_wp2
          go_ret
          exact ⟨rfl, hb1.out⟩
        · have y0 := bx1.out.2.1 0 _ rfl
          have y1 := bx1.out.2.1 1 _ rfl
          have y2 := bx1.out.2.1 2 _ rfl
          have y3 := bx1.out.2.1 3 _ rfl
          have y4 := bx1.out.2.1 4 _ rfl
          have y5 := bx1.out.2.1 5 _ rfl
          have y6 := bx1.out.2.1 6 _ rfl
          go_wp2_with fail
          clear y0 y1 y2 y3 y4 y5 y6
          refine (F.out _ hb1.out).mono ?_
          rintro e w2 ⟨rfl, h1⟩
          replace hb1 := hide (bel_next hb1.out h1)
          go_wp2
          go_ret
          exact ⟨rfl, hb1.out⟩
      · rw [decide_eq_false hn, Bool.false_and, Bool.false_and] at e2
        have d : ((n1 : Int) == n2) = false := by simp; omega
        subst e2
        replace hn := hide hn
        go_wp2
        go_ret
        exact ⟨rfl, hb.out⟩
set_option maxHeartbeats 8000000 in
theorem Encode (S : BkS) (b : Bk) (k m : Nat) (K : Int) (w : World) (hK : K = (k : Int)) (hk : k = 4 ∨ k = 8) (h : IsBk w S b) (hs : fewB b = true) (hm : m = (encB k b).length) :
    Calls Tryz.prog 18 #[bkV S, .int .i64 K] w fun e w' => ∃ A' c', e = .returned (.slice A' m c') ∧ Ow w' w.heap.size 5 A' m c' ((encB k b).map (Value.int .u8)) ∧ Below w.heap.size w w' := by
  obtain ⟨l1, l2, l3, l4, l5, l6, l7⟩ := h.lens
  unfold fewB at hs
  simp only [Bool.and_eq_true, decide_eq_true_eq, l1, l2, l3, l4, l5, l6, l7] at hs
  obtain ⟨P1, hP1⟩ : ∃ P1, P1 = k * S.ti.n := ⟨_, rfl⟩
  obtain ⟨P3, hP3⟩ : ∃ P3, P3 = S.ty.n * 6 := ⟨_, rfl⟩
  obtain ⟨P5, hP5⟩ : ∃ P5, P5 = S.lp.n * (k + 4) := ⟨_, rfl⟩
  have Z1 := hide (fun W (hb : Below w.heap.size w W) => r15_.EncodeK S.ti.A S.ti.n S.ti.c P1 b.ti k K W hK hk (by omega) hP1 h.oti.1 (h.ti.below hb) h.ok.ti)
  have Z3 := hide (fun W (hb : Below w.heap.size w W) => r16_.Encode S.ty.A S.ty.n S.ty.c P3 b.ty W (by omega) hP3 h.oty.1 (h.ty.below hb) h.ok.ty)
  have Z5 := hide (fun W (hb : Below w.heap.size w W) => r17_.EncodeK S.lp.A S.lp.n S.lp.c P5 b.lp k K W hK hk (by omega) hP5 (h.lp.below hb) h.ok.lp)
  have Z6 := hide (fun W (hb : Below w.heap.size w W) => r18_.Encode S.sd.A S.sd.n S.sd.c b.sd W (by omega) (h.sd.below hb))
  have Z7 := hide (fun W (hb : Below w.heap.size w W) => r18_.Encode S.ut.A S.ut.n S.ut.c b.ut W (by omega) (h.ut.below hb))
  have R2 := hide (fun W (hb : Below w.heap.size w W) => h.ix.below hb)
  have R4 := hide (fun W (hb : Below w.heap.size w W) => h.ch.below hb)
  have nil2 := h.oix.1
  have nil4 := h.och.1
  have b1 : P1 ≤ 1600 := by rw [hP1]; rcases hk with rfl | rfl <;> omega
  have b5 : P5 ≤ 2400 := by rw [hP5]; rcases hk with rfl | rfl <;> omega
  have hall := hide (show eT k b.ti ++ b.ix ++ eTT b.ty ++ b.ch ++ eLP k b.lp ++ eI b.sd ++ eI b.ut = encB k b by unfold encB; simp only [List.append_assoc])
  have hlen : (encB k b).length = P1 + S.ix.n + P3 + S.ch.n + P5 + S.sd.n + S.ut.n := by
    rw [← hall.out]
    simp only [List.length_append, eT_len, eTT_len, eLP_len, eI_len, l1, l2, l3, l4, l5, l6, l7, hP1, hP3, hP5]
  rw [hlen] at hm
  have one : ∀ l : List Int, Hid (∀ v ∈ l.map (Value.int .u8), v.oneCell' = true) := fun l => hide (fun v hv => by obtain ⟨x, _, rfl⟩ := List.mem_map.1 hv; rfl)
  have M2 := one b.ix
  have M3 := one (eTT b.ty)
  have M4 := one b.ch
  have M5 := one (eLP k b.lp)
  have M6 := one (eI b.sd)
  have M7 := one (eI b.ut)
  clear hlen l1 l2 l3 l4 l5 l6 l7 h hK one hP1 hP5
  generalize encB k b = enc at *
  generalize eT k b.ti = s1 at *
  generalize eTT b.ty = s3 at *
  generalize eLP k b.lp = s5 at *
  generalize eI b.sd = s6 at *
  generalize eI b.ut = s7 at *
  obtain ⟨⟨A1, n1, c1⟩, ⟨A2, n2, c2⟩, ⟨A3, n3, c3⟩, ⟨A4, n4, c4⟩, ⟨A5, n5, c5⟩, ⟨A6, n6, c6⟩, ⟨A7, n7, c7⟩⟩ := S
  dsimp only at Z1 Z3 Z5 Z6 Z7 R2 R4 nil2 nil4 hP3 hm hs ⊢
  have q2 := hide (show P1 + n2 ≤ maxLen by simp [maxLen]; omega)
  have r2 := hide (show (P1 + n2) * 1 ≤ 140737488355328 by omega)
  have q3 := hide (show P1 + n2 + P3 ≤ maxLen by simp [maxLen]; omega)
  have r3 := hide (show (P1 + n2 + P3) * 1 ≤ 140737488355328 by omega)
  have q4 := hide (show P1 + n2 + P3 + n4 ≤ maxLen by simp [maxLen]; omega)
  have r4 := hide (show (P1 + n2 + P3 + n4) * 1 ≤ 140737488355328 by omega)
  have q5 := hide (show P1 + n2 + P3 + n4 + P5 ≤ maxLen by simp [maxLen]; omega)
  have r5 := hide (show (P1 + n2 + P3 + n4 + P5) * 1 ≤ 140737488355328 by omega)
  have q6 := hide (show P1 + n2 + P3 + n4 + P5 + n6 ≤ maxLen by simp [maxLen]; omega)
  have r6 := hide (show (P1 + n2 + P3 + n4 + P5 + n6) * 1 ≤ 140737488355328 by omega)
  have q7 := hide (show P1 + n2 + P3 + n4 + P5 + n6 + n7 ≤ maxLen by simp [maxLen]; omega)
  have r7 := hide (show (P1 + n2 + P3 + n4 + P5 + n6 + n7) * 1 ≤ 140737488355328 by omega)
  replace hm := hide hm
  replace nil2 := hide nil2
  replace nil4 := hide nil4
  clear hs hP3 b1 b5
  have hb := hide (bl_new w (.cells #[.slice A1 n1 c1, .slice A2 n2 c2, .slice A3 n3 c3, .slice A4 n4 c4, .slice A5 n5 c5, .slice A6 n6 c6, .slice A7 n7 c7] 34))
  have bx := hide (Bx.new w [.slice A1 n1 c1, .slice A2 n2 c2, .slice A3 n3 c3, .slice A4 n4 c4, .slice A5 n5 c5, .slice A6 n6 c6, .slice A7 n7 c7] 34)
  have hw0 := hide (show (w.alloc (.cells #[.slice A1 n1 c1, .slice A2 n2 c2, .slice A3 n3 c3, .slice A4 n4 c4, .slice A5 n5 c5, .slice A6 n6 c6, .slice A7 n7 c7] 34)).heap.size = w.heap.size + 1 by simp)
  have hw0' := hide (show w.heap.size ≤ (w.alloc (.cells #[.slice A1 n1 c1, .slice A2 n2 c2, .slice A3 n3 c3, .slice A4 n4 c4, .slice A5 n5 c5, .slice A6 n6 c6, .slice A7 n7 c7] 34)).heap.size by simp)
  go_enter Tryz.func18, Tryz.ntmps18
  go_upto_region 1 with fail
  generalize (w.alloc (.cells #[.slice A1 n1 c1, .slice A2 n2 c2, .slice A3 n3 c3, .slice A4 n4 c4, .slice A5 n5 c5, .slice A6 n6 c6, .slice A7 n7 c7] 34)) = w0 at *
  have x := bx.out.2.1 0 _ rfl
  go_wp2_with fail
  clear x
  refine (Z1.out _ hb.out).mono ?_
  rintro e w1 ⟨A, c, rfl, o, h1⟩
  replace o := hide o
  replace hb := hide (bel_next hb.out h1)
  replace bx := hide (bx.out.below h1)
  clear h1
  have x := bx.out.2.1 1 _ rfl
  go_upto_region 3 with (at_builtin; refine apA elBy_ o.out hb.out hw0'.out (R2.out _ hb.out) (.tmp 10) (.tmp 12) rfl rfl rfl rfl nil2.out M2.out q2.out r2.out ?_; intro A' c' w' o' hb' hg'; rw [← List.map_append] at o'; replace o' := hide o'; replace hb' := hide hb'; replace hg' := hide hg')
  have bx' := hide (hg'.out.bx bx.out (fun h => by have := (o.out.blk h).1; have := hw0.out; omega))
  clear bx hg' hb o
  have bx := hide bx'.out
  have hb := hide hb'.out
  have o := hide o'.out
  clear bx' hb' o'
  rename World => wA
  clear x
  have x := bx.out.2.1 2 _ rfl
  go_wp2_with fail
  clear x
  refine (Z3.out _ hb.out).mono ?_
  rintro e wC ⟨Aq, cq, rfl, oq, h1⟩
  replace hb := hide (bel_next hb.out h1)
  replace bx := hide (bx.out.below h1)
  replace o := hide (o.out.below h1)
  clear h1
  have nilq := hide oq.nilcap
  have rq := hide oq.rd
  clear oq
  go_upto_region 4 with (at_builtin; refine apA elBy_ o.out hb.out hw0'.out rq.out (.tmp 14) (.tmp 17) rfl rfl rfl rfl nilq.out M3.out q3.out r3.out ?_; intro A' c' w' o' hb' hg'; rw [← List.map_append] at o'; replace o' := hide o'; replace hb' := hide hb'; replace hg' := hide hg')
  have bx' := hide (hg'.out.bx bx.out (fun h => by have := (o.out.blk h).1; have := hw0.out; omega))
  clear bx hg' hb o
  have bx := hide bx'.out
  have hb := hide hb'.out
  have o := hide o'.out
  clear bx' hb' o'
  rename World => wA
  clear rq nilq
  have x := bx.out.2.1 3 _ rfl
  go_upto_region 5 with (at_builtin; refine apA elBy_ o.out hb.out hw0'.out (R4.out _ hb.out) (.tmp 19) (.tmp 21) rfl rfl rfl rfl nil4.out M4.out q4.out r4.out ?_; intro A' c' w' o' hb' hg'; rw [← List.map_append] at o'; replace o' := hide o'; replace hb' := hide hb'; replace hg' := hide hg')
  have bx' := hide (hg'.out.bx bx.out (fun h => by have := (o.out.blk h).1; have := hw0.out; omega))
  clear bx hg' hb o
  have bx := hide bx'.out
  have hb := hide hb'.out
  have o := hide o'.out
  clear bx' hb' o'
  rename World => wA
  clear x
  have x := bx.out.2.1 4 _ rfl
  go_wp2_with fail
  clear x
  refine (Z5.out _ hb.out).mono ?_
  rintro e wC ⟨Aq, cq, rfl, oq, h1⟩
  replace hb := hide (bel_next hb.out h1)
  replace bx := hide (bx.out.below h1)
  replace o := hide (o.out.below h1)
  clear h1
  have nilq := hide oq.nilcap
  have rq := hide oq.rd
  clear oq
  go_upto_region 6 with (at_builtin; refine apA elBy_ o.out hb.out hw0'.out rq.out (.tmp 23) (.tmp 27) rfl rfl rfl rfl nilq.out M5.out q5.out r5.out ?_; intro A' c' w' o' hb' hg'; rw [← List.map_append] at o'; replace o' := hide o'; replace hb' := hide hb'; replace hg' := hide hg')
  have bx' := hide (hg'.out.bx bx.out (fun h => by have := (o.out.blk h).1; have := hw0.out; omega))
  clear bx hg' hb o
  have bx := hide bx'.out
  have hb := hide hb'.out
  have o := hide o'.out
  clear bx' hb' o'
  rename World => wA
  clear rq nilq
  have x := bx.out.2.1 5 _ rfl
  go_wp2_with fail
  clear x
  refine (Z6.out _ hb.out).mono ?_
  rintro e wC ⟨Aq, cq, rfl, oq, h1⟩
  replace hb := hide (bel_next hb.out h1)
  replace bx := hide (bx.out.below h1)
  replace o := hide (o.out.below h1)
  clear h1
  have nilq := hide oq.nilcap
  have rq := hide oq.rd
  clear oq
  go_upto_region 7 with (at_builtin; refine apA elBy_ o.out hb.out hw0'.out rq.out (.tmp 29) (.tmp 32) rfl rfl rfl rfl nilq.out M6.out q6.out r6.out ?_; intro A' c' w' o' hb' hg'; rw [← List.map_append] at o'; replace o' := hide o'; replace hb' := hide hb'; replace hg' := hide hg')
  have bx' := hide (hg'.out.bx bx.out (fun h => by have := (o.out.blk h).1; have := hw0.out; omega))
  clear bx hg' hb o
  have bx := hide bx'.out
  have hb := hide hb'.out
  have o := hide o'.out
  clear bx' hb' o'
  rename World => wA
  clear rq nilq
  have x := bx.out.2.1 6 _ rfl
  go_wp2_with fail
  clear x
  refine (Z7.out _ hb.out).mono ?_
  rintro e wC ⟨Aq, cq, rfl, oq, h1⟩
  replace hb := hide (bel_next hb.out h1)
  replace bx := hide (bx.out.below h1)
  replace o := hide (o.out.below h1)
  clear h1
  have nilq := hide oq.nilcap
  have rq := hide oq.rd
  clear oq
  go_wp2_with (at_builtin; refine apA elBy_ o.out hb.out hw0'.out rq.out (.tmp 34) (.tmp 37) rfl rfl rfl rfl nilq.out M7.out q7.out r7.out ?_; intro A' c' w' o' hb' hg'; rw [← List.map_append] at o'; replace o' := hide o'; replace hb' := hide hb'; replace hg' := hide hg')
  have bx' := hide (hg'.out.bx bx.out (fun h => by have := (o.out.blk h).1; have := hw0.out; omega))
  clear bx hg' hb o
  have bx := hide bx'.out
  have hb := hide hb'.out
  have o := hide o'.out
  clear bx' hb' o'
  rename World => wA
  go_ret
  have hf := o.out
  rw [hall.out] at hf
  rw [hm.out]
  exact ⟨_, _, rfl, hf.mono (b' := w.heap.size) hw0'.out, hb.out⟩
end r19_
end Go.Proofs.YtbajdlgcajeldaaGreatDoor
namespace Go.Proofs.YtbajdlgcajeldaaGreatDoor
open Go.ChangeShapes Go.WideShapes Go.ChangeAt Go.RowKit
set_option linter.unusedVariables false
set_option maxRecDepth 100000
/-- a length as a value; a slice as a value. -/
def lv (m : Nat) : Value := .int .u64 (m : Int)
def slv (s : Sl) : Value := .slice s.A s.n s.c
theorem lv_cell {w : World} {g i m : Nat} {M : List Nat} {T : TypeId} (h : Ro w g ((M.map lv).toArray) T) (hm : M[i]? = some m) : w.cell? ⟨g, i, none⟩ = some (.int .u64 (m : Int)) := by
  rw [h.cell, List.getElem?_toArray, List.getElem?_map, hm]
  rfl
theorem sum_le : ∀ (M : List Nat) (i m : Nat), M[i]? = some m → (M.take i).sum + m ≤ M.sum
  | [], i, m, h => by simp at h
  | a :: l, 0, m, h => by simp at h; subst h; simp
  | a :: l, i + 1, m, h => by
    have := sum_le l i m (by simpa using h)
    simp only [List.take_succ_cons, List.sum_cons]
    omega
theorem take_sum {M : List Nat} {i m : Nat} (h : M[i]? = some m) : (M.take (i + 1)).sum = (M.take i).sum + m := by
  rw [List.take_add_one, h]
  simp
/-- rows below a bound stay; rows apart from a slice stay when it grows. -/
theorem ro_low {w w' : World} {g B : Nat} {vs : Array Value} {T : TypeId} (h : Ro w g vs T) (hb : Below B w w') (hg : g < B) : Ro w' g vs T := (hb.block g hg).trans h
theorem ro_gw {w w' : World} {g : Nat} {A A' : Option Addr} {vs : Array Value} {T : TypeId} (h : Ro w g vs T) (hg : Gw w w' A A') (hd : oB A ≠ some g) : Ro w' g vs T := (hg.g.block g h.lt (fun h' => hd h'.symm)).trans h
/-- the parts that have been taken, apart from the slice at A1 that holds them. -/
def PPs (w : World) (B : Nat) (u : TypeId) (xs : List Int) (p : Nat) (M : List Nat) (Ps : List Sl) (A1 : Option Addr) : Prop := ∀ (j : Nat) (s : Sl), Ps[j]? = some s → M[j]? = some s.n ∧ Ow w B u s.A s.n s.c ((fld xs (p + (M.take j).sum) s.n).map (Value.int .u8)) ∧ Dj s.A A1
section
variable {w w' : World} {B : Nat} {u : TypeId} {xs : List Int} {p : Nat} {M : List Nat} {Ps : List Sl} {A A' : Option Addr}
theorem PPs.below (h : PPs w B u xs p M Ps A) (hb : Below w.heap.size w w') : PPs w' B u xs p M Ps A := fun j s hj => by
  obtain ⟨h1, h2, h3⟩ := h j s hj
  exact ⟨h1, h2.below hb, h3⟩
theorem PPs.gw (h : PPs w B u xs p M Ps A) (hg : Gw w w' A A') : PPs w' B u xs p M Ps A' := fun j s hj => by
  obtain ⟨h1, h2, h3⟩ := h j s hj
  exact ⟨h1, hg.ow h2 h3, hg.dj h2 h3⟩
theorem PPs.set (h : PPs w B u xs p M Ps A) {g : Nat} (o : Nat) (hg : g < B) (v : Value) : PPs (w.setCell ⟨g, o, none⟩ v) B u xs p M Ps A := fun j s hj => by
  obtain ⟨h1, h2, h3⟩ := h j s hj
  exact ⟨h1, h2.setLow o hg v, h3⟩
theorem PPs.snoc (h : PPs w B u xs p M Ps A) {s : Sl} (hm : M[Ps.length]? = some s.n) (ho : Ow w B u s.A s.n s.c ((fld xs (p + (M.take Ps.length).sum) s.n).map (Value.int .u8))) (hd : Dj s.A A) : PPs w B u xs p M (Ps ++ [s]) A := fun j t hj => by
  rcases Nat.lt_trichotomy j Ps.length with hl | hl | hl
  · rw [List.getElem?_append_left hl] at hj
    exact h j t hj
  · subst hl
    rw [List.getElem?_concat_length] at hj
    cases hj
    exact ⟨hm, ho, hd⟩
  · rw [List.getElem?_eq_none (by simp; omega)] at hj
    cases hj
end
namespace r19_
theorem sl7 : ∀ l : List Sl, l.length = 7 → ∃ s0 s1 s2 s3 s4 s5 s6, l = [s0, s1, s2, s3, s4, s5, s6]
  | [s0, s1, s2, s3, s4, s5, s6], _ => ⟨s0, s1, s2, s3, s4, s5, s6, rfl⟩
theorem fld_congr {l : List Int} {o o' n n' : Nat} (h : o = o') (hn : n = n') : fld l o n = fld l o' n' := by rw [h, hn]
theorem U16 (A : Option Addr) (n c m : Nat) (l : List Int) (w : World) (hn : n ≤ 100000) (hm : n = m * 6) (hA : A = none → n = 0 ∧ c = 0) (hc : n ≤ c) (hcm : c ≤ 9223372036854775807) (hr : Rd w A n (l.map (Value.int .u8))) (hl : Bytes l) :
    Calls Tryz.prog 30 #[.slice A n c] w fun e w' => ∃ F A' n' c', F = fl6 l m ∧ e = .returned (.tuple #[.slice A' n' c', .bool F]) ∧ (F = true → n' = m ∧ Ok 3 w' w.heap.size 49 A' n' c' (tcs (dTT l m))) ∧ Below w.heap.size w w' := by
  refine (r16_.Decode A n c m l w hn hm hA hc hcm hr hl).mono ?_
  rintro e w' ⟨⟨hf, A', c', rfl, h⟩ | ⟨hf, rfl⟩, hb⟩
  · exact ⟨true, A', m, c', hf.symm, rfl, fun _ => ⟨rfl, h⟩, hb⟩
  · exact ⟨false, none, 0, 0, hf.symm, rfl, fun h => (by cases h), hb⟩
theorem U18 (A : Option Addr) (n c : Nat) (l : List Int) (w : World) (hn : n ≤ 100000) (hr : Rd w A n (l.map (Value.int .u8))) (hl0 : ∀ x ∈ l, 0 ≤ x ∧ x < 256) :
    Calls Tryz.prog 32 #[.slice A n c] w fun e w' => ∃ F A' n' c', F = fI l ∧ e = .returned (.tuple #[.slice A' n' c', .bool F]) ∧ (F = true → n' = n ∧ Ow w' w.heap.size 4 A' n' c' (bls (dI l))) ∧ Below w.heap.size w w' := by
  refine (r18_.Decode A n c l w hn hr hl0).mono ?_
  rintro e w' ⟨⟨hf, A', c', rfl, h⟩ | ⟨hf, rfl⟩, hb⟩
  · exact ⟨true, A', n, c', hf.symm, rfl, fun _ => ⟨rfl, h⟩, hb⟩
  · exact ⟨false, none, 0, 0, hf.symm, rfl, fun h => (by cases h), hb⟩
theorem elSB_ : ElT Tryz.prog 64 22 (.slice none 0 0) 24 := ⟨Tryz.underlying64, by kernel_rfl, rfl⟩
set_option maxHeartbeats 8000000 in
theorem Decode_err (A : Option Addr) (n c : Nat) (p e a0 v a b c' d x y K at_ : Int) (w : World) (he : e ≠ 0) :
    Calls Tryz.prog 9 #[cu A n c p e a0, hdV v a b c' d x y, .int .i64 K, .int .i64 at_] w fun z w' => z = .returned (.tuple #[bkV BkS.zero, cu A n c p e a0]) ∧ Below w.heap.size w w' := by
  have he' : (e != 0) = true := by simpa using he
  have hb := hide ((((((Below.refl w.heap.size w).alloc (Nat.le_refl _) (.cells #[.slice A n c, .int .i64 p, .int .i64 e, .int .i64 a0] 25)).alloc (by simp) (.cells #[.int .i64 v, .int .u32 a, .int .u32 b, .int .u32 c', .int .u32 d, .int .u32 x, .int .u32 y] 28)).alloc (by simp; omega) (.cells #[.slice none 0 0, .slice none 0 0, .slice none 0 0, .slice none 0 0, .slice none 0 0, .slice none 0 0, .slice none 0 0] 34)).alloc (by simp; omega) (.cells #[.slice none 0 0, .int .i64 0, .int .i64 0, .int .i64 0] 25)).alloc (by simp; omega) (.cells #[.slice none 0 0, .slice none 0 0, .slice none 0 0, .slice none 0 0, .slice none 0 0, .slice none 0 0, .slice none 0 0] 34))
  have h4 : Ro (w.alloc (.cells #[.slice A n c, .int .i64 p, .int .i64 e, .int .i64 a0] 25)) (w.heap.size) #[.slice A n c, .int .i64 p, .int .i64 e, .int .i64 a0] 25 := by have := Ro.new w #[.slice A n c, .int .i64 p, .int .i64 e, .int .i64 a0] 25; simpa [Nat.add_assoc] using this
  replace h4 := h4.alloc (.cells #[.int .i64 v, .int .u32 a, .int .u32 b, .int .u32 c', .int .u32 d, .int .u32 x, .int .u32 y] 28)
  replace h4 := h4.alloc (.cells #[.slice none 0 0, .slice none 0 0, .slice none 0 0, .slice none 0 0, .slice none 0 0, .slice none 0 0, .slice none 0 0] 34)
  replace h4 := h4.alloc (.cells #[.slice none 0 0, .int .i64 0, .int .i64 0, .int .i64 0] 25)
  replace h4 := h4.alloc (.cells #[.slice none 0 0, .slice none 0 0, .slice none 0 0, .slice none 0 0, .slice none 0 0, .slice none 0 0, .slice none 0 0] 34)
  replace h4 := hide h4
  have h5 : Ro ((w.alloc (.cells #[.slice A n c, .int .i64 p, .int .i64 e, .int .i64 a0] 25)).alloc (.cells #[.int .i64 v, .int .u32 a, .int .u32 b, .int .u32 c', .int .u32 d, .int .u32 x, .int .u32 y] 28)) (w.heap.size + 1) #[.int .i64 v, .int .u32 a, .int .u32 b, .int .u32 c', .int .u32 d, .int .u32 x, .int .u32 y] 28 := by have := Ro.new (w.alloc (.cells #[.slice A n c, .int .i64 p, .int .i64 e, .int .i64 a0] 25)) #[.int .i64 v, .int .u32 a, .int .u32 b, .int .u32 c', .int .u32 d, .int .u32 x, .int .u32 y] 28; simpa [Nat.add_assoc] using this
  replace h5 := h5.alloc (.cells #[.slice none 0 0, .slice none 0 0, .slice none 0 0, .slice none 0 0, .slice none 0 0, .slice none 0 0, .slice none 0 0] 34)
  replace h5 := h5.alloc (.cells #[.slice none 0 0, .int .i64 0, .int .i64 0, .int .i64 0] 25)
  replace h5 := h5.alloc (.cells #[.slice none 0 0, .slice none 0 0, .slice none 0 0, .slice none 0 0, .slice none 0 0, .slice none 0 0, .slice none 0 0] 34)
  replace h5 := hide h5
  have h8 : Ro (((w.alloc (.cells #[.slice A n c, .int .i64 p, .int .i64 e, .int .i64 a0] 25)).alloc (.cells #[.int .i64 v, .int .u32 a, .int .u32 b, .int .u32 c', .int .u32 d, .int .u32 x, .int .u32 y] 28)).alloc (.cells #[.slice none 0 0, .slice none 0 0, .slice none 0 0, .slice none 0 0, .slice none 0 0, .slice none 0 0, .slice none 0 0] 34)) (w.heap.size + 1 + 1) #[.slice none 0 0, .slice none 0 0, .slice none 0 0, .slice none 0 0, .slice none 0 0, .slice none 0 0, .slice none 0 0] 34 := by have := Ro.new ((w.alloc (.cells #[.slice A n c, .int .i64 p, .int .i64 e, .int .i64 a0] 25)).alloc (.cells #[.int .i64 v, .int .u32 a, .int .u32 b, .int .u32 c', .int .u32 d, .int .u32 x, .int .u32 y] 28)) #[.slice none 0 0, .slice none 0 0, .slice none 0 0, .slice none 0 0, .slice none 0 0, .slice none 0 0, .slice none 0 0] 34; simpa [Nat.add_assoc] using this
  replace h8 := h8.alloc (.cells #[.slice none 0 0, .int .i64 0, .int .i64 0, .int .i64 0] 25)
  replace h8 := h8.alloc (.cells #[.slice none 0 0, .slice none 0 0, .slice none 0 0, .slice none 0 0, .slice none 0 0, .slice none 0 0, .slice none 0 0] 34)
  replace h8 := hide h8
  have h9 : Ro ((((w.alloc (.cells #[.slice A n c, .int .i64 p, .int .i64 e, .int .i64 a0] 25)).alloc (.cells #[.int .i64 v, .int .u32 a, .int .u32 b, .int .u32 c', .int .u32 d, .int .u32 x, .int .u32 y] 28)).alloc (.cells #[.slice none 0 0, .slice none 0 0, .slice none 0 0, .slice none 0 0, .slice none 0 0, .slice none 0 0, .slice none 0 0] 34)).alloc (.cells #[.slice none 0 0, .int .i64 0, .int .i64 0, .int .i64 0] 25)) (w.heap.size + 1 + 1 + 1) #[.slice none 0 0, .int .i64 0, .int .i64 0, .int .i64 0] 25 := by have := Ro.new (((w.alloc (.cells #[.slice A n c, .int .i64 p, .int .i64 e, .int .i64 a0] 25)).alloc (.cells #[.int .i64 v, .int .u32 a, .int .u32 b, .int .u32 c', .int .u32 d, .int .u32 x, .int .u32 y] 28)).alloc (.cells #[.slice none 0 0, .slice none 0 0, .slice none 0 0, .slice none 0 0, .slice none 0 0, .slice none 0 0, .slice none 0 0] 34)) #[.slice none 0 0, .int .i64 0, .int .i64 0, .int .i64 0] 25; simpa [Nat.add_assoc] using this
  replace h9 := h9.alloc (.cells #[.slice none 0 0, .slice none 0 0, .slice none 0 0, .slice none 0 0, .slice none 0 0, .slice none 0 0, .slice none 0 0] 34)
  replace h9 := hide h9
  have h10 : Ro (((((w.alloc (.cells #[.slice A n c, .int .i64 p, .int .i64 e, .int .i64 a0] 25)).alloc (.cells #[.int .i64 v, .int .u32 a, .int .u32 b, .int .u32 c', .int .u32 d, .int .u32 x, .int .u32 y] 28)).alloc (.cells #[.slice none 0 0, .slice none 0 0, .slice none 0 0, .slice none 0 0, .slice none 0 0, .slice none 0 0, .slice none 0 0] 34)).alloc (.cells #[.slice none 0 0, .int .i64 0, .int .i64 0, .int .i64 0] 25)).alloc (.cells #[.slice none 0 0, .slice none 0 0, .slice none 0 0, .slice none 0 0, .slice none 0 0, .slice none 0 0, .slice none 0 0] 34)) (w.heap.size + 1 + 1 + 1 + 1) #[.slice none 0 0, .slice none 0 0, .slice none 0 0, .slice none 0 0, .slice none 0 0, .slice none 0 0, .slice none 0 0] 34 := by have := Ro.new ((((w.alloc (.cells #[.slice A n c, .int .i64 p, .int .i64 e, .int .i64 a0] 25)).alloc (.cells #[.int .i64 v, .int .u32 a, .int .u32 b, .int .u32 c', .int .u32 d, .int .u32 x, .int .u32 y] 28)).alloc (.cells #[.slice none 0 0, .slice none 0 0, .slice none 0 0, .slice none 0 0, .slice none 0 0, .slice none 0 0, .slice none 0 0] 34)).alloc (.cells #[.slice none 0 0, .int .i64 0, .int .i64 0, .int .i64 0] 25)) #[.slice none 0 0, .slice none 0 0, .slice none 0 0, .slice none 0 0, .slice none 0 0, .slice none 0 0, .slice none 0 0] 34; simpa [Nat.add_assoc] using this
  replace h10 := hide h10
  go_enter Tryz.func9, Tryz.ntmps9
  go_upto_region 2 with fail
  generalize (((((w.alloc (.cells #[.slice A n c, .int .i64 p, .int .i64 e, .int .i64 a0] 25)).alloc (.cells #[.int .i64 v, .int .u32 a, .int .u32 b, .int .u32 c', .int .u32 d, .int .u32 x, .int .u32 y] 28)).alloc (.cells #[.slice none 0 0, .slice none 0 0, .slice none 0 0, .slice none 0 0, .slice none 0 0, .slice none 0 0, .slice none 0 0] 34)).alloc (.cells #[.slice none 0 0, .int .i64 0, .int .i64 0, .int .i64 0] 25)).alloc (.cells #[.slice none 0 0, .slice none 0 0, .slice none 0 0, .slice none 0 0, .slice none 0 0, .slice none 0 0, .slice none 0 0] 34)) = u at *
  obtain ⟨x0, _⟩ := ro_cf h4.out 0 (.slice A n c) rfl
  obtain ⟨x1, _⟩ := ro_cf h4.out 1 (.int .i64 p) rfl
  obtain ⟨x2, _⟩ := ro_cf h4.out 2 (.int .i64 e) rfl
  obtain ⟨x3, _⟩ := ro_cf h4.out 3 (.int .i64 a0) rfl
  obtain ⟨z0, _⟩ := ro_cf h10.out 0 (.slice none 0 0) rfl
  obtain ⟨r0, s0⟩ := ro_cf h8.out 0 (.slice none 0 0) rfl
  obtain ⟨z1, _⟩ := ro_cf h10.out 1 (.slice none 0 0) rfl
  obtain ⟨r1, s1⟩ := ro_cf h8.out 1 (.slice none 0 0) rfl
  obtain ⟨z2, _⟩ := ro_cf h10.out 2 (.slice none 0 0) rfl
  obtain ⟨r2, s2⟩ := ro_cf h8.out 2 (.slice none 0 0) rfl
  obtain ⟨z3, _⟩ := ro_cf h10.out 3 (.slice none 0 0) rfl
  obtain ⟨r3, s3⟩ := ro_cf h8.out 3 (.slice none 0 0) rfl
  obtain ⟨z4, _⟩ := ro_cf h10.out 4 (.slice none 0 0) rfl
  obtain ⟨r4, s4⟩ := ro_cf h8.out 4 (.slice none 0 0) rfl
  obtain ⟨z5, _⟩ := ro_cf h10.out 5 (.slice none 0 0) rfl
  obtain ⟨r5, s5⟩ := ro_cf h8.out 5 (.slice none 0 0) rfl
  obtain ⟨z6, _⟩ := ro_cf h10.out 6 (.slice none 0 0) rfl
  obtain ⟨r6, s6⟩ := ro_cf h8.out 6 (.slice none 0 0) rfl
  obtain ⟨q0, t0⟩ := ro_cf h9.out 0 (.slice none 0 0) rfl
  obtain ⟨q1, t1⟩ := ro_cf h9.out 1 (.int .i64 0) rfl
  obtain ⟨q2, t2⟩ := ro_cf h9.out 2 (.int .i64 0) rfl
  obtain ⟨q3, t3⟩ := ro_cf h9.out 3 (.int .i64 0) rfl
  go_upto_region 3 with fail
  go_region
  have k8 := ((ro_away4 (g' := w.heap.size + 1 + 1 + 1) (x0 := .slice A n c) (x1 := .int .i64 p) (x2 := .int .i64 e) (x3 := .int .i64 a0) (ro_set7' (x0 := .slice none 0 0) (x1 := .slice none 0 0) (x2 := .slice none 0 0) (x3 := .slice none 0 0) (x4 := .slice none 0 0) (x5 := .slice none 0 0) (x6 := .slice none 0 0) h8.out) (by omega))).drew
  have k9 := ((ro_set4' (x0 := .slice A n c) (x1 := .int .i64 p) (x2 := .int .i64 e) (x3 := .int .i64 a0) (ro_away7 (g' := w.heap.size + 1 + 1) (x0 := .slice none 0 0) (x1 := .slice none 0 0) (x2 := .slice none 0 0) (x3 := .slice none 0 0) (x4 := .slice none 0 0) (x5 := .slice none 0 0) (x6 := .slice none 0 0) h9.out (by omega)))).drew
  have kb := bl_drew (bl_setx4 (g := w.heap.size + 1 + 1 + 1) (x0 := .slice A n c) (x1 := .int .i64 p) (x2 := .int .i64 e) (x3 := .int .i64 a0) (bl_setx7 (g := w.heap.size + 1 + 1) (x0 := .slice none 0 0) (x1 := .slice none 0 0) (x2 := .slice none 0 0) (x3 := .slice none 0 0) (x4 := .slice none 0 0) (x5 := .slice none 0 0) (x6 := .slice none 0 0) hb.out (by omega)) (by omega))
  clear z0 r0 s0 z1 r1 s1 z2 r2 s2 z3 r3 s3 z4 r4 s4 z5 r5 s5 z6 r6 s6 q0 t0 x0 q1 t1 x1 q2 t2 x2 q3 t3 x3
  obtain ⟨r0, _⟩ := ro_cf k8 0 (.slice none 0 0) rfl
  obtain ⟨r1, _⟩ := ro_cf k8 1 (.slice none 0 0) rfl
  obtain ⟨r2, _⟩ := ro_cf k8 2 (.slice none 0 0) rfl
  obtain ⟨r3, _⟩ := ro_cf k8 3 (.slice none 0 0) rfl
  obtain ⟨r4, _⟩ := ro_cf k8 4 (.slice none 0 0) rfl
  obtain ⟨r5, _⟩ := ro_cf k8 5 (.slice none 0 0) rfl
  obtain ⟨r6, _⟩ := ro_cf k8 6 (.slice none 0 0) rfl
  obtain ⟨q0, _⟩ := ro_cf k9 0 (.slice A n c) rfl
  obtain ⟨q1, _⟩ := ro_cf k9 1 (.int .i64 p) rfl
  obtain ⟨q2, _⟩ := ro_cf k9 2 (.int .i64 e) rfl
  obtain ⟨q3, _⟩ := ro_cf k9 3 (.int .i64 a0) rfl
  go_wp2
  exact bodyPost_ret (v := .tuple #[bkV BkS.zero, cu A n c p e a0]) (by simp [results, Tryz.results9, go_sem, BkS.zero, r0, r1, r2, r3, r4, r5, r6, q0, q1, q2, q3]) rfl ⟨rfl, kb⟩
set_option maxHeartbeats 8000000 in
theorem Decode_trunc (A : Option Addr) (n c p : Nat) (v a b c' d x y K at_ : Int) (w : World) (hL : LyC a b c' d x y K) (hn : n ≤ 1000000) (hp : p ≤ n) (ht : (n : Int) - (p : Int) < totV a b c' d x y K) :
    Calls Tryz.prog 9 #[cu A n c p 0 0, hdV v a b c' d x y, .int .i64 K, .int .i64 at_] w fun z w' => z = .returned (.tuple #[bkV BkS.zero, cu A n c p 1 n]) ∧ Below w.heap.size w w' := by
  have Sm := hide (fun w => r14_.Sum v a b c' d x y K w hL)
  generalize totV a b c' d x y K = tt at *
  have Fl := hide (fun w => r2_.Fail_ok A n c p 0 1 n w (by decide))
  have d1 : IntKind.i64.wrap ((n : Int) - (p : Int)) = (n : Int) - (p : Int) := by rw [IntKind.wrap_i64]; omega
  have d2 : IntKind.u64.wrap ((n : Int) - (p : Int)) = (n : Int) - (p : Int) := by rw [IntKind.wrap_u64]; omega
  have d3 : decide ((n : Int) - (p : Int) < tt) = true := decide_eq_true ht
  clear hL
  have hb := hide ((((((Below.refl w.heap.size w).alloc (Nat.le_refl _) (.cells #[.slice A n c, .int .i64 p, .int .i64 0, .int .i64 0] 25)).alloc (by simp) (.cells #[.int .i64 v, .int .u32 a, .int .u32 b, .int .u32 c', .int .u32 d, .int .u32 x, .int .u32 y] 28)).alloc (by simp; omega) (.cells #[.slice none 0 0, .slice none 0 0, .slice none 0 0, .slice none 0 0, .slice none 0 0, .slice none 0 0, .slice none 0 0] 34)).alloc (by simp; omega) (.cells #[.slice none 0 0, .int .i64 0, .int .i64 0, .int .i64 0] 25)).alloc (by simp; omega) (.cells #[.slice none 0 0, .slice none 0 0, .slice none 0 0, .slice none 0 0, .slice none 0 0, .slice none 0 0, .slice none 0 0] 34))
  have h4 : Ro (w.alloc (.cells #[.slice A n c, .int .i64 p, .int .i64 0, .int .i64 0] 25)) (w.heap.size) #[.slice A n c, .int .i64 p, .int .i64 0, .int .i64 0] 25 := by have := Ro.new w #[.slice A n c, .int .i64 p, .int .i64 0, .int .i64 0] 25; simpa [Nat.add_assoc] using this
  replace h4 := h4.alloc (.cells #[.int .i64 v, .int .u32 a, .int .u32 b, .int .u32 c', .int .u32 d, .int .u32 x, .int .u32 y] 28)
  replace h4 := h4.alloc (.cells #[.slice none 0 0, .slice none 0 0, .slice none 0 0, .slice none 0 0, .slice none 0 0, .slice none 0 0, .slice none 0 0] 34)
  replace h4 := h4.alloc (.cells #[.slice none 0 0, .int .i64 0, .int .i64 0, .int .i64 0] 25)
  replace h4 := h4.alloc (.cells #[.slice none 0 0, .slice none 0 0, .slice none 0 0, .slice none 0 0, .slice none 0 0, .slice none 0 0, .slice none 0 0] 34)
  replace h4 := hide h4
  have h5 : Ro ((w.alloc (.cells #[.slice A n c, .int .i64 p, .int .i64 0, .int .i64 0] 25)).alloc (.cells #[.int .i64 v, .int .u32 a, .int .u32 b, .int .u32 c', .int .u32 d, .int .u32 x, .int .u32 y] 28)) (w.heap.size + 1) #[.int .i64 v, .int .u32 a, .int .u32 b, .int .u32 c', .int .u32 d, .int .u32 x, .int .u32 y] 28 := by have := Ro.new (w.alloc (.cells #[.slice A n c, .int .i64 p, .int .i64 0, .int .i64 0] 25)) #[.int .i64 v, .int .u32 a, .int .u32 b, .int .u32 c', .int .u32 d, .int .u32 x, .int .u32 y] 28; simpa [Nat.add_assoc] using this
  replace h5 := h5.alloc (.cells #[.slice none 0 0, .slice none 0 0, .slice none 0 0, .slice none 0 0, .slice none 0 0, .slice none 0 0, .slice none 0 0] 34)
  replace h5 := h5.alloc (.cells #[.slice none 0 0, .int .i64 0, .int .i64 0, .int .i64 0] 25)
  replace h5 := h5.alloc (.cells #[.slice none 0 0, .slice none 0 0, .slice none 0 0, .slice none 0 0, .slice none 0 0, .slice none 0 0, .slice none 0 0] 34)
  replace h5 := hide h5
  have h8 : Ro (((w.alloc (.cells #[.slice A n c, .int .i64 p, .int .i64 0, .int .i64 0] 25)).alloc (.cells #[.int .i64 v, .int .u32 a, .int .u32 b, .int .u32 c', .int .u32 d, .int .u32 x, .int .u32 y] 28)).alloc (.cells #[.slice none 0 0, .slice none 0 0, .slice none 0 0, .slice none 0 0, .slice none 0 0, .slice none 0 0, .slice none 0 0] 34)) (w.heap.size + 1 + 1) #[.slice none 0 0, .slice none 0 0, .slice none 0 0, .slice none 0 0, .slice none 0 0, .slice none 0 0, .slice none 0 0] 34 := by have := Ro.new ((w.alloc (.cells #[.slice A n c, .int .i64 p, .int .i64 0, .int .i64 0] 25)).alloc (.cells #[.int .i64 v, .int .u32 a, .int .u32 b, .int .u32 c', .int .u32 d, .int .u32 x, .int .u32 y] 28)) #[.slice none 0 0, .slice none 0 0, .slice none 0 0, .slice none 0 0, .slice none 0 0, .slice none 0 0, .slice none 0 0] 34; simpa [Nat.add_assoc] using this
  replace h8 := h8.alloc (.cells #[.slice none 0 0, .int .i64 0, .int .i64 0, .int .i64 0] 25)
  replace h8 := h8.alloc (.cells #[.slice none 0 0, .slice none 0 0, .slice none 0 0, .slice none 0 0, .slice none 0 0, .slice none 0 0, .slice none 0 0] 34)
  replace h8 := hide h8
  have h9 : Ro ((((w.alloc (.cells #[.slice A n c, .int .i64 p, .int .i64 0, .int .i64 0] 25)).alloc (.cells #[.int .i64 v, .int .u32 a, .int .u32 b, .int .u32 c', .int .u32 d, .int .u32 x, .int .u32 y] 28)).alloc (.cells #[.slice none 0 0, .slice none 0 0, .slice none 0 0, .slice none 0 0, .slice none 0 0, .slice none 0 0, .slice none 0 0] 34)).alloc (.cells #[.slice none 0 0, .int .i64 0, .int .i64 0, .int .i64 0] 25)) (w.heap.size + 1 + 1 + 1) #[.slice none 0 0, .int .i64 0, .int .i64 0, .int .i64 0] 25 := by have := Ro.new (((w.alloc (.cells #[.slice A n c, .int .i64 p, .int .i64 0, .int .i64 0] 25)).alloc (.cells #[.int .i64 v, .int .u32 a, .int .u32 b, .int .u32 c', .int .u32 d, .int .u32 x, .int .u32 y] 28)).alloc (.cells #[.slice none 0 0, .slice none 0 0, .slice none 0 0, .slice none 0 0, .slice none 0 0, .slice none 0 0, .slice none 0 0] 34)) #[.slice none 0 0, .int .i64 0, .int .i64 0, .int .i64 0] 25; simpa [Nat.add_assoc] using this
  replace h9 := h9.alloc (.cells #[.slice none 0 0, .slice none 0 0, .slice none 0 0, .slice none 0 0, .slice none 0 0, .slice none 0 0, .slice none 0 0] 34)
  replace h9 := hide h9
  have h10 : Ro (((((w.alloc (.cells #[.slice A n c, .int .i64 p, .int .i64 0, .int .i64 0] 25)).alloc (.cells #[.int .i64 v, .int .u32 a, .int .u32 b, .int .u32 c', .int .u32 d, .int .u32 x, .int .u32 y] 28)).alloc (.cells #[.slice none 0 0, .slice none 0 0, .slice none 0 0, .slice none 0 0, .slice none 0 0, .slice none 0 0, .slice none 0 0] 34)).alloc (.cells #[.slice none 0 0, .int .i64 0, .int .i64 0, .int .i64 0] 25)).alloc (.cells #[.slice none 0 0, .slice none 0 0, .slice none 0 0, .slice none 0 0, .slice none 0 0, .slice none 0 0, .slice none 0 0] 34)) (w.heap.size + 1 + 1 + 1 + 1) #[.slice none 0 0, .slice none 0 0, .slice none 0 0, .slice none 0 0, .slice none 0 0, .slice none 0 0, .slice none 0 0] 34 := by have := Ro.new ((((w.alloc (.cells #[.slice A n c, .int .i64 p, .int .i64 0, .int .i64 0] 25)).alloc (.cells #[.int .i64 v, .int .u32 a, .int .u32 b, .int .u32 c', .int .u32 d, .int .u32 x, .int .u32 y] 28)).alloc (.cells #[.slice none 0 0, .slice none 0 0, .slice none 0 0, .slice none 0 0, .slice none 0 0, .slice none 0 0, .slice none 0 0] 34)).alloc (.cells #[.slice none 0 0, .int .i64 0, .int .i64 0, .int .i64 0] 25)) #[.slice none 0 0, .slice none 0 0, .slice none 0 0, .slice none 0 0, .slice none 0 0, .slice none 0 0, .slice none 0 0] 34; simpa [Nat.add_assoc] using this
  replace h10 := hide h10
  go_enter Tryz.func9, Tryz.ntmps9
  go_upto_region 2 with fail
  generalize (((((w.alloc (.cells #[.slice A n c, .int .i64 p, .int .i64 0, .int .i64 0] 25)).alloc (.cells #[.int .i64 v, .int .u32 a, .int .u32 b, .int .u32 c', .int .u32 d, .int .u32 x, .int .u32 y] 28)).alloc (.cells #[.slice none 0 0, .slice none 0 0, .slice none 0 0, .slice none 0 0, .slice none 0 0, .slice none 0 0, .slice none 0 0] 34)).alloc (.cells #[.slice none 0 0, .int .i64 0, .int .i64 0, .int .i64 0] 25)).alloc (.cells #[.slice none 0 0, .slice none 0 0, .slice none 0 0, .slice none 0 0, .slice none 0 0, .slice none 0 0, .slice none 0 0] 34)) = u at *
  obtain ⟨x2, _⟩ := ro_cf h4.out 2 (.int .i64 0) rfl
  go_upto_region 4 with fail
  clear x2
  refine wp_region_held_drew (S := fun w' => Hid (Ro w' (w.heap.size) (#[.slice A n c, .int .i64 p, .int .i64 0, .int .i64 0]) 25) ∧ Hid (Ro w' (w.heap.size + 1) (#[.int .i64 v, .int .u32 a, .int .u32 b, .int .u32 c', .int .u32 d, .int .u32 x, .int .u32 y]) 28) ∧ Hid (Ro w' (w.heap.size + 1 + 1) (#[.slice none 0 0, .slice none 0 0, .slice none 0 0, .slice none 0 0, .slice none 0 0, .slice none 0 0, .slice none 0 0]) 34) ∧ Hid (Ro w' (w.heap.size + 1 + 1 + 1) (#[.slice none 0 0, .int .i64 0, .int .i64 0, .int .i64 0]) 25) ∧ Hid (Ro w' (w.heap.size + 1 + 1 + 1 + 1) (#[.slice none 0 0, .slice none 0 0, .slice none 0 0, .slice none 0 0, .slice none 0 0, .slice none 0 0, .slice none 0 0]) 34) ∧ Hid (Below w.heap.size w w')) (by kernel_rfl) (⟨hide h4.out.drew, hide h5.out.drew, hide h8.out.drew, hide h9.out.drew, hide h10.out.drew, hide (bl_drew hb.out)⟩) (fun hHeld => ?_)
  generalize u.drew = u0 at *
  refine wpAnyH_takeD (i := 0) (d := (some 25)) rfl rfl (by kernel_rfl) (by kernel_rfl) (by kernel_rfl) (fun _ _ _ h => h) (yieldsIf_load_row (by rfl) 28 _ rfl (w.heap.size + 1) rfl 28 #[.int .i64 v, .int .u32 a, .int .u32 b, .int .u32 c', .int .u32 d, .int .u32 x, .int .u32 y] _ (fun w hw => hw.2.1.out) Tryz.underlying28 rfl (by kernel_rfl)) (by assumption) ?_
  try simp only [Act.put, List.setIfInBounds_toArray, List.set_cons_zero, List.set_cons_succ]
  refine wpAnyH_takeD (i := 1) (d := (some 26)) (v := ?_) rfl rfl (by kernel_rfl) (by kernel_rfl) (by kernel_rfl) (fun _ _ _ h => h) (Or.inl ⟨by rfl, ?_⟩) (by assumption) ?_
  rotate_left
  · ((intro w hSw; go_simp) <;> with_reducible rfl)
  try simp only [Act.put, List.setIfInBounds_toArray, List.set_cons_zero, List.set_cons_succ]
  refine wpAnyH_takeD (i := 3) (d := (some 28)) (v := ?_) rfl rfl (by kernel_rfl) (by kernel_rfl) (by kernel_rfl) (fun _ _ _ h => h) (Or.inl ⟨by rfl, ?_⟩) (by assumption) ?_
  rotate_left
  · ((intro w hSw; go_simp) <;> with_reducible rfl)
  try simp only [Act.put, List.setIfInBounds_toArray, List.set_cons_zero, List.set_cons_succ]
  refine wpAnyH_takeD (i := 4) (d := (some 29)) (v := ?_) rfl rfl (by kernel_rfl) (by kernel_rfl) (by kernel_rfl) (fun _ _ _ h => h) (Or.inl ⟨by rfl, ?_⟩) (by assumption) ?_
  rotate_left
  · ((intro w hSw; obtain ⟨c0, _⟩ := ro_cf hSw.1.out 0 (.slice A n c) rfl; go_simp) <;> with_reducible rfl)
  try simp only [Act.put, List.setIfInBounds_toArray, List.set_cons_zero, List.set_cons_succ]
  refine wpAnyH_takeD (i := 5) (d := (some 30)) (v := ?_) rfl rfl (by kernel_rfl) (by kernel_rfl) (by kernel_rfl) (fun _ _ _ h => h) (Or.inl ⟨by rfl, ?_⟩) (by assumption) ?_
  rotate_left
  · ((intro w hSw; go_simp) <;> with_reducible rfl)
  try simp only [Act.put, List.setIfInBounds_toArray, List.set_cons_zero, List.set_cons_succ]
  refine wpAnyH_takeD (i := 6) (d := (some 31)) (v := ?_) rfl rfl (by kernel_rfl) (by kernel_rfl) (by kernel_rfl) (fun _ _ _ h => h) (Or.inl ⟨by rfl, ?_⟩) (by assumption) ?_
  rotate_left
  · ((intro w hSw; go_simp) <;> with_reducible rfl)
  try simp only [Act.put, List.setIfInBounds_toArray, List.set_cons_zero, List.set_cons_succ]
  refine wpAnyH_takeD (i := 7) (d := (some 32)) (v := ?_) rfl rfl (by kernel_rfl) (by kernel_rfl) (by kernel_rfl) (fun _ _ _ h => h) (Or.inl ⟨by rfl, ?_⟩) (by assumption) ?_
  rotate_left
  · ((intro w hSw; obtain ⟨c0, _⟩ := ro_cf hSw.1.out 1 (.int .i64 (p : Int)) rfl; go_simp) <;> with_reducible rfl)
  try simp only [Act.put, List.setIfInBounds_toArray, List.set_cons_zero, List.set_cons_succ]
  refine wpAnyH_takeD (i := 8) (d := (some 33)) (v := ?_) rfl rfl (by kernel_rfl) (by kernel_rfl) (by kernel_rfl) (fun _ _ _ h => h) (Or.inl ⟨by rfl, ?_⟩) (by assumption) ?_
  rotate_left
  · ((intro w hSw; go_simp) <;> with_reducible rfl)
  try simp only [Act.put, List.setIfInBounds_toArray, List.set_cons_zero, List.set_cons_succ]
  refine wpAnyH_takeD (i := 9) (d := (some 34)) (v := ?_) rfl rfl (by kernel_rfl) (by kernel_rfl) (by kernel_rfl) (fun _ _ _ h => h) (Or.inl ⟨by rfl, ?_⟩) (by assumption) ?_
  rotate_left
  · ((intro w hSw; go_simp) <;> with_reducible rfl)
  try simp only [Act.put, List.setIfInBounds_toArray, List.set_cons_zero, List.set_cons_succ]
  refine wpAnyH_ready (rs := [2]) (by kernel_rfl) (by simp) ?_
  refine AllReadyH.cons rfl (fun K hK => ?_) (AllReadyH.nil)
  · go_simp
    refine (Sm.out _).mono ?_
    rintro e v1 ⟨rfl, h1'⟩
    refine hK.out _ _ (⟨hide (hHeld.1.out.below h1'), hide (hHeld.2.1.out.below h1'), hide (hHeld.2.2.1.out.below h1'), hide (hHeld.2.2.2.1.out.below h1'), hide (hHeld.2.2.2.2.1.out.below h1'), hide (bel_next hHeld.2.2.2.2.2.out h1')⟩) (fun hHeld => ?_)
    clear hK K h1'
    try simp only [Act.put, List.setIfInBounds_toArray, List.set_cons_zero, List.set_cons_succ]
    refine wpAnyH_takeD (i := 10) (d := (some 35)) (v := ?_) rfl rfl (by kernel_rfl) (by kernel_rfl) (by kernel_rfl) (fun _ _ _ h => h) (Or.inl ⟨by rfl, ?_⟩) (by assumption) ?_
    rotate_left
    · ((intro w hSw; go_simp) <;> with_reducible rfl)
    try simp only [Act.put, List.setIfInBounds_toArray, List.set_cons_zero, List.set_cons_succ]
    refine wpAnyH_done (by kernel_rfl) ?_ _
    have k4 := hHeld.1
    have k5 := hHeld.2.1
    have k8 := hHeld.2.2.1
    have k9 := hHeld.2.2.2.1
    have k10 := hHeld.2.2.2.2.1
    have kb := hHeld.2.2.2.2.2
    clear hHeld
    go_upto_region 5 with fail
    have hz_r := hide k8.out.drew
    have hz_q := hide k9.out.drew
    refine wp_region_held_drew (S := fun w' => Hid (Ro w' (w.heap.size) (#[.slice A n c, .int .i64 p, .int .i64 0, .int .i64 0]) 25) ∧ Hid (Ro w' (w.heap.size + 1 + 1 + 1 + 1) (#[.slice none 0 0, .slice none 0 0, .slice none 0 0, .slice none 0 0, .slice none 0 0, .slice none 0 0, .slice none 0 0]) 34) ∧ Hid (Below w.heap.size w w')) (by kernel_rfl) (⟨hide k4.out.drew, hide k10.out.drew, hide (bl_drew kb.out)⟩) (fun hHeld => ?_)
    generalize v1.drew = u0 at *
    refine wpAnyH_takeD (i := 0) (d := (some 36)) rfl rfl (by kernel_rfl) (by kernel_rfl) (by kernel_rfl) (fun _ _ _ h => h) (yieldsIf_load_row (by rfl) 34 _ rfl (w.heap.size + 1 + 1 + 1 + 1) rfl 34 #[.slice none 0 0, .slice none 0 0, .slice none 0 0, .slice none 0 0, .slice none 0 0, .slice none 0 0, .slice none 0 0] _ (fun w hw => hw.2.1.out) Tryz.underlying34 rfl (by kernel_rfl)) (by assumption) ?_
    try simp only [Act.put, List.setIfInBounds_toArray, List.set_cons_zero, List.set_cons_succ]
    refine wpAnyH_takeD (i := 1) (d := (some 37)) rfl rfl (by kernel_rfl) (by kernel_rfl) (by kernel_rfl) (fun _ _ _ h => h) (yieldsIf_load_row (by rfl) 25 _ rfl (w.heap.size) rfl 25 #[.slice A n c, .int .i64 p, .int .i64 0, .int .i64 0] _ (fun w hw => hw.1.out) Tryz.underlying25 rfl (by kernel_rfl)) (by assumption) ?_
    try simp only [Act.put, List.setIfInBounds_toArray, List.set_cons_zero, List.set_cons_succ]
    refine wpAnyH_takeD (i := 2) (d := (some 38)) (v := ?_) rfl rfl (by kernel_rfl) (by kernel_rfl) (by kernel_rfl) (fun _ _ _ h => h) (Or.inl ⟨by rfl, ?_⟩) (by assumption) ?_
    rotate_left
    · ((intro w hSw; go_simp) <;> with_reducible rfl)
    try simp only [Act.put, List.setIfInBounds_toArray, List.set_cons_zero, List.set_cons_succ]
    refine wpAnyH_takeD (i := 3) (d := (some 39)) (v := ?_) rfl rfl (by kernel_rfl) (by kernel_rfl) (by kernel_rfl) (fun _ _ _ h => h) (Or.inl ⟨by rfl, ?_⟩) (by assumption) ?_
    rotate_left
    · ((intro w hSw; obtain ⟨c0, _⟩ := ro_cf hSw.1.out 0 (.slice A n c) rfl; go_simp) <;> with_reducible rfl)
    try simp only [Act.put, List.setIfInBounds_toArray, List.set_cons_zero, List.set_cons_succ]
    refine wpAnyH_takeD (i := 4) (d := (some 40)) (v := ?_) rfl rfl (by kernel_rfl) (by kernel_rfl) (by kernel_rfl) (fun _ _ _ h => h) (Or.inl ⟨by rfl, ?_⟩) (by assumption) ?_
    rotate_left
    · ((intro w hSw; go_simp) <;> with_reducible rfl)
    try simp only [Act.put, List.setIfInBounds_toArray, List.set_cons_zero, List.set_cons_succ]
    refine wpAnyH_ready (rs := [5]) (by kernel_rfl) (by simp) ?_
    refine AllReadyH.cons rfl (fun K hK => ?_) (AllReadyH.nil)
    · go_simp
      refine (Fl.out _).mono ?_
      rintro e v1 ⟨rfl, h1'⟩
      replace hz_r := hide (hz_r.out.below h1')
      replace hz_q := hide (hz_q.out.below h1')
      refine hK.out _ _ (⟨hide (hHeld.1.out.below h1'), hide (hHeld.2.1.out.below h1'), hide (bel_next hHeld.2.2.out h1')⟩) (fun hHeld => ?_)
      clear hK K h1'
      try simp only [Act.put, List.setIfInBounds_toArray, List.set_cons_zero, List.set_cons_succ]
      refine wpAnyH_ready (rs := [6]) (by kernel_rfl) (by simp) ?_
      refine AllReadyH.cons rfl (fun K hK => ?_) (AllReadyH.nil)
      · obtain ⟨y0, z0⟩ := ro_cf hz_r.out 0 _ rfl; obtain ⟨y1, z1⟩ := ro_cf hz_r.out 1 _ rfl; obtain ⟨y2, z2⟩ := ro_cf hz_r.out 2 _ rfl; obtain ⟨y3, z3⟩ := ro_cf hz_r.out 3 _ rfl; obtain ⟨y4, z4⟩ := ro_cf hz_r.out 4 _ rfl; obtain ⟨y5, z5⟩ := ro_cf hz_r.out 5 _ rfl; obtain ⟨y6, z6⟩ := ro_cf hz_r.out 6 _ rfl
        go_simp
        refine hK.out _ _ (⟨hide (ro_away7 (g' := w.heap.size + 1 + 1) hHeld.1.out (by omega)), hide (ro_away7 (g' := w.heap.size + 1 + 1) hHeld.2.1.out (by omega)), hide (bl_setx7 (g := w.heap.size + 1 + 1) hHeld.2.2.out (by omega))⟩) (fun hHeld => ?_)
        clear hK K y0 z0 y1 z1 y2 z2 y3 z3 y4 z4 y5 z5 y6 z6
        replace hz_r := hide (ro_set7' (x0 := .slice none 0 0) (x1 := .slice none 0 0) (x2 := .slice none 0 0) (x3 := .slice none 0 0) (x4 := .slice none 0 0) (x5 := .slice none 0 0) (x6 := .slice none 0 0) hz_r.out)
        replace hz_q := hide (ro_away7 (g' := w.heap.size + 1 + 1) (x0 := .slice none 0 0) (x1 := .slice none 0 0) (x2 := .slice none 0 0) (x3 := .slice none 0 0) (x4 := .slice none 0 0) (x5 := .slice none 0 0) (x6 := .slice none 0 0) hz_q.out (by omega))
        generalize (((((((v1.setCell ⟨w.heap.size + 1 + 1, 0, none⟩ (.slice none 0 0)).setCell ⟨w.heap.size + 1 + 1, 1, none⟩ (.slice none 0 0)).setCell ⟨w.heap.size + 1 + 1, 2, none⟩ (.slice none 0 0)).setCell ⟨w.heap.size + 1 + 1, 3, none⟩ (.slice none 0 0)).setCell ⟨w.heap.size + 1 + 1, 4, none⟩ (.slice none 0 0)).setCell ⟨w.heap.size + 1 + 1, 5, none⟩ (.slice none 0 0)).setCell ⟨w.heap.size + 1 + 1, 6, none⟩ (.slice none 0 0)) = v2 at *
        try simp only [Act.put, List.setIfInBounds_toArray, List.set_cons_zero, List.set_cons_succ]
        refine wpAnyH_ready (rs := [7]) (by kernel_rfl) (by simp) ?_
        refine AllReadyH.cons rfl (fun K hK => ?_) (AllReadyH.nil)
        · obtain ⟨y0, z0⟩ := ro_cf hz_q.out 0 _ rfl; obtain ⟨y1, z1⟩ := ro_cf hz_q.out 1 _ rfl; obtain ⟨y2, z2⟩ := ro_cf hz_q.out 2 _ rfl; obtain ⟨y3, z3⟩ := ro_cf hz_q.out 3 _ rfl
          go_simp
          refine hK.out _ _ (⟨hide (ro_away4 (g' := w.heap.size + 1 + 1 + 1) hHeld.1.out (by omega)), hide (ro_away4 (g' := w.heap.size + 1 + 1 + 1) hHeld.2.1.out (by omega)), hide (bl_setx4 (g := w.heap.size + 1 + 1 + 1) hHeld.2.2.out (by omega))⟩) (fun hHeld => ?_)
          clear hK K y0 z0 y1 z1 y2 z2 y3 z3
          replace hz_q := hide (ro_set4' (x0 := .slice A n c) (x1 := .int .i64 p) (x2 := .int .i64 1) (x3 := .int .i64 n) hz_q.out)
          replace hz_r := hide (ro_away4 (g' := w.heap.size + 1 + 1 + 1) (x0 := .slice A n c) (x1 := .int .i64 p) (x2 := .int .i64 1) (x3 := .int .i64 n) hz_r.out (by omega))
          generalize ((((v2.setCell ⟨w.heap.size + 1 + 1 + 1, 0, none⟩ (.slice A n c)).setCell ⟨w.heap.size + 1 + 1 + 1, 1, none⟩ (.int .i64 p)).setCell ⟨w.heap.size + 1 + 1 + 1, 2, none⟩ (.int .i64 1)).setCell ⟨w.heap.size + 1 + 1 + 1, 3, none⟩ (.int .i64 n)) = v3 at *
          try simp only [Act.put, List.setIfInBounds_toArray, List.set_cons_zero, List.set_cons_succ]
          refine wpAnyH_done (by kernel_rfl) ?_ _
          obtain ⟨r0, _⟩ := ro_cf hz_r.out 0 (.slice none 0 0) rfl
          obtain ⟨r1, _⟩ := ro_cf hz_r.out 1 (.slice none 0 0) rfl
          obtain ⟨r2, _⟩ := ro_cf hz_r.out 2 (.slice none 0 0) rfl
          obtain ⟨r3, _⟩ := ro_cf hz_r.out 3 (.slice none 0 0) rfl
          obtain ⟨r4, _⟩ := ro_cf hz_r.out 4 (.slice none 0 0) rfl
          obtain ⟨r5, _⟩ := ro_cf hz_r.out 5 (.slice none 0 0) rfl
          obtain ⟨r6, _⟩ := ro_cf hz_r.out 6 (.slice none 0 0) rfl
          obtain ⟨q0, _⟩ := ro_cf hz_q.out 0 (.slice A n c) rfl
          obtain ⟨q1, _⟩ := ro_cf hz_q.out 1 (.int .i64 p) rfl
          obtain ⟨q2, _⟩ := ro_cf hz_q.out 2 (.int .i64 1) rfl
          obtain ⟨q3, _⟩ := ro_cf hz_q.out 3 (.int .i64 n) rfl
          go_wp2
          exact bodyPost_ret (v := .tuple #[bkV BkS.zero, cu A n c p 1 n]) (by simp [results, Tryz.results9, go_sem, BkS.zero, r0, r1, r2, r3, r4, r5, r6, q0, q1, q2, q3]) rfl ⟨rfl, hHeld.2.2.out⟩
set_option maxHeartbeats 16000000 in
theorem Decode_in (A : Option Addr) (n c p : Nat) (xs : List Int) (v : Int) (a b c' d x y k : Nat) (K at_ : Int) (w : World) (hK : K = (k : Int)) (hk : k = 4 ∨ k = 8) (hL : LyC a b c' d x y K) (hr : Rd w A n (xs.map (Value.int .u8))) (hB : Bytes xs) (hn : n ≤ 100000) (ht : p + tot k a b c' d x y ≤ n) :
    Calls Tryz.prog 9 #[cu A n c p 0 0, hdV v a b c' d x y, .int .i64 K, .int .i64 at_] w fun z w' => ((flB k a b c' d x y xs p = true ∧ ∃ S, z = .returned (.tuple #[bkV S, cu A n c ((p + tot k a b c' d x y : Nat) : Int) 0 0]) ∧ OwBk w' w.heap.size S (decBk k a b c' d x y xs p)) ∨ (flB k a b c' d x y xs p = false ∧ z = .returned (.tuple #[bkV BkS.zero, cu A n c ((p + tot k a b c' d x y : Nat) : Int) 10 at_]))) ∧ Below w.heap.size w w' := by
  subst hK
  obtain ⟨m0, hm0⟩ : ∃ m, m = k * d := ⟨_, rfl⟩
  obtain ⟨m1, hm1⟩ : ∃ m, m = d := ⟨_, rfl⟩
  obtain ⟨m2, hm2⟩ : ∃ m, m = x * 6 := ⟨_, rfl⟩
  obtain ⟨m3, hm3⟩ : ∃ m, m = y := ⟨_, rfl⟩
  obtain ⟨m4, hm4⟩ : ∃ m, m = c' * (k + 4) := ⟨_, rfl⟩
  obtain ⟨m5, hm5⟩ : ∃ m, m = b := ⟨_, rfl⟩
  obtain ⟨m6, hm6⟩ : ∃ m, m = a := ⟨_, rfl⟩
  have e0 : (d : Int) * (k : Int) = (m0 : Int) := by rw [hm0, Int.natCast_mul, Int.mul_comm]
  have e2 : 6 * (x : Int) = (m2 : Int) := by omega
  have e4 : (c' : Int) * ((k : Int) + 4) = (m4 : Int) := by rw [hm4, Int.natCast_mul, Int.natCast_add]; rfl
  obtain ⟨M, hM⟩ : ∃ M, M = [m0, m1, m2, m3, m4, m5, m6] := ⟨_, rfl⟩
  have hMs : M.sum = tot k a b c' d x y := by rw [hM]; unfold tot; simp only [List.sum_cons, List.sum_nil]; omega
  have htt : totV a b c' d x y k = ((tot k a b c' d x y : Nat) : Int) := by
    unfold totV tot
    rw [e0, e4, hm0, hm4]
    omega
  have Sm := hide (fun w => r14_.Sum v a b c' d x y k w hL)
  rw [htt] at Sm
  have hl : lenV a b c' d x y k = .agg #[.int .u64 (m0 : Int), .int .u64 (m1 : Int), .int .u64 (m2 : Int), .int .u64 (m3 : Int), .int .u64 (m4 : Int), .int .u64 (m5 : Int), .int .u64 (m6 : Int)] := by
    unfold lenV
    rw [e0, e2, e4, hm1, hm3, hm5, hm6]
  have Ln := hide (fun w => r14_.Lengths v a b c' d x y k w hL)
  rw [hl] at Ln
  have HR := fun W (hb : Below w.heap.size w W) => hr.below hb
  have Tk := hide (fun W (hb : Below w.heap.size w W) q m (h : q + m ≤ n) => r2_.Take_yes A n c xs q m 0 W (by omega) h (HR W hb))
  have hMt := hide (show p + M.sum ≤ n by rw [hMs]; exact ht)
  have hMl := hide (show M.length = 7 by rw [hM]; rfl)
  have hMs' := hide hMs
  have hp : p ≤ n := by omega
  have d1 : IntKind.i64.wrap ((n : Int) - (p : Int)) = (n : Int) - (p : Int) := by rw [IntKind.wrap_i64]; omega
  have d2 : IntKind.u64.wrap ((n : Int) - (p : Int)) = (n : Int) - (p : Int) := by rw [IntKind.wrap_u64]; omega
  have d3 : decide ((n : Int) - (p : Int) < ((tot k a b c' d x y : Nat) : Int)) = false := decide_eq_false (by omega)
  replace hM := hide hM
  have hmm := hide (show m0 = k * d ∧ m1 = d ∧ m2 = x * 6 ∧ m3 = y ∧ m4 = c' * (k + 4) ∧ m5 = b ∧ m6 = a from ⟨hm0, hm1, hm2, hm3, hm4, hm5, hm6⟩)
  have hkk := hide hk
  have hok := hide (decBk_ok hk a b c' d x y hB p (by have := hr.len; simp at this; omega)).1
  clear hL hMs htt HR e0 e2 e4 hl hm0 hm1 hm2 hm3 hm4 hm5 hm6
  have hxB := hide hB
  clear hk hB hr
  have hb := hide ((((((Below.refl w.heap.size w).alloc (Nat.le_refl _) (.cells #[.slice A n c, .int .i64 p, .int .i64 0, .int .i64 0] 25)).alloc (by simp) (.cells #[.int .i64 v, .int .u32 a, .int .u32 b, .int .u32 c', .int .u32 d, .int .u32 x, .int .u32 y] 28)).alloc (by simp; omega) (.cells #[.slice none 0 0, .slice none 0 0, .slice none 0 0, .slice none 0 0, .slice none 0 0, .slice none 0 0, .slice none 0 0] 34)).alloc (by simp; omega) (.cells #[.slice none 0 0, .int .i64 0, .int .i64 0, .int .i64 0] 25)).alloc (by simp; omega) (.cells #[.slice none 0 0, .slice none 0 0, .slice none 0 0, .slice none 0 0, .slice none 0 0, .slice none 0 0, .slice none 0 0] 34))
  have h4 : Ro (w.alloc (.cells #[.slice A n c, .int .i64 p, .int .i64 0, .int .i64 0] 25)) (w.heap.size) #[.slice A n c, .int .i64 p, .int .i64 0, .int .i64 0] 25 := by have := Ro.new w #[.slice A n c, .int .i64 p, .int .i64 0, .int .i64 0] 25; simpa [Nat.add_assoc] using this
  replace h4 := h4.alloc (.cells #[.int .i64 v, .int .u32 a, .int .u32 b, .int .u32 c', .int .u32 d, .int .u32 x, .int .u32 y] 28)
  replace h4 := h4.alloc (.cells #[.slice none 0 0, .slice none 0 0, .slice none 0 0, .slice none 0 0, .slice none 0 0, .slice none 0 0, .slice none 0 0] 34)
  replace h4 := h4.alloc (.cells #[.slice none 0 0, .int .i64 0, .int .i64 0, .int .i64 0] 25)
  replace h4 := h4.alloc (.cells #[.slice none 0 0, .slice none 0 0, .slice none 0 0, .slice none 0 0, .slice none 0 0, .slice none 0 0, .slice none 0 0] 34)
  replace h4 := hide h4
  have h5 : Ro ((w.alloc (.cells #[.slice A n c, .int .i64 p, .int .i64 0, .int .i64 0] 25)).alloc (.cells #[.int .i64 v, .int .u32 a, .int .u32 b, .int .u32 c', .int .u32 d, .int .u32 x, .int .u32 y] 28)) (w.heap.size + 1) #[.int .i64 v, .int .u32 a, .int .u32 b, .int .u32 c', .int .u32 d, .int .u32 x, .int .u32 y] 28 := by have := Ro.new (w.alloc (.cells #[.slice A n c, .int .i64 p, .int .i64 0, .int .i64 0] 25)) #[.int .i64 v, .int .u32 a, .int .u32 b, .int .u32 c', .int .u32 d, .int .u32 x, .int .u32 y] 28; simpa [Nat.add_assoc] using this
  replace h5 := h5.alloc (.cells #[.slice none 0 0, .slice none 0 0, .slice none 0 0, .slice none 0 0, .slice none 0 0, .slice none 0 0, .slice none 0 0] 34)
  replace h5 := h5.alloc (.cells #[.slice none 0 0, .int .i64 0, .int .i64 0, .int .i64 0] 25)
  replace h5 := h5.alloc (.cells #[.slice none 0 0, .slice none 0 0, .slice none 0 0, .slice none 0 0, .slice none 0 0, .slice none 0 0, .slice none 0 0] 34)
  replace h5 := hide h5
  have h8 : Ro (((w.alloc (.cells #[.slice A n c, .int .i64 p, .int .i64 0, .int .i64 0] 25)).alloc (.cells #[.int .i64 v, .int .u32 a, .int .u32 b, .int .u32 c', .int .u32 d, .int .u32 x, .int .u32 y] 28)).alloc (.cells #[.slice none 0 0, .slice none 0 0, .slice none 0 0, .slice none 0 0, .slice none 0 0, .slice none 0 0, .slice none 0 0] 34)) (w.heap.size + 1 + 1) #[.slice none 0 0, .slice none 0 0, .slice none 0 0, .slice none 0 0, .slice none 0 0, .slice none 0 0, .slice none 0 0] 34 := by have := Ro.new ((w.alloc (.cells #[.slice A n c, .int .i64 p, .int .i64 0, .int .i64 0] 25)).alloc (.cells #[.int .i64 v, .int .u32 a, .int .u32 b, .int .u32 c', .int .u32 d, .int .u32 x, .int .u32 y] 28)) #[.slice none 0 0, .slice none 0 0, .slice none 0 0, .slice none 0 0, .slice none 0 0, .slice none 0 0, .slice none 0 0] 34; simpa [Nat.add_assoc] using this
  replace h8 := h8.alloc (.cells #[.slice none 0 0, .int .i64 0, .int .i64 0, .int .i64 0] 25)
  replace h8 := h8.alloc (.cells #[.slice none 0 0, .slice none 0 0, .slice none 0 0, .slice none 0 0, .slice none 0 0, .slice none 0 0, .slice none 0 0] 34)
  replace h8 := hide h8
  have h9 : Ro ((((w.alloc (.cells #[.slice A n c, .int .i64 p, .int .i64 0, .int .i64 0] 25)).alloc (.cells #[.int .i64 v, .int .u32 a, .int .u32 b, .int .u32 c', .int .u32 d, .int .u32 x, .int .u32 y] 28)).alloc (.cells #[.slice none 0 0, .slice none 0 0, .slice none 0 0, .slice none 0 0, .slice none 0 0, .slice none 0 0, .slice none 0 0] 34)).alloc (.cells #[.slice none 0 0, .int .i64 0, .int .i64 0, .int .i64 0] 25)) (w.heap.size + 1 + 1 + 1) #[.slice none 0 0, .int .i64 0, .int .i64 0, .int .i64 0] 25 := by have := Ro.new (((w.alloc (.cells #[.slice A n c, .int .i64 p, .int .i64 0, .int .i64 0] 25)).alloc (.cells #[.int .i64 v, .int .u32 a, .int .u32 b, .int .u32 c', .int .u32 d, .int .u32 x, .int .u32 y] 28)).alloc (.cells #[.slice none 0 0, .slice none 0 0, .slice none 0 0, .slice none 0 0, .slice none 0 0, .slice none 0 0, .slice none 0 0] 34)) #[.slice none 0 0, .int .i64 0, .int .i64 0, .int .i64 0] 25; simpa [Nat.add_assoc] using this
  replace h9 := h9.alloc (.cells #[.slice none 0 0, .slice none 0 0, .slice none 0 0, .slice none 0 0, .slice none 0 0, .slice none 0 0, .slice none 0 0] 34)
  replace h9 := hide h9
  have h10 : Ro (((((w.alloc (.cells #[.slice A n c, .int .i64 p, .int .i64 0, .int .i64 0] 25)).alloc (.cells #[.int .i64 v, .int .u32 a, .int .u32 b, .int .u32 c', .int .u32 d, .int .u32 x, .int .u32 y] 28)).alloc (.cells #[.slice none 0 0, .slice none 0 0, .slice none 0 0, .slice none 0 0, .slice none 0 0, .slice none 0 0, .slice none 0 0] 34)).alloc (.cells #[.slice none 0 0, .int .i64 0, .int .i64 0, .int .i64 0] 25)).alloc (.cells #[.slice none 0 0, .slice none 0 0, .slice none 0 0, .slice none 0 0, .slice none 0 0, .slice none 0 0, .slice none 0 0] 34)) (w.heap.size + 1 + 1 + 1 + 1) #[.slice none 0 0, .slice none 0 0, .slice none 0 0, .slice none 0 0, .slice none 0 0, .slice none 0 0, .slice none 0 0] 34 := by have := Ro.new ((((w.alloc (.cells #[.slice A n c, .int .i64 p, .int .i64 0, .int .i64 0] 25)).alloc (.cells #[.int .i64 v, .int .u32 a, .int .u32 b, .int .u32 c', .int .u32 d, .int .u32 x, .int .u32 y] 28)).alloc (.cells #[.slice none 0 0, .slice none 0 0, .slice none 0 0, .slice none 0 0, .slice none 0 0, .slice none 0 0, .slice none 0 0] 34)).alloc (.cells #[.slice none 0 0, .int .i64 0, .int .i64 0, .int .i64 0] 25)) #[.slice none 0 0, .slice none 0 0, .slice none 0 0, .slice none 0 0, .slice none 0 0, .slice none 0 0, .slice none 0 0] 34; simpa [Nat.add_assoc] using this
  replace h10 := hide h10
  go_enter Tryz.func9, Tryz.ntmps9
  go_upto_region 2 with fail
  generalize (((((w.alloc (.cells #[.slice A n c, .int .i64 p, .int .i64 0, .int .i64 0] 25)).alloc (.cells #[.int .i64 v, .int .u32 a, .int .u32 b, .int .u32 c', .int .u32 d, .int .u32 x, .int .u32 y] 28)).alloc (.cells #[.slice none 0 0, .slice none 0 0, .slice none 0 0, .slice none 0 0, .slice none 0 0, .slice none 0 0, .slice none 0 0] 34)).alloc (.cells #[.slice none 0 0, .int .i64 0, .int .i64 0, .int .i64 0] 25)).alloc (.cells #[.slice none 0 0, .slice none 0 0, .slice none 0 0, .slice none 0 0, .slice none 0 0, .slice none 0 0, .slice none 0 0] 34)) = u at *
  obtain ⟨x2, _⟩ := ro_cf h4.out 2 (.int .i64 0) rfl
  go_upto_region 4 with fail
  clear x2
  refine wp_region_held_drew (S := fun w' => Hid (Ro w' (w.heap.size) (#[.slice A n c, .int .i64 p, .int .i64 0, .int .i64 0]) 25) ∧ Hid (Ro w' (w.heap.size + 1) (#[.int .i64 v, .int .u32 a, .int .u32 b, .int .u32 c', .int .u32 d, .int .u32 x, .int .u32 y]) 28) ∧ Hid (Ro w' (w.heap.size + 1 + 1) (#[.slice none 0 0, .slice none 0 0, .slice none 0 0, .slice none 0 0, .slice none 0 0, .slice none 0 0, .slice none 0 0]) 34) ∧ Hid (Ro w' (w.heap.size + 1 + 1 + 1) (#[.slice none 0 0, .int .i64 0, .int .i64 0, .int .i64 0]) 25) ∧ Hid (Ro w' (w.heap.size + 1 + 1 + 1 + 1) (#[.slice none 0 0, .slice none 0 0, .slice none 0 0, .slice none 0 0, .slice none 0 0, .slice none 0 0, .slice none 0 0]) 34) ∧ Hid (Below w.heap.size w w')) (by kernel_rfl) (⟨hide h4.out.drew, hide h5.out.drew, hide h8.out.drew, hide h9.out.drew, hide h10.out.drew, hide (bl_drew hb.out)⟩) (fun hHeld => ?_)
  generalize u.drew = u0 at *
  refine wpAnyH_takeD (i := 0) (d := (some 25)) rfl rfl (by kernel_rfl) (by kernel_rfl) (by kernel_rfl) (fun _ _ _ h => h) (yieldsIf_load_row (by rfl) 28 _ rfl (w.heap.size + 1) rfl 28 #[.int .i64 v, .int .u32 a, .int .u32 b, .int .u32 c', .int .u32 d, .int .u32 x, .int .u32 y] _ (fun w hw => hw.2.1.out) Tryz.underlying28 rfl (by kernel_rfl)) (by assumption) ?_
  try simp only [Act.put, List.setIfInBounds_toArray, List.set_cons_zero, List.set_cons_succ]
  refine wpAnyH_takeD (i := 1) (d := (some 26)) (v := ?_) rfl rfl (by kernel_rfl) (by kernel_rfl) (by kernel_rfl) (fun _ _ _ h => h) (Or.inl ⟨by rfl, ?_⟩) (by assumption) ?_
  rotate_left
  · ((intro w hSw; go_simp) <;> with_reducible rfl)
  try simp only [Act.put, List.setIfInBounds_toArray, List.set_cons_zero, List.set_cons_succ]
  refine wpAnyH_takeD (i := 3) (d := (some 28)) (v := ?_) rfl rfl (by kernel_rfl) (by kernel_rfl) (by kernel_rfl) (fun _ _ _ h => h) (Or.inl ⟨by rfl, ?_⟩) (by assumption) ?_
  rotate_left
  · ((intro w hSw; go_simp) <;> with_reducible rfl)
  try simp only [Act.put, List.setIfInBounds_toArray, List.set_cons_zero, List.set_cons_succ]
  refine wpAnyH_takeD (i := 4) (d := (some 29)) (v := ?_) rfl rfl (by kernel_rfl) (by kernel_rfl) (by kernel_rfl) (fun _ _ _ h => h) (Or.inl ⟨by rfl, ?_⟩) (by assumption) ?_
  rotate_left
  · ((intro w hSw; obtain ⟨c0, _⟩ := ro_cf hSw.1.out 0 (.slice A n c) rfl; go_simp) <;> with_reducible rfl)
  try simp only [Act.put, List.setIfInBounds_toArray, List.set_cons_zero, List.set_cons_succ]
  refine wpAnyH_takeD (i := 5) (d := (some 30)) (v := ?_) rfl rfl (by kernel_rfl) (by kernel_rfl) (by kernel_rfl) (fun _ _ _ h => h) (Or.inl ⟨by rfl, ?_⟩) (by assumption) ?_
  rotate_left
  · ((intro w hSw; go_simp) <;> with_reducible rfl)
  try simp only [Act.put, List.setIfInBounds_toArray, List.set_cons_zero, List.set_cons_succ]
  refine wpAnyH_takeD (i := 6) (d := (some 31)) (v := ?_) rfl rfl (by kernel_rfl) (by kernel_rfl) (by kernel_rfl) (fun _ _ _ h => h) (Or.inl ⟨by rfl, ?_⟩) (by assumption) ?_
  rotate_left
  · ((intro w hSw; go_simp) <;> with_reducible rfl)
  try simp only [Act.put, List.setIfInBounds_toArray, List.set_cons_zero, List.set_cons_succ]
  refine wpAnyH_takeD (i := 7) (d := (some 32)) (v := ?_) rfl rfl (by kernel_rfl) (by kernel_rfl) (by kernel_rfl) (fun _ _ _ h => h) (Or.inl ⟨by rfl, ?_⟩) (by assumption) ?_
  rotate_left
  · ((intro w hSw; obtain ⟨c0, _⟩ := ro_cf hSw.1.out 1 (.int .i64 (p : Int)) rfl; go_simp) <;> with_reducible rfl)
  try simp only [Act.put, List.setIfInBounds_toArray, List.set_cons_zero, List.set_cons_succ]
  refine wpAnyH_takeD (i := 8) (d := (some 33)) (v := ?_) rfl rfl (by kernel_rfl) (by kernel_rfl) (by kernel_rfl) (fun _ _ _ h => h) (Or.inl ⟨by rfl, ?_⟩) (by assumption) ?_
  rotate_left
  · ((intro w hSw; go_simp) <;> with_reducible rfl)
  try simp only [Act.put, List.setIfInBounds_toArray, List.set_cons_zero, List.set_cons_succ]
  refine wpAnyH_takeD (i := 9) (d := (some 34)) (v := ?_) rfl rfl (by kernel_rfl) (by kernel_rfl) (by kernel_rfl) (fun _ _ _ h => h) (Or.inl ⟨by rfl, ?_⟩) (by assumption) ?_
  rotate_left
  · ((intro w hSw; go_simp) <;> with_reducible rfl)
  try simp only [Act.put, List.setIfInBounds_toArray, List.set_cons_zero, List.set_cons_succ]
  refine wpAnyH_ready (rs := [2]) (by kernel_rfl) (by simp) ?_
  refine AllReadyH.cons rfl (fun K hK => ?_) (AllReadyH.nil)
  · go_simp
    refine (Sm.out _).mono ?_
    rintro e v1 ⟨rfl, h1'⟩
    refine hK.out _ _ (⟨hide (hHeld.1.out.below h1'), hide (hHeld.2.1.out.below h1'), hide (hHeld.2.2.1.out.below h1'), hide (hHeld.2.2.2.1.out.below h1'), hide (hHeld.2.2.2.2.1.out.below h1'), hide (bel_next hHeld.2.2.2.2.2.out h1')⟩) (fun hHeld => ?_)
    clear hK K h1'
    try simp only [Act.put, List.setIfInBounds_toArray, List.set_cons_zero, List.set_cons_succ]
    refine wpAnyH_takeD (i := 10) (d := (some 35)) (v := ?_) rfl rfl (by kernel_rfl) (by kernel_rfl) (by kernel_rfl) (fun _ _ _ h => h) (Or.inl ⟨by rfl, ?_⟩) (by assumption) ?_
    rotate_left
    · ((intro w hSw; go_simp) <;> with_reducible rfl)
    try simp only [Act.put, List.setIfInBounds_toArray, List.set_cons_zero, List.set_cons_succ]
    refine wpAnyH_done (by kernel_rfl) ?_ _
    have k4 := hHeld.1
    have k5 := hHeld.2.1
    have k8 := hHeld.2.2.1
    have k9 := hHeld.2.2.2.1
    have k10 := hHeld.2.2.2.2.1
    have kb := hHeld.2.2.2.2.2
    clear hHeld
    rename World => u4
    clear h4 h5 h8 h9 h10 hb
    obtain ⟨y0, _⟩ := ro_cf k5.out 0 (.int .i64 v) rfl
    obtain ⟨y1, _⟩ := ro_cf k5.out 1 (.int .u32 a) rfl
    obtain ⟨y2, _⟩ := ro_cf k5.out 2 (.int .u32 b) rfl
    obtain ⟨y3, _⟩ := ro_cf k5.out 3 (.int .u32 c') rfl
    obtain ⟨y4, _⟩ := ro_cf k5.out 4 (.int .u32 d) rfl
    obtain ⟨y5, _⟩ := ro_cf k5.out 5 (.int .u32 x) rfl
    obtain ⟨y6, _⟩ := ro_cf k5.out 6 (.int .u32 y) rfl
    go_upto_region 6 with fail
    go_wp2_with fail
    clear y0 y1 y2 y3 y4 y5 y6
    refine (Ln.out _).mono ?_
    rintro e w1 ⟨rfl, h1⟩
    replace kb := hide (bel_next kb.out h1)
    replace k4 := hide (k4.out.below h1)
    replace k8 := hide (k8.out.below h1)
    replace k9 := hide (k9.out.below h1)
    replace k10 := hide (k10.out.below h1)
    clear h1 k5
    have h11 := hide (Ro.new w1 #[.int .u64 (m0 : Int), .int .u64 (m1 : Int), .int .u64 (m2 : Int), .int .u64 (m3 : Int), .int .u64 (m4 : Int), .int .u64 (m5 : Int), .int .u64 (m6 : Int)] 62)
    have g10l := hide k10.out.lt
    have hb := hide (bl_alloc kb.out (Obj.cells #[.int .u64 (m0 : Int), .int .u64 (m1 : Int), .int .u64 (m2 : Int), .int .u64 (m3 : Int), .int .u64 (m4 : Int), .int .u64 (m5 : Int), .int .u64 (m6 : Int)] 62))
    have h4 := hide (k4.out.alloc (Obj.cells #[.int .u64 (m0 : Int), .int .u64 (m1 : Int), .int .u64 (m2 : Int), .int .u64 (m3 : Int), .int .u64 (m4 : Int), .int .u64 (m5 : Int), .int .u64 (m6 : Int)] 62))
    have h8 := hide (k8.out.alloc (Obj.cells #[.int .u64 (m0 : Int), .int .u64 (m1 : Int), .int .u64 (m2 : Int), .int .u64 (m3 : Int), .int .u64 (m4 : Int), .int .u64 (m5 : Int), .int .u64 (m6 : Int)] 62))
    have h9 := hide (k9.out.alloc (Obj.cells #[.int .u64 (m0 : Int), .int .u64 (m1 : Int), .int .u64 (m2 : Int), .int .u64 (m3 : Int), .int .u64 (m4 : Int), .int .u64 (m5 : Int), .int .u64 (m6 : Int)] 62))
    have h10 := hide (k10.out.alloc (Obj.cells #[.int .u64 (m0 : Int), .int .u64 (m1 : Int), .int .u64 (m2 : Int), .int .u64 (m3 : Int), .int .u64 (m4 : Int), .int .u64 (m5 : Int), .int .u64 (m6 : Int)] 62))
    go_upto_region 7 with fail
    replace h11 : Hid (Ro (w1.alloc (Obj.cells #[.int .u64 (m0 : Int), .int .u64 (m1 : Int), .int .u64 (m2 : Int), .int .u64 (m3 : Int), .int .u64 (m4 : Int), .int .u64 (m5 : Int), .int .u64 (m6 : Int)] 62)) w1.heap.size ((M.map lv).toArray) 62) := hide (by rw [hM.out]; exact h11.out)
    have s2 := hide (show (w1.alloc (Obj.cells #[.int .u64 (m0 : Int), .int .u64 (m1 : Int), .int .u64 (m2 : Int), .int .u64 (m3 : Int), .int .u64 (m4 : Int), .int .u64 (m5 : Int), .int .u64 (m6 : Int)] 62)).heap.size = w1.heap.size + 1 by simp)
    clear k4 k8 k9 k10 kb
    generalize w1.heap.size = g11 at *
    generalize (w1.alloc (Obj.cells #[.int .u64 (m0 : Int), .int .u64 (m1 : Int), .int .u64 (m2 : Int), .int .u64 (m3 : Int), .int .u64 (m4 : Int), .int .u64 (m5 : Int), .int .u64 (m6 : Int)] 62)) = w2 at *
    obtain ⟨x0, _⟩ := ro_cf h4.out 0 (.slice A n c) rfl
    obtain ⟨x1, _⟩ := ro_cf h4.out 1 (.int .i64 (p : Int)) rfl
    obtain ⟨x2, _⟩ := ro_cf h4.out 2 (.int .i64 0) rfl
    obtain ⟨x3, _⟩ := ro_cf h4.out 3 (.int .i64 0) rfl
    go_upto_region 9 with fail
    clear x0 x1 x2 x3
    have oC := Obj.cells #[.slice A n c, .int .i64 (p : Int), .int .i64 0, .int .i64 0] 25
    have h13 := hide (Ro.new w2 #[.slice A n c, .int .i64 (p : Int), .int .i64 0, .int .i64 0] 25)
    replace hb := hide (bl_alloc hb.out (.cells #[.slice A n c, .int .i64 (p : Int), .int .i64 0, .int .i64 0] 25))
    replace h8 := hide (h8.out.alloc (.cells #[.slice A n c, .int .i64 (p : Int), .int .i64 0, .int .i64 0] 25))
    replace h9 := hide (h9.out.alloc (.cells #[.slice A n c, .int .i64 (p : Int), .int .i64 0, .int .i64 0] 25))
    replace h10 := hide (h10.out.alloc (.cells #[.slice A n c, .int .i64 (p : Int), .int .i64 0, .int .i64 0] 25))
    replace h11 := hide (h11.out.alloc (.cells #[.slice A n c, .int .i64 (p : Int), .int .i64 0, .int .i64 0] 25))
    have s3 := hide (show (w2.alloc (.cells #[.slice A n c, .int .i64 (p : Int), .int .i64 0, .int .i64 0] 25)).heap.size = w2.heap.size + 1 by simp)
    generalize hw3 : (w2.alloc (.cells #[.slice A n c, .int .i64 (p : Int), .int .i64 0, .int .i64 0] 25)) = w3 at *
    have hs11 : g11 < w2.heap.size := by have := s2.out; omega
    generalize w2.heap.size = g13 at *
    clear hw3 h4 oC
    go_wp2_with fail
    go_loopw [12, 14] (fun sv iv wr => ∃ (i : Nat) (A1 : Option Addr) (c1 : Nat) (Ps : List Sl), i ≤ 7 ∧ iv = .int .i64 (i : Nat) ∧ sv = .slice A1 i c1 ∧ Hid (Ps.length = i) ∧ Hid (PPs wr (g13 + 1) 5 xs p M Ps A1) ∧ Hid (Ow wr (g13 + 1) 22 A1 i c1 (Ps.map slv)) ∧ Hid (Below w.heap.size w wr) ∧ Hid (Ro wr (w.heap.size + 1 + 1) #[.slice none 0 0, .slice none 0 0, .slice none 0 0, .slice none 0 0, .slice none 0 0, .slice none 0 0, .slice none 0 0] 34) ∧ Hid (Ro wr (w.heap.size + 1 + 1 + 1) #[.slice none 0 0, .int .i64 0, .int .i64 0, .int .i64 0] 25) ∧ Hid (Ro wr (w.heap.size + 1 + 1 + 1 + 1) #[.slice none 0 0, .slice none 0 0, .slice none 0 0, .slice none 0 0, .slice none 0 0, .slice none 0 0, .slice none 0 0] 34) ∧ Hid (Ro wr g11 ((M.map lv).toArray) 62) ∧ Hid (Ro wr g13 #[.slice A n c, .int .i64 ((p + (M.take i).sum : Nat) : Int), .int .i64 0, .int .i64 0] 25)) (fun _ i _ => 7 - (intOf i).toNat)
    case atStart => exact ⟨0, none, 0, [], by omega, rfl, rfl, hide rfl, hide (fun j s h => by simp at h), hide (Ow.nil (by have := s3.out; omega) _), hb, h8, h9, h10, h11, h13⟩
    case round =>
      clear hb h8 h9 h10 h11 h13
      obtain ⟨i, A1, c1, Ps, hi, rfl, rfl, hPl, hPP, hP, hb, h8, h9, h10, h11, h13⟩ := hrel
      by_cases hlt : i < 7
      · obtain ⟨m, hm⟩ : ∃ m, M[i]? = some m := ⟨_, List.getElem?_eq_getElem (by rw [hMl.out]; exact hlt)⟩
        have hsm := sum_le M i m hm
        have hmt := hMt.out
        obtain ⟨q, hq⟩ : ∃ q, p + (M.take i).sum = q := ⟨_, rfl⟩
        rw [hq] at h13
        have hqm : q + m ≤ n := by omega
        have dm : IntKind.i64.wrap (m : Int) = (m : Int) := by rw [IntKind.wrap_i64]; omega
        have di : decide ((i : Int) < 7) = true := by simp; omega
        have di2 : (i : Int) < 7 := by omega
        replace hq := hide hq
        replace hsm := hide hsm
        go_upto_region 12 with fail
        refine wp_region_held_drew (S := fun w' => Hid (Ro w' (g13) (#[.slice A n c, .int .i64 q, .int .i64 0, .int .i64 0]) 25) ∧ Hid (Ro w' (g11) ((M.map lv).toArray) 62) ∧ Hid (Below wr.heap.size wr w')) (by kernel_rfl) (⟨hide h13.out.drew, hide h11.out.drew, hide (bl_drew (bl_refl wr))⟩) (fun hHeld => ?_)
        generalize wr.drew = u0 at *
        refine wpAnyH_takeD (i := 0) (d := (some 51)) rfl rfl (by kernel_rfl) (by kernel_rfl) (by kernel_rfl) (fun _ _ _ h => h) (yieldsIf_load_row (by rfl) 25 _ rfl (g13) rfl 25 #[.slice A n c, .int .i64 q, .int .i64 0, .int .i64 0] _ (fun w hw => hw.1.out) Tryz.underlying25 rfl (by kernel_rfl)) (by assumption) ?_
        try simp only [Act.put, List.setIfInBounds_toArray, List.set_cons_zero, List.set_cons_succ]
        refine wpAnyH_takeD (i := 1) (d := (some 52)) (v := ?_) rfl rfl (by kernel_rfl) (by kernel_rfl) (by kernel_rfl) (fun _ _ _ h => h) (Or.inl ⟨by rfl, ?_⟩) (by assumption) ?_
        rotate_left
        · ((intro w hSw; go_simp) <;> with_reducible rfl)
        try simp only [Act.put, List.setIfInBounds_toArray, List.set_cons_zero, List.set_cons_succ]
        refine wpAnyH_takeD (i := 2) (d := (some 53)) (v := ?_) rfl rfl (by kernel_rfl) (by kernel_rfl) (by kernel_rfl) (fun _ _ _ h => h) (Or.inl ⟨by rfl, ?_⟩) (by assumption) ?_
        rotate_left
        · ((intro w hSw; go_simp) <;> with_reducible rfl)
        try simp only [Act.put, List.setIfInBounds_toArray, List.set_cons_zero, List.set_cons_succ]
        refine wpAnyH_takeD (i := 3) (d := (some 54)) (v := ?_) rfl rfl (by kernel_rfl) (by kernel_rfl) (by kernel_rfl) (fun _ _ _ h => h) (Or.inl ⟨by rfl, ?_⟩) (by assumption) ?_
        rotate_left
        · ((intro w hSw; have c0 := lv_cell hSw.2.1.out hm; go_simp) <;> with_reducible rfl)
        try simp only [Act.put, List.setIfInBounds_toArray, List.set_cons_zero, List.set_cons_succ]
        refine wpAnyH_takeD (i := 4) (d := (some 55)) (v := ?_) rfl rfl (by kernel_rfl) (by kernel_rfl) (by kernel_rfl) (fun _ _ _ h => h) (Or.inl ⟨by rfl, ?_⟩) (by assumption) ?_
        rotate_left
        · ((intro w hSw; go_simp) <;> with_reducible rfl)
        try simp only [Act.put, List.setIfInBounds_toArray, List.set_cons_zero, List.set_cons_succ]
        refine wpAnyH_ready (rs := [5, 9]) (by kernel_rfl) (by simp) ?_
        refine AllReadyH.cons rfl (fun K hK => ?_) (AllReadyH.cons rfl (fun K hK => ?_) (AllReadyH.nil))
        · go_simp
          refine (Tk.out _ (bel_next hb.out hHeld.2.2.out) q m hqm).mono ?_
          rintro e v1 ⟨A6, c6, rfl, o6_, h1'⟩
          have o6 := hide o6_
          have su0 := hide hHeld.2.2.out.size
          refine hK.out _ _ (⟨hide (hHeld.1.out.below h1'), hide (hHeld.2.1.out.below h1'), hide (bel_next hHeld.2.2.out h1')⟩) (fun hHeld => ?_)
          clear hK K h1'
          try simp only [Act.put, List.setIfInBounds_toArray, List.set_cons_zero, List.set_cons_succ]
          refine wpAnyH_takeD (i := 6) (d := (some 50)) (v := ?_) rfl rfl (by kernel_rfl) (by kernel_rfl) (by kernel_rfl) (fun _ _ _ h => h) (Or.inl ⟨by rfl, ?_⟩) (by assumption) ?_
          rotate_left
          · ((intro w hSw; go_simp) <;> with_reducible rfl)
          try simp only [Act.put, List.setIfInBounds_toArray, List.set_cons_zero, List.set_cons_succ]
          refine wpAnyH_takeD (i := 7) (d := (some 57)) (v := ?_) rfl rfl (by kernel_rfl) (by kernel_rfl) (by kernel_rfl) (fun _ _ _ h => h) (Or.inl ⟨by rfl, ?_⟩) (by assumption) ?_
          rotate_left
          · ((intro w hSw; go_simp) <;> with_reducible rfl)
          try simp only [Act.put, List.setIfInBounds_toArray, List.set_cons_zero, List.set_cons_succ]
          refine wpAnyH_takeD (i := 8) (d := (some 58)) (v := ?_) rfl rfl (by kernel_rfl) (by kernel_rfl) (by kernel_rfl) (fun _ _ _ h => h) (Or.inl ⟨by rfl, ?_⟩) (by assumption) ?_
          rotate_left
          · ((intro w hSw; go_simp) <;> with_reducible rfl)
          try simp only [Act.put, List.setIfInBounds_toArray, List.set_cons_zero, List.set_cons_succ]
          refine wpAnyH_ready (rs := [9]) (by kernel_rfl) (by simp) ?_
          refine AllReadyH.cons rfl (fun K hK => ?_) (AllReadyH.nil)
          · go_simp
            have lzv2 := hHeld.2.2.out.size
            have lbv2_0 := hHeld.1.out.lt
            have lbv2_1 := hHeld.2.1.out.lt
            have hz_e := hide (Ro.new v1 #[.slice none 0 0, .int .i64 0, .int .i64 0, .int .i64 0] 25)
            have ne6 := hide (ow_ne o6.out (g := v1.heap.size) (.inr (Nat.le_refl _)))
            replace o6 := hide (o6.out.alloc (.cells #[.slice none 0 0, .int .i64 0, .int .i64 0, .int .i64 0] 25))
            refine hK.out _ _ (⟨hide (hHeld.1.out.alloc _), hide (hHeld.2.1.out.alloc _), hide (bl_alloc hHeld.2.2.out _)⟩) (fun hHeld => ?_)
            clear hK K
            generalize v1.heap.size = g_e at *
            generalize v1.alloc (.cells #[.slice none 0 0, .int .i64 0, .int .i64 0, .int .i64 0] 25) = v2 at *
            try simp only [Act.put, List.setIfInBounds_toArray, List.set_cons_zero, List.set_cons_succ]
            refine wpAnyH_takeD (i := 10) (d := (some 15)) (v := ?_) rfl rfl (by kernel_rfl) (by kernel_rfl) (by kernel_rfl) (fun _ _ _ h => h) (Or.inl ⟨by rfl, ?_⟩) (by assumption) ?_
            rotate_left
            · ((intro w hSw; go_simp) <;> with_reducible rfl)
            try simp only [Act.put, List.setIfInBounds_toArray, List.set_cons_zero, List.set_cons_succ]
            refine wpAnyH_ready (rs := [11]) (by kernel_rfl) (by simp) ?_
            refine AllReadyH.cons rfl (fun K hK => ?_) (AllReadyH.nil)
            · obtain ⟨y0, z0⟩ := ro_cf hz_e.out 0 _ rfl; obtain ⟨y1, z1⟩ := ro_cf hz_e.out 1 _ rfl; obtain ⟨y2, z2⟩ := ro_cf hz_e.out 2 _ rfl; obtain ⟨y3, z3⟩ := ro_cf hz_e.out 3 _ rfl
              go_simp
              refine hK.out _ _ (⟨hide (ro_away4 (g' := g_e) hHeld.1.out (by omega)), hide (ro_away4 (g' := g_e) hHeld.2.1.out (by omega)), hide (bl_setx4 (g := g_e) hHeld.2.2.out (by omega))⟩) (fun hHeld => ?_)
              clear hK K y0 z0 y1 z1 y2 z2 y3 z3
              replace hz_e := hide (ro_set4' (x0 := .slice A n c) (x1 := .int .i64 ((q : Int) + (m : Int))) (x2 := .int .i64 0) (x3 := .int .i64 0) hz_e.out)
              replace o6 := hide (ow_away4 o6.out ne6.out (.slice A n c) (.int .i64 ((q : Int) + (m : Int))) (.int .i64 0) (.int .i64 0))
              generalize ((((v2.setCell ⟨g_e, 0, none⟩ (.slice A n c)).setCell ⟨g_e, 1, none⟩ (.int .i64 ((q : Int) + (m : Int)))).setCell ⟨g_e, 2, none⟩ (.int .i64 0)).setCell ⟨g_e, 3, none⟩ (.int .i64 0)) = v3 at *
              try simp only [Act.put, List.setIfInBounds_toArray, List.set_cons_zero, List.set_cons_succ]
              refine wpAnyH_done (by kernel_rfl) ?_ _
              have k13 := hide hHeld.1.out
              have k11 := hide hHeld.2.1.out
              have kB := hide hHeld.2.2.out
              have l13 := h13.out.lt
              clear hHeld h13 h11
              have hS := su0.out
              have dj6 := hide (Dj.low hP.out o6.out hS)
              have gA := hide (show oB A1 ≠ some g_e from fun h => by have := (hP.out.blk h).2; omega)
              replace hPP := hide (hPP.out.below kB.out)
              replace hPP := hide (hPP.out.snoc (s := ⟨A6, m, c6⟩) (by rw [hPl.out]; exact hm) (by rw [hPl.out, hq.out]; exact o6.out.mono (by omega)) dj6.out.symm)
              replace hP := hide (hP.out.below kB.out)
              replace hb := hide (bel_next hb.out kB.out)
              replace h8 := hide (h8.out.below kB.out)
              replace h9 := hide (h9.out.below kB.out)
              replace h10 := hide (h10.out.below kB.out)
              have hsum := hide (show p + (M.take (i + 1)).sum = q + m by rw [take_sum hm]; have := hq.out; omega)
              have lB := hb.out.size
              have l10 := g10l.out
              have hwB := hide (show w.heap.size ≤ g13 + 1 by omega)
              clear o6 kB su0 hS dj6 ne6 hsm
              go_upto_region 13 with fail
              go_wp2_with (first
                | (at_builtin; refine ap1A elSB_ hP.out (Below.refl (g13 + 1) _) (Nat.le_refl _) (.tmp 59) (.tmp 61) (.slice A6 m c6) rfl rfl rfl rfl rfl (by unfold maxLen; omega) (by omega) ?_; intro A7 c7 w7 hO7 hb7 hg7
                   replace hPP := hide ((hPP.out.below (bl_new _ _)).gw hg7)
                   replace hz_e := hide (ro_gw (hz_e.out.alloc _) hg7 gA.out)
                   replace k13 := hide (ro_low k13.out hb7 (by omega))
                   replace k11 := hide (ro_low k11.out hb7 (by omega))
                   replace h8 := hide (ro_low h8.out hb7 (by omega))
                   replace h9 := hide (ro_low h9.out hb7 (by omega))
                   replace h10 := hide (ro_low h10.out hb7 (by omega))
                   replace hb := hide (hb.out.trans (hb7.mono hwB.out))
                   replace hO7 := hide hO7
                   clear hg7 hb7 hP
                   obtain ⟨e0, _⟩ := ro_cf hz_e.out 0 (.slice A n c) rfl
                   obtain ⟨e1, _⟩ := ro_cf hz_e.out 1 (.int .i64 ((q : Int) + (m : Int))) rfl
                   obtain ⟨e2, _⟩ := ro_cf hz_e.out 2 (.int .i64 0) rfl
                   obtain ⟨e3, _⟩ := ro_cf hz_e.out 3 (.int .i64 0) rfl
                   obtain ⟨f0, j0⟩ := ro_cf k13.out 0 (.slice A n c) rfl
                   obtain ⟨f1, j1⟩ := ro_cf k13.out 1 (.int .i64 (q : Int)) rfl
                   obtain ⟨f2, j2⟩ := ro_cf k13.out 2 (.int .i64 0) rfl
                   obtain ⟨f3, j3⟩ := ro_cf k13.out 3 (.int .i64 0) rfl))
              go_roundw
              case rel => exact ⟨i + 1, A7, c7, Ps ++ [⟨A6, m, c6⟩], by omega, by go_num, rfl, hide (by rw [List.length_append, hPl.out]; rfl), hide ((((hPP.out.set 0 (by omega) _).set 1 (by omega) _).set 2 (by omega) _).set 3 (by omega) _), hide (by rw [List.map_append]; exact (((hO7.out.setLow 0 (by omega) _).setLow 1 (by omega) _).setLow 2 (by omega) _).setLow 3 (by omega) _), hide (bl_setx4 hb.out (by omega)), hide (ro_away4 h8.out (by omega)), hide (ro_away4 h9.out (by omega)), hide (ro_away4 h10.out (by omega)), hide (ro_away4 k11.out (by omega)), hide (by rw [hsum.out, Int.natCast_add]; exact ro_set4' k13.out)⟩
              case measure => simp [intOf]; omega
        · go_simp
          have lzv4 := hHeld.2.2.out.size
          have lbv4_0 := hHeld.1.out.lt
          have lbv4_1 := hHeld.2.1.out.lt
          have hz_e := hide (Ro.new u0 #[.slice none 0 0, .int .i64 0, .int .i64 0, .int .i64 0] 25)
          refine hK.out _ _ (⟨hide (hHeld.1.out.alloc _), hide (hHeld.2.1.out.alloc _), hide (bl_alloc hHeld.2.2.out _)⟩) (fun hHeld => ?_)
          clear hK K
          generalize u0.heap.size = g_e at *
          generalize u0.alloc (.cells #[.slice none 0 0, .int .i64 0, .int .i64 0, .int .i64 0] 25) = v4 at *
          try simp only [Act.put, List.setIfInBounds_toArray, List.set_cons_zero, List.set_cons_succ]
          refine wpAnyH_ready (rs := [5]) (by kernel_rfl) (by simp) ?_
          refine AllReadyH.cons rfl (fun K hK => ?_) (AllReadyH.nil)
          · go_simp
            refine (Tk.out _ (bel_next hb.out hHeld.2.2.out) q m hqm).mono ?_
            rintro e v5 ⟨A6, c6, rfl, o6_, h1'⟩
            have o6 := hide o6_
            have su0 := hide hHeld.2.2.out.size
            have ne6 := hide (ow_ne o6.out (.inl hz_e.out.lt))
            replace hz_e := hide (hz_e.out.below h1')
            refine hK.out _ _ (⟨hide (hHeld.1.out.below h1'), hide (hHeld.2.1.out.below h1'), hide (bel_next hHeld.2.2.out h1')⟩) (fun hHeld => ?_)
            clear hK K h1'
            try simp only [Act.put, List.setIfInBounds_toArray, List.set_cons_zero, List.set_cons_succ]
            refine wpAnyH_takeD (i := 6) (d := (some 50)) (v := ?_) rfl rfl (by kernel_rfl) (by kernel_rfl) (by kernel_rfl) (fun _ _ _ h => h) (Or.inl ⟨by rfl, ?_⟩) (by assumption) ?_
            rotate_left
            · ((intro w hSw; go_simp) <;> with_reducible rfl)
            try simp only [Act.put, List.setIfInBounds_toArray, List.set_cons_zero, List.set_cons_succ]
            refine wpAnyH_takeD (i := 7) (d := (some 57)) (v := ?_) rfl rfl (by kernel_rfl) (by kernel_rfl) (by kernel_rfl) (fun _ _ _ h => h) (Or.inl ⟨by rfl, ?_⟩) (by assumption) ?_
            rotate_left
            · ((intro w hSw; go_simp) <;> with_reducible rfl)
            try simp only [Act.put, List.setIfInBounds_toArray, List.set_cons_zero, List.set_cons_succ]
            refine wpAnyH_takeD (i := 8) (d := (some 58)) (v := ?_) rfl rfl (by kernel_rfl) (by kernel_rfl) (by kernel_rfl) (fun _ _ _ h => h) (Or.inl ⟨by rfl, ?_⟩) (by assumption) ?_
            rotate_left
            · ((intro w hSw; go_simp) <;> with_reducible rfl)
            try simp only [Act.put, List.setIfInBounds_toArray, List.set_cons_zero, List.set_cons_succ]
            refine wpAnyH_takeD (i := 10) (d := (some 15)) (v := ?_) rfl rfl (by kernel_rfl) (by kernel_rfl) (by kernel_rfl) (fun _ _ _ h => h) (Or.inl ⟨by rfl, ?_⟩) (by assumption) ?_
            rotate_left
            · ((intro w hSw; go_simp) <;> with_reducible rfl)
            try simp only [Act.put, List.setIfInBounds_toArray, List.set_cons_zero, List.set_cons_succ]
            refine wpAnyH_ready (rs := [11]) (by kernel_rfl) (by simp) ?_
            refine AllReadyH.cons rfl (fun K hK => ?_) (AllReadyH.nil)
            · obtain ⟨y0, z0⟩ := ro_cf hz_e.out 0 _ rfl; obtain ⟨y1, z1⟩ := ro_cf hz_e.out 1 _ rfl; obtain ⟨y2, z2⟩ := ro_cf hz_e.out 2 _ rfl; obtain ⟨y3, z3⟩ := ro_cf hz_e.out 3 _ rfl
              go_simp
              refine hK.out _ _ (⟨hide (ro_away4 (g' := g_e) hHeld.1.out (by omega)), hide (ro_away4 (g' := g_e) hHeld.2.1.out (by omega)), hide (bl_setx4 (g := g_e) hHeld.2.2.out (by omega))⟩) (fun hHeld => ?_)
              clear hK K y0 z0 y1 z1 y2 z2 y3 z3
              replace hz_e := hide (ro_set4' (x0 := .slice A n c) (x1 := .int .i64 ((q : Int) + (m : Int))) (x2 := .int .i64 0) (x3 := .int .i64 0) hz_e.out)
              replace o6 := hide (ow_away4 o6.out ne6.out (.slice A n c) (.int .i64 ((q : Int) + (m : Int))) (.int .i64 0) (.int .i64 0))
              generalize ((((v5.setCell ⟨g_e, 0, none⟩ (.slice A n c)).setCell ⟨g_e, 1, none⟩ (.int .i64 ((q : Int) + (m : Int)))).setCell ⟨g_e, 2, none⟩ (.int .i64 0)).setCell ⟨g_e, 3, none⟩ (.int .i64 0)) = v6 at *
              try simp only [Act.put, List.setIfInBounds_toArray, List.set_cons_zero, List.set_cons_succ]
              refine wpAnyH_done (by kernel_rfl) ?_ _
              have k13 := hide hHeld.1.out
              have k11 := hide hHeld.2.1.out
              have kB := hide hHeld.2.2.out
              have l13 := h13.out.lt
              clear hHeld h13 h11
              have hS := su0.out
              have dj6 := hide (Dj.low hP.out o6.out hS)
              have gA := hide (show oB A1 ≠ some g_e from fun h => by have := (hP.out.blk h).2; omega)
              replace hPP := hide (hPP.out.below kB.out)
              replace hPP := hide (hPP.out.snoc (s := ⟨A6, m, c6⟩) (by rw [hPl.out]; exact hm) (by rw [hPl.out, hq.out]; exact o6.out.mono (by omega)) dj6.out.symm)
              replace hP := hide (hP.out.below kB.out)
              replace hb := hide (bel_next hb.out kB.out)
              replace h8 := hide (h8.out.below kB.out)
              replace h9 := hide (h9.out.below kB.out)
              replace h10 := hide (h10.out.below kB.out)
              have hsum := hide (show p + (M.take (i + 1)).sum = q + m by rw [take_sum hm]; have := hq.out; omega)
              have lB := hb.out.size
              have l10 := g10l.out
              have hwB := hide (show w.heap.size ≤ g13 + 1 by omega)
              clear o6 kB su0 hS dj6 ne6 hsm
              go_upto_region 13 with fail
              go_wp2_with (first
                | (at_builtin; refine ap1A elSB_ hP.out (Below.refl (g13 + 1) _) (Nat.le_refl _) (.tmp 59) (.tmp 61) (.slice A6 m c6) rfl rfl rfl rfl rfl (by unfold maxLen; omega) (by omega) ?_; intro A7 c7 w7 hO7 hb7 hg7
                   replace hPP := hide ((hPP.out.below (bl_new _ _)).gw hg7)
                   replace hz_e := hide (ro_gw (hz_e.out.alloc _) hg7 gA.out)
                   replace k13 := hide (ro_low k13.out hb7 (by omega))
                   replace k11 := hide (ro_low k11.out hb7 (by omega))
                   replace h8 := hide (ro_low h8.out hb7 (by omega))
                   replace h9 := hide (ro_low h9.out hb7 (by omega))
                   replace h10 := hide (ro_low h10.out hb7 (by omega))
                   replace hb := hide (hb.out.trans (hb7.mono hwB.out))
                   replace hO7 := hide hO7
                   clear hg7 hb7 hP
                   obtain ⟨e0, _⟩ := ro_cf hz_e.out 0 (.slice A n c) rfl
                   obtain ⟨e1, _⟩ := ro_cf hz_e.out 1 (.int .i64 ((q : Int) + (m : Int))) rfl
                   obtain ⟨e2, _⟩ := ro_cf hz_e.out 2 (.int .i64 0) rfl
                   obtain ⟨e3, _⟩ := ro_cf hz_e.out 3 (.int .i64 0) rfl
                   obtain ⟨f0, j0⟩ := ro_cf k13.out 0 (.slice A n c) rfl
                   obtain ⟨f1, j1⟩ := ro_cf k13.out 1 (.int .i64 (q : Int)) rfl
                   obtain ⟨f2, j2⟩ := ro_cf k13.out 2 (.int .i64 0) rfl
                   obtain ⟨f3, j3⟩ := ro_cf k13.out 3 (.int .i64 0) rfl))
              go_roundw
              case rel => exact ⟨i + 1, A7, c7, Ps ++ [⟨A6, m, c6⟩], by omega, by go_num, rfl, hide (by rw [List.length_append, hPl.out]; rfl), hide ((((hPP.out.set 0 (by omega) _).set 1 (by omega) _).set 2 (by omega) _).set 3 (by omega) _), hide (by rw [List.map_append]; exact (((hO7.out.setLow 0 (by omega) _).setLow 1 (by omega) _).setLow 2 (by omega) _).setLow 3 (by omega) _), hide (bl_setx4 hb.out (by omega)), hide (ro_away4 h8.out (by omega)), hide (ro_away4 h9.out (by omega)), hide (ro_away4 h10.out (by omega)), hide (ro_away4 k11.out (by omega)), hide (by rw [hsum.out, Int.natCast_add]; exact ro_set4' k13.out)⟩
              case measure => simp [intOf]; omega
      · obtain rfl : i = 7 := by omega
        have l10 := g10l.out
        have hwB := hide (show w.heap.size ≤ g13 + 1 by omega)
        have Fl := hide (fun (W : World) => r2_.Fail_ok A n c ((p + tot k a b c' d x y : Nat) : Int) 0 10 at_ W (by decide))
        have hMn := hide (show m0 ≤ 100000 ∧ m1 ≤ 100000 ∧ m2 ≤ 100000 ∧ m3 ≤ 100000 ∧ m4 ≤ 100000 ∧ m5 ≤ 100000 ∧ m6 ≤ 100000 by have h1 := hMt.out; rw [hM.out] at h1; simp only [List.sum_cons, List.sum_nil] at h1; omega)
        obtain ⟨⟨Q0, N0, C0⟩, ⟨Q1, N1, C1⟩, ⟨Q2, N2, C2⟩, ⟨Q3, N3, C3⟩, ⟨Q4, N4, C4⟩, ⟨Q5, N5, C5⟩, ⟨Q6, N6, C6⟩, rfl⟩ := sl7 Ps hPl.out
        obtain ⟨n0, P0, d0⟩ := hPP.out 0 _ rfl
        rw [hM.out] at n0
        obtain rfl : m0 = N0 := by simpa using n0
        replace P0 : Hid (Ow wr (g13 + 1) 5 Q0 m0 C0 ((sec k a b c' d x y xs p 0).map (Value.int .u8))) := hide (by
          have e : fld xs (p + (M.take 0).sum) m0 = sec k a b c' d x y xs p 0 := fld_congr (by have := hmm.out; rw [hM.out]; simp only [List.take_zero, List.sum_nil]; omega) (by have := hmm.out; omega)
          rw [← e]
          exact P0)
        clear n0 d0
        obtain ⟨n1, P1, d1⟩ := hPP.out 1 _ rfl
        rw [hM.out] at n1
        obtain rfl : m1 = N1 := by simpa using n1
        replace P1 : Hid (Ow wr (g13 + 1) 5 Q1 m1 C1 ((sec k a b c' d x y xs p 1).map (Value.int .u8))) := hide (by
          have e : fld xs (p + (M.take 1).sum) m1 = sec k a b c' d x y xs p 1 := fld_congr (by have := hmm.out; rw [hM.out]; simp only [List.take_succ_cons, List.take_zero, List.sum_cons, List.sum_nil]; omega) (by have := hmm.out; omega)
          rw [← e]
          exact P1)
        clear n1 d1
        obtain ⟨n2, P2, d2⟩ := hPP.out 2 _ rfl
        rw [hM.out] at n2
        obtain rfl : m2 = N2 := by simpa using n2
        replace P2 : Hid (Ow wr (g13 + 1) 5 Q2 m2 C2 ((sec k a b c' d x y xs p 2).map (Value.int .u8))) := hide (by
          have e : fld xs (p + (M.take 2).sum) m2 = sec k a b c' d x y xs p 2 := fld_congr (by have := hmm.out; rw [hM.out]; simp only [List.take_succ_cons, List.take_zero, List.sum_cons, List.sum_nil]; omega) (by have := hmm.out; omega)
          rw [← e]
          exact P2)
        clear n2 d2
        obtain ⟨n3, P3, d3⟩ := hPP.out 3 _ rfl
        rw [hM.out] at n3
        obtain rfl : m3 = N3 := by simpa using n3
        replace P3 : Hid (Ow wr (g13 + 1) 5 Q3 m3 C3 ((sec k a b c' d x y xs p 3).map (Value.int .u8))) := hide (by
          have e : fld xs (p + (M.take 3).sum) m3 = sec k a b c' d x y xs p 3 := fld_congr (by have := hmm.out; rw [hM.out]; simp only [List.take_succ_cons, List.take_zero, List.sum_cons, List.sum_nil]; omega) (by have := hmm.out; omega)
          rw [← e]
          exact P3)
        clear n3 d3
        obtain ⟨n4, P4, d4⟩ := hPP.out 4 _ rfl
        rw [hM.out] at n4
        obtain rfl : m4 = N4 := by simpa using n4
        replace P4 : Hid (Ow wr (g13 + 1) 5 Q4 m4 C4 ((sec k a b c' d x y xs p 4).map (Value.int .u8))) := hide (by
          have e : fld xs (p + (M.take 4).sum) m4 = sec k a b c' d x y xs p 4 := fld_congr (by have := hmm.out; rw [hM.out]; simp only [List.take_succ_cons, List.take_zero, List.sum_cons, List.sum_nil]; omega) (by have := hmm.out; omega)
          rw [← e]
          exact P4)
        clear n4 d4
        obtain ⟨n5, P5, d5⟩ := hPP.out 5 _ rfl
        rw [hM.out] at n5
        obtain rfl : m5 = N5 := by simpa using n5
        replace P5 : Hid (Ow wr (g13 + 1) 5 Q5 m5 C5 ((sec k a b c' d x y xs p 5).map (Value.int .u8))) := hide (by
          have e : fld xs (p + (M.take 5).sum) m5 = sec k a b c' d x y xs p 5 := fld_congr (by have := hmm.out; rw [hM.out]; simp only [List.take_succ_cons, List.take_zero, List.sum_cons, List.sum_nil]; omega) (by have := hmm.out; omega)
          rw [← e]
          exact P5)
        clear n5 d5
        obtain ⟨n6, P6, d6⟩ := hPP.out 6 _ rfl
        rw [hM.out] at n6
        obtain rfl : m6 = N6 := by simpa using n6
        replace P6 : Hid (Ow wr (g13 + 1) 5 Q6 m6 C6 ((sec k a b c' d x y xs p 6).map (Value.int .u8))) := hide (by
          have e : fld xs (p + (M.take 6).sum) m6 = sec k a b c' d x y xs p 6 := fld_congr (by have := hmm.out; rw [hM.out]; simp only [List.take_succ_cons, List.take_zero, List.sum_cons, List.sum_nil]; omega) (by have := hmm.out; omega)
          rw [← e]
          exact P6)
        clear n6 d6
        have h7 : p + (M.take 7).sum = p + tot k a b c' d x y := by rw [List.take_of_length_le (by rw [hMl.out]; exact Nat.le_refl _), hMs'.out]
        rw [h7] at h13
        clear h7
        obtain ⟨pe, hpe⟩ : ∃ pe, p + tot k a b c' d x y = pe := ⟨_, rfl⟩
        rw [hpe] at h13 Fl
        replace hpe := hide hpe
        obtain ⟨g1, hA1, hg1, hg1'⟩ := hP.out.form (by omega)
        subst hA1
        have HB := hide (bl_alloc (bl_refl wr) (.cells #[.slice none 0 0, .slice none 0 0, .slice none 0 0, .slice none 0 0, .slice none 0 0, .slice none 0 0, .slice none 0 0] 34))
        have kb := hide (Ro.new wr #[.slice none 0 0, .slice none 0 0, .slice none 0 0, .slice none 0 0, .slice none 0 0, .slice none 0 0, .slice none 0 0] 34)
        clear hPP
        go_upto_region 18 with fail
        generalize (wr.alloc (.cells #[.slice none 0 0, .slice none 0 0, .slice none 0 0, .slice none 0 0, .slice none 0 0, .slice none 0 0, .slice none 0 0] 34)) = W0 at *
        have lg13 := h13.out.lt
        have xc := ((hP.out.below HB.out).cell 0 (by omega)).trans (show _ = some (Value.slice Q0 m0 C0) from rfl)
        go_wp2_with fail
        refine (r15_.DecodeK Q0 m0 C0 d (sec k a b c' d x y xs p 0) k _ _ rfl hkk.out (by have := hmm.out; have := hMn.out; omega) (by have := hmm.out; have := Nat.mul_comm k d; omega) (ow_slok (P0.out)).1 (ow_slok (P0.out)).2.1 (ow_slok (P0.out)).2.2 (P0.out.below HB.out).rd (sec_bytes k a b c' d x y hxB.out p 0)).mono ?_
        rintro e V0 ⟨T0, D0, rfl, R_, h1⟩
        have l17 := kb.out.lt
        have R0 := hide (R_.mono (show wr.heap.size + 1 ≤ _ from l17))
        replace kb := hide (kb.out.below h1)
        replace HB := hide (bel_next HB.out h1)
        clear h1 R_ l17
        obtain ⟨_, zf⟩ := ro_cf kb.out 0 (.slice none 0 0) rfl
        go_upto_region 19 with fail
        clear xc zf
        replace kb := hide (show Ro (V0.setCell ⟨wr.heap.size, 0, none⟩ (.slice T0 d D0)) (wr.heap.size) #[.slice T0 d D0, .slice none 0 0, .slice none 0 0, .slice none 0 0, .slice none 0 0, .slice none 0 0, .slice none 0 0] 34 from by have := ro_set kb.out 0 (.slice T0 d D0); simpa using this)
        replace HB := hide (bl_set (o := 0) HB.out (Nat.le_refl _) (.slice T0 d D0))
        replace R0 := hide (R0.out.setLow 0 (Nat.lt_succ_self _) (.slice T0 d D0))
        generalize (V0.setCell ⟨wr.heap.size, 0, none⟩ (.slice T0 d D0)) = W1 at *
        have xc := ((hP.out.below HB.out).cell 1 (by omega)).trans (show _ = some (Value.slice Q1 m1 C1) from rfl)
        obtain ⟨_, zf⟩ := ro_cf kb.out 1 (.slice none 0 0) rfl
        go_upto_region 20 with fail
        clear xc zf
        replace kb := hide (show Ro (W1.setCell ⟨wr.heap.size, 1, none⟩ (.slice Q1 m1 C1)) (wr.heap.size) #[.slice T0 d D0, .slice Q1 m1 C1, .slice none 0 0, .slice none 0 0, .slice none 0 0, .slice none 0 0, .slice none 0 0] 34 from by have := ro_set kb.out 1 (.slice Q1 m1 C1); simpa using this)
        replace HB := hide (bl_set (o := 1) HB.out (Nat.le_refl _) (.slice Q1 m1 C1))
        replace R0 := hide (R0.out.setLow 1 (Nat.lt_succ_self _) (.slice Q1 m1 C1))
        generalize (W1.setCell ⟨wr.heap.size, 1, none⟩ (.slice Q1 m1 C1)) = W2 at *
        have xc := ((hP.out.below HB.out).cell 2 (by omega)).trans (show _ = some (Value.slice Q2 m2 C2) from rfl)
        go_wp2_with fail
        refine (U16 Q2 m2 C2 x (sec k a b c' d x y xs p 2) _ (by have := hmm.out; have := hMn.out; omega) (by have := hmm.out; omega) (ow_slok (P2.out)).1 (ow_slok (P2.out)).2.1 (ow_slok (P2.out)).2.2 (P2.out.below HB.out).rd (sec_bytes k a b c' d x y hxB.out p 2)).mono ?_
        rintro e V2 ⟨F2, T2, N2, D2, hF2, rfl, R_, h1⟩
        replace hF2 := hide hF2
        have l17 := kb.out.lt
        replace kb := hide (kb.out.below h1)
        replace HB := hide (bel_next HB.out h1)
        replace R0 := hide (R0.out.below h1)
        cases F2
        · clear h1 R_ l17 R0
          obtain ⟨_, zf⟩ := ro_cf kb.out 2 (.slice none 0 0) rfl
          go_upto_region 22 with fail
          clear xc zf
          replace kb := hide (show Ro (V2.setCell ⟨wr.heap.size, 2, none⟩ (.slice T2 N2 D2)) (wr.heap.size) #[.slice T0 d D0, .slice Q1 m1 C1, .slice T2 N2 D2, .slice none 0 0, .slice none 0 0, .slice none 0 0, .slice none 0 0] 34 from by have := ro_set kb.out 2 (.slice T2 N2 D2); simpa using this)
          replace HB := hide (bl_set (o := 2) HB.out (Nat.le_refl _) (.slice T2 N2 D2))
          generalize (V2.setCell ⟨wr.heap.size, 2, none⟩ (.slice T2 N2 D2)) = W3 at *
          have xc := ((hP.out.below HB.out).cell 3 (by omega)).trans (show _ = some (Value.slice Q3 m3 C3) from rfl)
          obtain ⟨_, zf⟩ := ro_cf kb.out 3 (.slice none 0 0) rfl
          go_upto_region 23 with fail
          clear xc zf
          replace kb := hide (show Ro (W3.setCell ⟨wr.heap.size, 3, none⟩ (.slice Q3 m3 C3)) (wr.heap.size) #[.slice T0 d D0, .slice Q1 m1 C1, .slice T2 N2 D2, .slice Q3 m3 C3, .slice none 0 0, .slice none 0 0, .slice none 0 0] 34 from by have := ro_set kb.out 3 (.slice Q3 m3 C3); simpa using this)
          replace HB := hide (bl_set (o := 3) HB.out (Nat.le_refl _) (.slice Q3 m3 C3))
          generalize (W3.setCell ⟨wr.heap.size, 3, none⟩ (.slice Q3 m3 C3)) = W4 at *
          have xc := ((hP.out.below HB.out).cell 4 (by omega)).trans (show _ = some (Value.slice Q4 m4 C4) from rfl)
          go_wp2_with fail
          refine (r17_.DecodeK Q4 m4 C4 c' (sec k a b c' d x y xs p 4) k _ _ rfl hkk.out (by have := hmm.out; have := hMn.out; omega) (by have := hmm.out; omega) (ow_slok (P4.out)).1 (ow_slok (P4.out)).2.1 (ow_slok (P4.out)).2.2 (P4.out.below HB.out).rd (sec_bytes k a b c' d x y hxB.out p 4)).mono ?_
          rintro e V4 ⟨T4, D4, rfl, R_, h1⟩
          have l17 := kb.out.lt
          replace kb := hide (kb.out.below h1)
          replace HB := hide (bel_next HB.out h1)
          clear h1 R_ l17
          obtain ⟨_, zf⟩ := ro_cf kb.out 4 (.slice none 0 0) rfl
          go_upto_region 24 with fail
          clear xc zf
          replace kb := hide (show Ro (V4.setCell ⟨wr.heap.size, 4, none⟩ (.slice T4 c' D4)) (wr.heap.size) #[.slice T0 d D0, .slice Q1 m1 C1, .slice T2 N2 D2, .slice Q3 m3 C3, .slice T4 c' D4, .slice none 0 0, .slice none 0 0] 34 from by have := ro_set kb.out 4 (.slice T4 c' D4); simpa using this)
          replace HB := hide (bl_set (o := 4) HB.out (Nat.le_refl _) (.slice T4 c' D4))
          generalize (V4.setCell ⟨wr.heap.size, 4, none⟩ (.slice T4 c' D4)) = W5 at *
          have xc := ((hP.out.below HB.out).cell 5 (by omega)).trans (show _ = some (Value.slice Q5 m5 C5) from rfl)
          go_wp2_with fail
          refine (U18 Q5 m5 C5 (sec k a b c' d x y xs p 5) _ (by have := hmm.out; have := hMn.out; omega) (P5.out.below HB.out).rd (sec_bytes k a b c' d x y hxB.out p 5).mem).mono ?_
          rintro e V5 ⟨F5, T5, N5, D5, hF5, rfl, R_, h1⟩
          replace hF5 := hide hF5
          have l17 := kb.out.lt
          replace kb := hide (kb.out.below h1)
          replace HB := hide (bel_next HB.out h1)
          clear h1 R_ l17
          obtain ⟨_, zf⟩ := ro_cf kb.out 5 (.slice none 0 0) rfl
          go_upto_region 26 with fail
          clear xc zf
          replace kb := hide (show Ro (V5.setCell ⟨wr.heap.size, 5, none⟩ (.slice T5 N5 D5)) (wr.heap.size) #[.slice T0 d D0, .slice Q1 m1 C1, .slice T2 N2 D2, .slice Q3 m3 C3, .slice T4 c' D4, .slice T5 N5 D5, .slice none 0 0] 34 from by have := ro_set kb.out 5 (.slice T5 N5 D5); simpa using this)
          replace HB := hide (bl_set (o := 5) HB.out (Nat.le_refl _) (.slice T5 N5 D5))
          generalize (V5.setCell ⟨wr.heap.size, 5, none⟩ (.slice T5 N5 D5)) = W6 at *
          have xc := ((hP.out.below HB.out).cell 6 (by omega)).trans (show _ = some (Value.slice Q6 m6 C6) from rfl)
          go_wp2_with fail
          refine (U18 Q6 m6 C6 (sec k a b c' d x y xs p 6) _ (by have := hmm.out; have := hMn.out; omega) (P6.out.below HB.out).rd (sec_bytes k a b c' d x y hxB.out p 6).mem).mono ?_
          rintro e V6 ⟨F6, T6, N6, D6, hF6, rfl, R_, h1⟩
          replace hF6 := hide hF6
          have l17 := kb.out.lt
          replace kb := hide (kb.out.below h1)
          replace HB := hide (bel_next HB.out h1)
          clear h1 R_ l17
          obtain ⟨_, zf⟩ := ro_cf kb.out 6 (.slice none 0 0) rfl
          go_upto_region 27 with fail
          clear xc zf
          replace kb := hide (show Ro (V6.setCell ⟨wr.heap.size, 6, none⟩ (.slice T6 N6 D6)) (wr.heap.size) #[.slice T0 d D0, .slice Q1 m1 C1, .slice T2 N2 D2, .slice Q3 m3 C3, .slice T4 c' D4, .slice T5 N5 D5, .slice T6 N6 D6] 34 from by have := ro_set kb.out 6 (.slice T6 N6 D6); simpa using this)
          replace HB := hide (bl_set (o := 6) HB.out (Nat.le_refl _) (.slice T6 N6 D6))
          generalize (V6.setCell ⟨wr.heap.size, 6, none⟩ (.slice T6 N6 D6)) = W7 at *
          replace hb := hide (bel_next hb.out HB.out)
          replace h8 := hide (h8.out.below HB.out)
          replace h9 := hide (h9.out.below HB.out)
          replace h10 := hide (h10.out.below HB.out)
          replace h13 := hide (h13.out.below HB.out)
          have hfl := hide (show flB k a b c' d x y xs p = false by unfold flB; rw [← hF2.out]; simp)
          go_upto_region 29 with fail
          have hz_r := hide h8.out.drew
          have hz_q := hide h9.out.drew
          refine wp_region_held_drew (S := fun w' => Hid (Ro w' (w.heap.size + 1 + 1 + 1 + 1) (#[.slice none 0 0, .slice none 0 0, .slice none 0 0, .slice none 0 0, .slice none 0 0, .slice none 0 0, .slice none 0 0]) 34) ∧ Hid (Ro w' (g13) (#[.slice A n c, .int .i64 (pe : Int), .int .i64 0, .int .i64 0]) 25) ∧ Hid (Below w.heap.size w w')) (by kernel_rfl) (⟨hide h10.out.drew, hide h13.out.drew, hide (bl_drew hb.out)⟩) (fun hHeld => ?_)
          generalize W7.drew = u0 at *
          refine wpAnyH_takeD (i := 0) (d := (some 122)) rfl rfl (by kernel_rfl) (by kernel_rfl) (by kernel_rfl) (fun _ _ _ h => h) (yieldsIf_load_row (by rfl) 34 _ rfl (w.heap.size + 1 + 1 + 1 + 1) rfl 34 #[.slice none 0 0, .slice none 0 0, .slice none 0 0, .slice none 0 0, .slice none 0 0, .slice none 0 0, .slice none 0 0] _ (fun w hw => hw.1.out) Tryz.underlying34 rfl (by kernel_rfl)) (by assumption) ?_
          try simp only [Act.put, List.setIfInBounds_toArray, List.set_cons_zero, List.set_cons_succ]
          refine wpAnyH_takeD (i := 1) (d := (some 123)) rfl rfl (by kernel_rfl) (by kernel_rfl) (by kernel_rfl) (fun _ _ _ h => h) (yieldsIf_load_row (by rfl) 25 _ rfl (g13) rfl 25 #[.slice A n c, .int .i64 (pe : Int), .int .i64 0, .int .i64 0] _ (fun w hw => hw.2.1.out) Tryz.underlying25 rfl (by kernel_rfl)) (by assumption) ?_
          try simp only [Act.put, List.setIfInBounds_toArray, List.set_cons_zero, List.set_cons_succ]
          refine wpAnyH_takeD (i := 2) (d := (some 124)) (v := ?_) rfl rfl (by kernel_rfl) (by kernel_rfl) (by kernel_rfl) (fun _ _ _ h => h) (Or.inl ⟨by rfl, ?_⟩) (by assumption) ?_
          rotate_left
          · ((intro w hSw; go_simp) <;> with_reducible rfl)
          try simp only [Act.put, List.setIfInBounds_toArray, List.set_cons_zero, List.set_cons_succ]
          refine wpAnyH_ready (rs := [3]) (by kernel_rfl) (by simp) ?_
          refine AllReadyH.cons rfl (fun K hK => ?_) (AllReadyH.nil)
          · go_simp
            refine (Fl.out _).mono ?_
            rintro e v1 ⟨rfl, h1'⟩
            replace hz_r := hide (hz_r.out.below h1')
            replace hz_q := hide (hz_q.out.below h1')
            refine hK.out _ _ (⟨hide (hHeld.1.out.below h1'), hide (hHeld.2.1.out.below h1'), hide (bel_next hHeld.2.2.out h1')⟩) (fun hHeld => ?_)
            clear hK K h1'
            try simp only [Act.put, List.setIfInBounds_toArray, List.set_cons_zero, List.set_cons_succ]
            refine wpAnyH_ready (rs := [4]) (by kernel_rfl) (by simp) ?_
            refine AllReadyH.cons rfl (fun K hK => ?_) (AllReadyH.nil)
            · obtain ⟨y0, z0⟩ := ro_cf hz_r.out 0 _ rfl; obtain ⟨y1, z1⟩ := ro_cf hz_r.out 1 _ rfl; obtain ⟨y2, z2⟩ := ro_cf hz_r.out 2 _ rfl; obtain ⟨y3, z3⟩ := ro_cf hz_r.out 3 _ rfl; obtain ⟨y4, z4⟩ := ro_cf hz_r.out 4 _ rfl; obtain ⟨y5, z5⟩ := ro_cf hz_r.out 5 _ rfl; obtain ⟨y6, z6⟩ := ro_cf hz_r.out 6 _ rfl
              go_simp
              refine hK.out _ _ (⟨hide (ro_away7 (g' := w.heap.size + 1 + 1) hHeld.1.out (by omega)), hide (ro_away7 (g' := w.heap.size + 1 + 1) hHeld.2.1.out (by omega)), hide (bl_setx7 (g := w.heap.size + 1 + 1) hHeld.2.2.out (by omega))⟩) (fun hHeld => ?_)
              clear hK K y0 z0 y1 z1 y2 z2 y3 z3 y4 z4 y5 z5 y6 z6
              replace hz_r := hide (ro_set7' (x0 := .slice none 0 0) (x1 := .slice none 0 0) (x2 := .slice none 0 0) (x3 := .slice none 0 0) (x4 := .slice none 0 0) (x5 := .slice none 0 0) (x6 := .slice none 0 0) hz_r.out)
              replace hz_q := hide (ro_away7 (g' := w.heap.size + 1 + 1) (x0 := .slice none 0 0) (x1 := .slice none 0 0) (x2 := .slice none 0 0) (x3 := .slice none 0 0) (x4 := .slice none 0 0) (x5 := .slice none 0 0) (x6 := .slice none 0 0) hz_q.out (by omega))
              generalize (((((((v1.setCell ⟨w.heap.size + 1 + 1, 0, none⟩ (.slice none 0 0)).setCell ⟨w.heap.size + 1 + 1, 1, none⟩ (.slice none 0 0)).setCell ⟨w.heap.size + 1 + 1, 2, none⟩ (.slice none 0 0)).setCell ⟨w.heap.size + 1 + 1, 3, none⟩ (.slice none 0 0)).setCell ⟨w.heap.size + 1 + 1, 4, none⟩ (.slice none 0 0)).setCell ⟨w.heap.size + 1 + 1, 5, none⟩ (.slice none 0 0)).setCell ⟨w.heap.size + 1 + 1, 6, none⟩ (.slice none 0 0)) = v2 at *
              try simp only [Act.put, List.setIfInBounds_toArray, List.set_cons_zero, List.set_cons_succ]
              refine wpAnyH_ready (rs := [5]) (by kernel_rfl) (by simp) ?_
              refine AllReadyH.cons rfl (fun K hK => ?_) (AllReadyH.nil)
              · obtain ⟨y0, z0⟩ := ro_cf hz_q.out 0 _ rfl; obtain ⟨y1, z1⟩ := ro_cf hz_q.out 1 _ rfl; obtain ⟨y2, z2⟩ := ro_cf hz_q.out 2 _ rfl; obtain ⟨y3, z3⟩ := ro_cf hz_q.out 3 _ rfl
                go_simp
                refine hK.out _ _ (⟨hide (ro_away4 (g' := w.heap.size + 1 + 1 + 1) hHeld.1.out (by omega)), hide (ro_away4 (g' := w.heap.size + 1 + 1 + 1) hHeld.2.1.out (by omega)), hide (bl_setx4 (g := w.heap.size + 1 + 1 + 1) hHeld.2.2.out (by omega))⟩) (fun hHeld => ?_)
                clear hK K y0 z0 y1 z1 y2 z2 y3 z3
                replace hz_q := hide (ro_set4' (x0 := .slice A n c) (x1 := .int .i64 (pe : Int)) (x2 := .int .i64 10) (x3 := .int .i64 at_) hz_q.out)
                replace hz_r := hide (ro_away4 (g' := w.heap.size + 1 + 1 + 1) (x0 := .slice A n c) (x1 := .int .i64 (pe : Int)) (x2 := .int .i64 10) (x3 := .int .i64 at_) hz_r.out (by omega))
                generalize ((((v2.setCell ⟨w.heap.size + 1 + 1 + 1, 0, none⟩ (.slice A n c)).setCell ⟨w.heap.size + 1 + 1 + 1, 1, none⟩ (.int .i64 (pe : Int))).setCell ⟨w.heap.size + 1 + 1 + 1, 2, none⟩ (.int .i64 10)).setCell ⟨w.heap.size + 1 + 1 + 1, 3, none⟩ (.int .i64 at_)) = v3 at *
                try simp only [Act.put, List.setIfInBounds_toArray, List.set_cons_zero, List.set_cons_succ]
                refine wpAnyH_done (by kernel_rfl) ?_ _
                obtain ⟨r0, _⟩ := ro_cf hz_r.out 0 (.slice none 0 0) rfl
                obtain ⟨r1, _⟩ := ro_cf hz_r.out 1 (.slice none 0 0) rfl
                obtain ⟨r2, _⟩ := ro_cf hz_r.out 2 (.slice none 0 0) rfl
                obtain ⟨r3, _⟩ := ro_cf hz_r.out 3 (.slice none 0 0) rfl
                obtain ⟨r4, _⟩ := ro_cf hz_r.out 4 (.slice none 0 0) rfl
                obtain ⟨r5, _⟩ := ro_cf hz_r.out 5 (.slice none 0 0) rfl
                obtain ⟨r6, _⟩ := ro_cf hz_r.out 6 (.slice none 0 0) rfl
                obtain ⟨q0, _⟩ := ro_cf hz_q.out 0 (.slice A n c) rfl
                obtain ⟨q1, _⟩ := ro_cf hz_q.out 1 (.int .i64 (pe : Int)) rfl
                obtain ⟨q2, _⟩ := ro_cf hz_q.out 2 (.int .i64 10) rfl
                obtain ⟨q3, _⟩ := ro_cf hz_q.out 3 (.int .i64 at_) rfl
                go_wp2
                exact bodyPost_ret (v := .tuple #[bkV BkS.zero, cu A n c (pe : Int) 10 at_]) (by simp [results, Tryz.results9, go_sem, BkS.zero, r0, r1, r2, r3, r4, r5, r6, q0, q1, q2, q3]) rfl ⟨.inr ⟨hfl.out, by rw [← hpe.out]⟩, hHeld.2.2.out⟩
        · obtain ⟨hN, R_⟩ := R_ rfl
          replace hN := hN.symm
          subst hN
          have R2 := hide (R_.mono (show wr.heap.size + 1 ≤ _ from l17))
          clear h1 R_ l17
          obtain ⟨_, zf⟩ := ro_cf kb.out 2 (.slice none 0 0) rfl
          go_upto_region 22 with fail
          clear xc zf
          replace kb := hide (show Ro (V2.setCell ⟨wr.heap.size, 2, none⟩ (.slice T2 x D2)) (wr.heap.size) #[.slice T0 d D0, .slice Q1 m1 C1, .slice T2 x D2, .slice none 0 0, .slice none 0 0, .slice none 0 0, .slice none 0 0] 34 from by have := ro_set kb.out 2 (.slice T2 x D2); simpa using this)
          replace HB := hide (bl_set (o := 2) HB.out (Nat.le_refl _) (.slice T2 x D2))
          replace R0 := hide (R0.out.setLow 2 (Nat.lt_succ_self _) (.slice T2 x D2))
          replace R2 := hide (R2.out.setLow 2 (Nat.lt_succ_self _) (.slice T2 x D2))
          generalize (V2.setCell ⟨wr.heap.size, 2, none⟩ (.slice T2 x D2)) = W3 at *
          have xc := ((hP.out.below HB.out).cell 3 (by omega)).trans (show _ = some (Value.slice Q3 m3 C3) from rfl)
          obtain ⟨_, zf⟩ := ro_cf kb.out 3 (.slice none 0 0) rfl
          go_upto_region 23 with fail
          clear xc zf
          replace kb := hide (show Ro (W3.setCell ⟨wr.heap.size, 3, none⟩ (.slice Q3 m3 C3)) (wr.heap.size) #[.slice T0 d D0, .slice Q1 m1 C1, .slice T2 x D2, .slice Q3 m3 C3, .slice none 0 0, .slice none 0 0, .slice none 0 0] 34 from by have := ro_set kb.out 3 (.slice Q3 m3 C3); simpa using this)
          replace HB := hide (bl_set (o := 3) HB.out (Nat.le_refl _) (.slice Q3 m3 C3))
          replace R0 := hide (R0.out.setLow 3 (Nat.lt_succ_self _) (.slice Q3 m3 C3))
          replace R2 := hide (R2.out.setLow 3 (Nat.lt_succ_self _) (.slice Q3 m3 C3))
          generalize (W3.setCell ⟨wr.heap.size, 3, none⟩ (.slice Q3 m3 C3)) = W4 at *
          have xc := ((hP.out.below HB.out).cell 4 (by omega)).trans (show _ = some (Value.slice Q4 m4 C4) from rfl)
          go_wp2_with fail
          refine (r17_.DecodeK Q4 m4 C4 c' (sec k a b c' d x y xs p 4) k _ _ rfl hkk.out (by have := hmm.out; have := hMn.out; omega) (by have := hmm.out; omega) (ow_slok (P4.out)).1 (ow_slok (P4.out)).2.1 (ow_slok (P4.out)).2.2 (P4.out.below HB.out).rd (sec_bytes k a b c' d x y hxB.out p 4)).mono ?_
          rintro e V4 ⟨T4, D4, rfl, R_, h1⟩
          have l17 := kb.out.lt
          have R4 := hide (R_.mono (show wr.heap.size + 1 ≤ _ from l17))
          replace kb := hide (kb.out.below h1)
          replace HB := hide (bel_next HB.out h1)
          replace R0 := hide (R0.out.below h1)
          replace R2 := hide (R2.out.below h1)
          clear h1 R_ l17
          obtain ⟨_, zf⟩ := ro_cf kb.out 4 (.slice none 0 0) rfl
          go_upto_region 24 with fail
          clear xc zf
          replace kb := hide (show Ro (V4.setCell ⟨wr.heap.size, 4, none⟩ (.slice T4 c' D4)) (wr.heap.size) #[.slice T0 d D0, .slice Q1 m1 C1, .slice T2 x D2, .slice Q3 m3 C3, .slice T4 c' D4, .slice none 0 0, .slice none 0 0] 34 from by have := ro_set kb.out 4 (.slice T4 c' D4); simpa using this)
          replace HB := hide (bl_set (o := 4) HB.out (Nat.le_refl _) (.slice T4 c' D4))
          replace R0 := hide (R0.out.setLow 4 (Nat.lt_succ_self _) (.slice T4 c' D4))
          replace R2 := hide (R2.out.setLow 4 (Nat.lt_succ_self _) (.slice T4 c' D4))
          replace R4 := hide (R4.out.setLow 4 (Nat.lt_succ_self _) (.slice T4 c' D4))
          generalize (V4.setCell ⟨wr.heap.size, 4, none⟩ (.slice T4 c' D4)) = W5 at *
          have xc := ((hP.out.below HB.out).cell 5 (by omega)).trans (show _ = some (Value.slice Q5 m5 C5) from rfl)
          go_wp2_with fail
          refine (U18 Q5 m5 C5 (sec k a b c' d x y xs p 5) _ (by have := hmm.out; have := hMn.out; omega) (P5.out.below HB.out).rd (sec_bytes k a b c' d x y hxB.out p 5).mem).mono ?_
          rintro e V5 ⟨F5, T5, N5, D5, hF5, rfl, R_, h1⟩
          replace hF5 := hide hF5
          have l17 := kb.out.lt
          replace kb := hide (kb.out.below h1)
          replace HB := hide (bel_next HB.out h1)
          replace R0 := hide (R0.out.below h1)
          replace R2 := hide (R2.out.below h1)
          replace R4 := hide (R4.out.below h1)
          cases F5
          · clear h1 R_ l17 R0 R2 R4
            obtain ⟨_, zf⟩ := ro_cf kb.out 5 (.slice none 0 0) rfl
            go_upto_region 26 with fail
            clear xc zf
            replace kb := hide (show Ro (V5.setCell ⟨wr.heap.size, 5, none⟩ (.slice T5 N5 D5)) (wr.heap.size) #[.slice T0 d D0, .slice Q1 m1 C1, .slice T2 x D2, .slice Q3 m3 C3, .slice T4 c' D4, .slice T5 N5 D5, .slice none 0 0] 34 from by have := ro_set kb.out 5 (.slice T5 N5 D5); simpa using this)
            replace HB := hide (bl_set (o := 5) HB.out (Nat.le_refl _) (.slice T5 N5 D5))
            generalize (V5.setCell ⟨wr.heap.size, 5, none⟩ (.slice T5 N5 D5)) = W6 at *
            have xc := ((hP.out.below HB.out).cell 6 (by omega)).trans (show _ = some (Value.slice Q6 m6 C6) from rfl)
            go_wp2_with fail
            refine (U18 Q6 m6 C6 (sec k a b c' d x y xs p 6) _ (by have := hmm.out; have := hMn.out; omega) (P6.out.below HB.out).rd (sec_bytes k a b c' d x y hxB.out p 6).mem).mono ?_
            rintro e V6 ⟨F6, T6, N6, D6, hF6, rfl, R_, h1⟩
            replace hF6 := hide hF6
            have l17 := kb.out.lt
            replace kb := hide (kb.out.below h1)
            replace HB := hide (bel_next HB.out h1)
            clear h1 R_ l17
            obtain ⟨_, zf⟩ := ro_cf kb.out 6 (.slice none 0 0) rfl
            go_upto_region 27 with fail
            clear xc zf
            replace kb := hide (show Ro (V6.setCell ⟨wr.heap.size, 6, none⟩ (.slice T6 N6 D6)) (wr.heap.size) #[.slice T0 d D0, .slice Q1 m1 C1, .slice T2 x D2, .slice Q3 m3 C3, .slice T4 c' D4, .slice T5 N5 D5, .slice T6 N6 D6] 34 from by have := ro_set kb.out 6 (.slice T6 N6 D6); simpa using this)
            replace HB := hide (bl_set (o := 6) HB.out (Nat.le_refl _) (.slice T6 N6 D6))
            generalize (V6.setCell ⟨wr.heap.size, 6, none⟩ (.slice T6 N6 D6)) = W7 at *
            replace hb := hide (bel_next hb.out HB.out)
            replace h8 := hide (h8.out.below HB.out)
            replace h9 := hide (h9.out.below HB.out)
            replace h10 := hide (h10.out.below HB.out)
            replace h13 := hide (h13.out.below HB.out)
            have hfl := hide (show flB k a b c' d x y xs p = false by unfold flB; rw [← hF5.out]; simp)
            go_upto_region 29 with fail
            have hz_r := hide h8.out.drew
            have hz_q := hide h9.out.drew
            refine wp_region_held_drew (S := fun w' => Hid (Ro w' (w.heap.size + 1 + 1 + 1 + 1) (#[.slice none 0 0, .slice none 0 0, .slice none 0 0, .slice none 0 0, .slice none 0 0, .slice none 0 0, .slice none 0 0]) 34) ∧ Hid (Ro w' (g13) (#[.slice A n c, .int .i64 (pe : Int), .int .i64 0, .int .i64 0]) 25) ∧ Hid (Below w.heap.size w w')) (by kernel_rfl) (⟨hide h10.out.drew, hide h13.out.drew, hide (bl_drew hb.out)⟩) (fun hHeld => ?_)
            generalize W7.drew = u0 at *
            refine wpAnyH_takeD (i := 0) (d := (some 122)) rfl rfl (by kernel_rfl) (by kernel_rfl) (by kernel_rfl) (fun _ _ _ h => h) (yieldsIf_load_row (by rfl) 34 _ rfl (w.heap.size + 1 + 1 + 1 + 1) rfl 34 #[.slice none 0 0, .slice none 0 0, .slice none 0 0, .slice none 0 0, .slice none 0 0, .slice none 0 0, .slice none 0 0] _ (fun w hw => hw.1.out) Tryz.underlying34 rfl (by kernel_rfl)) (by assumption) ?_
            try simp only [Act.put, List.setIfInBounds_toArray, List.set_cons_zero, List.set_cons_succ]
            refine wpAnyH_takeD (i := 1) (d := (some 123)) rfl rfl (by kernel_rfl) (by kernel_rfl) (by kernel_rfl) (fun _ _ _ h => h) (yieldsIf_load_row (by rfl) 25 _ rfl (g13) rfl 25 #[.slice A n c, .int .i64 (pe : Int), .int .i64 0, .int .i64 0] _ (fun w hw => hw.2.1.out) Tryz.underlying25 rfl (by kernel_rfl)) (by assumption) ?_
            try simp only [Act.put, List.setIfInBounds_toArray, List.set_cons_zero, List.set_cons_succ]
            refine wpAnyH_takeD (i := 2) (d := (some 124)) (v := ?_) rfl rfl (by kernel_rfl) (by kernel_rfl) (by kernel_rfl) (fun _ _ _ h => h) (Or.inl ⟨by rfl, ?_⟩) (by assumption) ?_
            rotate_left
            · ((intro w hSw; go_simp) <;> with_reducible rfl)
            try simp only [Act.put, List.setIfInBounds_toArray, List.set_cons_zero, List.set_cons_succ]
            refine wpAnyH_ready (rs := [3]) (by kernel_rfl) (by simp) ?_
            refine AllReadyH.cons rfl (fun K hK => ?_) (AllReadyH.nil)
            · go_simp
              refine (Fl.out _).mono ?_
              rintro e v1 ⟨rfl, h1'⟩
              replace hz_r := hide (hz_r.out.below h1')
              replace hz_q := hide (hz_q.out.below h1')
              refine hK.out _ _ (⟨hide (hHeld.1.out.below h1'), hide (hHeld.2.1.out.below h1'), hide (bel_next hHeld.2.2.out h1')⟩) (fun hHeld => ?_)
              clear hK K h1'
              try simp only [Act.put, List.setIfInBounds_toArray, List.set_cons_zero, List.set_cons_succ]
              refine wpAnyH_ready (rs := [4]) (by kernel_rfl) (by simp) ?_
              refine AllReadyH.cons rfl (fun K hK => ?_) (AllReadyH.nil)
              · obtain ⟨y0, z0⟩ := ro_cf hz_r.out 0 _ rfl; obtain ⟨y1, z1⟩ := ro_cf hz_r.out 1 _ rfl; obtain ⟨y2, z2⟩ := ro_cf hz_r.out 2 _ rfl; obtain ⟨y3, z3⟩ := ro_cf hz_r.out 3 _ rfl; obtain ⟨y4, z4⟩ := ro_cf hz_r.out 4 _ rfl; obtain ⟨y5, z5⟩ := ro_cf hz_r.out 5 _ rfl; obtain ⟨y6, z6⟩ := ro_cf hz_r.out 6 _ rfl
                go_simp
                refine hK.out _ _ (⟨hide (ro_away7 (g' := w.heap.size + 1 + 1) hHeld.1.out (by omega)), hide (ro_away7 (g' := w.heap.size + 1 + 1) hHeld.2.1.out (by omega)), hide (bl_setx7 (g := w.heap.size + 1 + 1) hHeld.2.2.out (by omega))⟩) (fun hHeld => ?_)
                clear hK K y0 z0 y1 z1 y2 z2 y3 z3 y4 z4 y5 z5 y6 z6
                replace hz_r := hide (ro_set7' (x0 := .slice none 0 0) (x1 := .slice none 0 0) (x2 := .slice none 0 0) (x3 := .slice none 0 0) (x4 := .slice none 0 0) (x5 := .slice none 0 0) (x6 := .slice none 0 0) hz_r.out)
                replace hz_q := hide (ro_away7 (g' := w.heap.size + 1 + 1) (x0 := .slice none 0 0) (x1 := .slice none 0 0) (x2 := .slice none 0 0) (x3 := .slice none 0 0) (x4 := .slice none 0 0) (x5 := .slice none 0 0) (x6 := .slice none 0 0) hz_q.out (by omega))
                generalize (((((((v1.setCell ⟨w.heap.size + 1 + 1, 0, none⟩ (.slice none 0 0)).setCell ⟨w.heap.size + 1 + 1, 1, none⟩ (.slice none 0 0)).setCell ⟨w.heap.size + 1 + 1, 2, none⟩ (.slice none 0 0)).setCell ⟨w.heap.size + 1 + 1, 3, none⟩ (.slice none 0 0)).setCell ⟨w.heap.size + 1 + 1, 4, none⟩ (.slice none 0 0)).setCell ⟨w.heap.size + 1 + 1, 5, none⟩ (.slice none 0 0)).setCell ⟨w.heap.size + 1 + 1, 6, none⟩ (.slice none 0 0)) = v2 at *
                try simp only [Act.put, List.setIfInBounds_toArray, List.set_cons_zero, List.set_cons_succ]
                refine wpAnyH_ready (rs := [5]) (by kernel_rfl) (by simp) ?_
                refine AllReadyH.cons rfl (fun K hK => ?_) (AllReadyH.nil)
                · obtain ⟨y0, z0⟩ := ro_cf hz_q.out 0 _ rfl; obtain ⟨y1, z1⟩ := ro_cf hz_q.out 1 _ rfl; obtain ⟨y2, z2⟩ := ro_cf hz_q.out 2 _ rfl; obtain ⟨y3, z3⟩ := ro_cf hz_q.out 3 _ rfl
                  go_simp
                  refine hK.out _ _ (⟨hide (ro_away4 (g' := w.heap.size + 1 + 1 + 1) hHeld.1.out (by omega)), hide (ro_away4 (g' := w.heap.size + 1 + 1 + 1) hHeld.2.1.out (by omega)), hide (bl_setx4 (g := w.heap.size + 1 + 1 + 1) hHeld.2.2.out (by omega))⟩) (fun hHeld => ?_)
                  clear hK K y0 z0 y1 z1 y2 z2 y3 z3
                  replace hz_q := hide (ro_set4' (x0 := .slice A n c) (x1 := .int .i64 (pe : Int)) (x2 := .int .i64 10) (x3 := .int .i64 at_) hz_q.out)
                  replace hz_r := hide (ro_away4 (g' := w.heap.size + 1 + 1 + 1) (x0 := .slice A n c) (x1 := .int .i64 (pe : Int)) (x2 := .int .i64 10) (x3 := .int .i64 at_) hz_r.out (by omega))
                  generalize ((((v2.setCell ⟨w.heap.size + 1 + 1 + 1, 0, none⟩ (.slice A n c)).setCell ⟨w.heap.size + 1 + 1 + 1, 1, none⟩ (.int .i64 (pe : Int))).setCell ⟨w.heap.size + 1 + 1 + 1, 2, none⟩ (.int .i64 10)).setCell ⟨w.heap.size + 1 + 1 + 1, 3, none⟩ (.int .i64 at_)) = v3 at *
                  try simp only [Act.put, List.setIfInBounds_toArray, List.set_cons_zero, List.set_cons_succ]
                  refine wpAnyH_done (by kernel_rfl) ?_ _
                  obtain ⟨r0, _⟩ := ro_cf hz_r.out 0 (.slice none 0 0) rfl
                  obtain ⟨r1, _⟩ := ro_cf hz_r.out 1 (.slice none 0 0) rfl
                  obtain ⟨r2, _⟩ := ro_cf hz_r.out 2 (.slice none 0 0) rfl
                  obtain ⟨r3, _⟩ := ro_cf hz_r.out 3 (.slice none 0 0) rfl
                  obtain ⟨r4, _⟩ := ro_cf hz_r.out 4 (.slice none 0 0) rfl
                  obtain ⟨r5, _⟩ := ro_cf hz_r.out 5 (.slice none 0 0) rfl
                  obtain ⟨r6, _⟩ := ro_cf hz_r.out 6 (.slice none 0 0) rfl
                  obtain ⟨q0, _⟩ := ro_cf hz_q.out 0 (.slice A n c) rfl
                  obtain ⟨q1, _⟩ := ro_cf hz_q.out 1 (.int .i64 (pe : Int)) rfl
                  obtain ⟨q2, _⟩ := ro_cf hz_q.out 2 (.int .i64 10) rfl
                  obtain ⟨q3, _⟩ := ro_cf hz_q.out 3 (.int .i64 at_) rfl
                  go_wp2
                  exact bodyPost_ret (v := .tuple #[bkV BkS.zero, cu A n c (pe : Int) 10 at_]) (by simp [results, Tryz.results9, go_sem, BkS.zero, r0, r1, r2, r3, r4, r5, r6, q0, q1, q2, q3]) rfl ⟨.inr ⟨hfl.out, by rw [← hpe.out]⟩, hHeld.2.2.out⟩
          · obtain ⟨hN, R_⟩ := R_ rfl
            replace hN := hN.symm
            subst hN
            have R5 := hide (R_.mono (show wr.heap.size + 1 ≤ _ from l17))
            clear h1 R_ l17
            obtain ⟨_, zf⟩ := ro_cf kb.out 5 (.slice none 0 0) rfl
            go_upto_region 26 with fail
            clear xc zf
            replace kb := hide (show Ro (V5.setCell ⟨wr.heap.size, 5, none⟩ (.slice T5 m5 D5)) (wr.heap.size) #[.slice T0 d D0, .slice Q1 m1 C1, .slice T2 x D2, .slice Q3 m3 C3, .slice T4 c' D4, .slice T5 m5 D5, .slice none 0 0] 34 from by have := ro_set kb.out 5 (.slice T5 m5 D5); simpa using this)
            replace HB := hide (bl_set (o := 5) HB.out (Nat.le_refl _) (.slice T5 m5 D5))
            replace R0 := hide (R0.out.setLow 5 (Nat.lt_succ_self _) (.slice T5 m5 D5))
            replace R2 := hide (R2.out.setLow 5 (Nat.lt_succ_self _) (.slice T5 m5 D5))
            replace R4 := hide (R4.out.setLow 5 (Nat.lt_succ_self _) (.slice T5 m5 D5))
            replace R5 := hide (R5.out.setLow 5 (Nat.lt_succ_self _) (.slice T5 m5 D5))
            generalize (V5.setCell ⟨wr.heap.size, 5, none⟩ (.slice T5 m5 D5)) = W6 at *
            have xc := ((hP.out.below HB.out).cell 6 (by omega)).trans (show _ = some (Value.slice Q6 m6 C6) from rfl)
            go_wp2_with fail
            refine (U18 Q6 m6 C6 (sec k a b c' d x y xs p 6) _ (by have := hmm.out; have := hMn.out; omega) (P6.out.below HB.out).rd (sec_bytes k a b c' d x y hxB.out p 6).mem).mono ?_
            rintro e V6 ⟨F6, T6, N6, D6, hF6, rfl, R_, h1⟩
            replace hF6 := hide hF6
            have l17 := kb.out.lt
            replace kb := hide (kb.out.below h1)
            replace HB := hide (bel_next HB.out h1)
            replace R0 := hide (R0.out.below h1)
            replace R2 := hide (R2.out.below h1)
            replace R4 := hide (R4.out.below h1)
            replace R5 := hide (R5.out.below h1)
            cases F6
            · clear h1 R_ l17 R0 R2 R4 R5
              obtain ⟨_, zf⟩ := ro_cf kb.out 6 (.slice none 0 0) rfl
              go_upto_region 27 with fail
              clear xc zf
              replace kb := hide (show Ro (V6.setCell ⟨wr.heap.size, 6, none⟩ (.slice T6 N6 D6)) (wr.heap.size) #[.slice T0 d D0, .slice Q1 m1 C1, .slice T2 x D2, .slice Q3 m3 C3, .slice T4 c' D4, .slice T5 m5 D5, .slice T6 N6 D6] 34 from by have := ro_set kb.out 6 (.slice T6 N6 D6); simpa using this)
              replace HB := hide (bl_set (o := 6) HB.out (Nat.le_refl _) (.slice T6 N6 D6))
              generalize (V6.setCell ⟨wr.heap.size, 6, none⟩ (.slice T6 N6 D6)) = W7 at *
              replace hb := hide (bel_next hb.out HB.out)
              replace h8 := hide (h8.out.below HB.out)
              replace h9 := hide (h9.out.below HB.out)
              replace h10 := hide (h10.out.below HB.out)
              replace h13 := hide (h13.out.below HB.out)
              have hfl := hide (show flB k a b c' d x y xs p = false by unfold flB; rw [← hF6.out]; simp)
              go_upto_region 29 with fail
              have hz_r := hide h8.out.drew
              have hz_q := hide h9.out.drew
              refine wp_region_held_drew (S := fun w' => Hid (Ro w' (w.heap.size + 1 + 1 + 1 + 1) (#[.slice none 0 0, .slice none 0 0, .slice none 0 0, .slice none 0 0, .slice none 0 0, .slice none 0 0, .slice none 0 0]) 34) ∧ Hid (Ro w' (g13) (#[.slice A n c, .int .i64 (pe : Int), .int .i64 0, .int .i64 0]) 25) ∧ Hid (Below w.heap.size w w')) (by kernel_rfl) (⟨hide h10.out.drew, hide h13.out.drew, hide (bl_drew hb.out)⟩) (fun hHeld => ?_)
              generalize W7.drew = u0 at *
              refine wpAnyH_takeD (i := 0) (d := (some 122)) rfl rfl (by kernel_rfl) (by kernel_rfl) (by kernel_rfl) (fun _ _ _ h => h) (yieldsIf_load_row (by rfl) 34 _ rfl (w.heap.size + 1 + 1 + 1 + 1) rfl 34 #[.slice none 0 0, .slice none 0 0, .slice none 0 0, .slice none 0 0, .slice none 0 0, .slice none 0 0, .slice none 0 0] _ (fun w hw => hw.1.out) Tryz.underlying34 rfl (by kernel_rfl)) (by assumption) ?_
              try simp only [Act.put, List.setIfInBounds_toArray, List.set_cons_zero, List.set_cons_succ]
              refine wpAnyH_takeD (i := 1) (d := (some 123)) rfl rfl (by kernel_rfl) (by kernel_rfl) (by kernel_rfl) (fun _ _ _ h => h) (yieldsIf_load_row (by rfl) 25 _ rfl (g13) rfl 25 #[.slice A n c, .int .i64 (pe : Int), .int .i64 0, .int .i64 0] _ (fun w hw => hw.2.1.out) Tryz.underlying25 rfl (by kernel_rfl)) (by assumption) ?_
              try simp only [Act.put, List.setIfInBounds_toArray, List.set_cons_zero, List.set_cons_succ]
              refine wpAnyH_takeD (i := 2) (d := (some 124)) (v := ?_) rfl rfl (by kernel_rfl) (by kernel_rfl) (by kernel_rfl) (fun _ _ _ h => h) (Or.inl ⟨by rfl, ?_⟩) (by assumption) ?_
              rotate_left
              · ((intro w hSw; go_simp) <;> with_reducible rfl)
              try simp only [Act.put, List.setIfInBounds_toArray, List.set_cons_zero, List.set_cons_succ]
              refine wpAnyH_ready (rs := [3]) (by kernel_rfl) (by simp) ?_
              refine AllReadyH.cons rfl (fun K hK => ?_) (AllReadyH.nil)
              · go_simp
                refine (Fl.out _).mono ?_
                rintro e v1 ⟨rfl, h1'⟩
                replace hz_r := hide (hz_r.out.below h1')
                replace hz_q := hide (hz_q.out.below h1')
                refine hK.out _ _ (⟨hide (hHeld.1.out.below h1'), hide (hHeld.2.1.out.below h1'), hide (bel_next hHeld.2.2.out h1')⟩) (fun hHeld => ?_)
                clear hK K h1'
                try simp only [Act.put, List.setIfInBounds_toArray, List.set_cons_zero, List.set_cons_succ]
                refine wpAnyH_ready (rs := [4]) (by kernel_rfl) (by simp) ?_
                refine AllReadyH.cons rfl (fun K hK => ?_) (AllReadyH.nil)
                · obtain ⟨y0, z0⟩ := ro_cf hz_r.out 0 _ rfl; obtain ⟨y1, z1⟩ := ro_cf hz_r.out 1 _ rfl; obtain ⟨y2, z2⟩ := ro_cf hz_r.out 2 _ rfl; obtain ⟨y3, z3⟩ := ro_cf hz_r.out 3 _ rfl; obtain ⟨y4, z4⟩ := ro_cf hz_r.out 4 _ rfl; obtain ⟨y5, z5⟩ := ro_cf hz_r.out 5 _ rfl; obtain ⟨y6, z6⟩ := ro_cf hz_r.out 6 _ rfl
                  go_simp
                  refine hK.out _ _ (⟨hide (ro_away7 (g' := w.heap.size + 1 + 1) hHeld.1.out (by omega)), hide (ro_away7 (g' := w.heap.size + 1 + 1) hHeld.2.1.out (by omega)), hide (bl_setx7 (g := w.heap.size + 1 + 1) hHeld.2.2.out (by omega))⟩) (fun hHeld => ?_)
                  clear hK K y0 z0 y1 z1 y2 z2 y3 z3 y4 z4 y5 z5 y6 z6
                  replace hz_r := hide (ro_set7' (x0 := .slice none 0 0) (x1 := .slice none 0 0) (x2 := .slice none 0 0) (x3 := .slice none 0 0) (x4 := .slice none 0 0) (x5 := .slice none 0 0) (x6 := .slice none 0 0) hz_r.out)
                  replace hz_q := hide (ro_away7 (g' := w.heap.size + 1 + 1) (x0 := .slice none 0 0) (x1 := .slice none 0 0) (x2 := .slice none 0 0) (x3 := .slice none 0 0) (x4 := .slice none 0 0) (x5 := .slice none 0 0) (x6 := .slice none 0 0) hz_q.out (by omega))
                  generalize (((((((v1.setCell ⟨w.heap.size + 1 + 1, 0, none⟩ (.slice none 0 0)).setCell ⟨w.heap.size + 1 + 1, 1, none⟩ (.slice none 0 0)).setCell ⟨w.heap.size + 1 + 1, 2, none⟩ (.slice none 0 0)).setCell ⟨w.heap.size + 1 + 1, 3, none⟩ (.slice none 0 0)).setCell ⟨w.heap.size + 1 + 1, 4, none⟩ (.slice none 0 0)).setCell ⟨w.heap.size + 1 + 1, 5, none⟩ (.slice none 0 0)).setCell ⟨w.heap.size + 1 + 1, 6, none⟩ (.slice none 0 0)) = v2 at *
                  try simp only [Act.put, List.setIfInBounds_toArray, List.set_cons_zero, List.set_cons_succ]
                  refine wpAnyH_ready (rs := [5]) (by kernel_rfl) (by simp) ?_
                  refine AllReadyH.cons rfl (fun K hK => ?_) (AllReadyH.nil)
                  · obtain ⟨y0, z0⟩ := ro_cf hz_q.out 0 _ rfl; obtain ⟨y1, z1⟩ := ro_cf hz_q.out 1 _ rfl; obtain ⟨y2, z2⟩ := ro_cf hz_q.out 2 _ rfl; obtain ⟨y3, z3⟩ := ro_cf hz_q.out 3 _ rfl
                    go_simp
                    refine hK.out _ _ (⟨hide (ro_away4 (g' := w.heap.size + 1 + 1 + 1) hHeld.1.out (by omega)), hide (ro_away4 (g' := w.heap.size + 1 + 1 + 1) hHeld.2.1.out (by omega)), hide (bl_setx4 (g := w.heap.size + 1 + 1 + 1) hHeld.2.2.out (by omega))⟩) (fun hHeld => ?_)
                    clear hK K y0 z0 y1 z1 y2 z2 y3 z3
                    replace hz_q := hide (ro_set4' (x0 := .slice A n c) (x1 := .int .i64 (pe : Int)) (x2 := .int .i64 10) (x3 := .int .i64 at_) hz_q.out)
                    replace hz_r := hide (ro_away4 (g' := w.heap.size + 1 + 1 + 1) (x0 := .slice A n c) (x1 := .int .i64 (pe : Int)) (x2 := .int .i64 10) (x3 := .int .i64 at_) hz_r.out (by omega))
                    generalize ((((v2.setCell ⟨w.heap.size + 1 + 1 + 1, 0, none⟩ (.slice A n c)).setCell ⟨w.heap.size + 1 + 1 + 1, 1, none⟩ (.int .i64 (pe : Int))).setCell ⟨w.heap.size + 1 + 1 + 1, 2, none⟩ (.int .i64 10)).setCell ⟨w.heap.size + 1 + 1 + 1, 3, none⟩ (.int .i64 at_)) = v3 at *
                    try simp only [Act.put, List.setIfInBounds_toArray, List.set_cons_zero, List.set_cons_succ]
                    refine wpAnyH_done (by kernel_rfl) ?_ _
                    obtain ⟨r0, _⟩ := ro_cf hz_r.out 0 (.slice none 0 0) rfl
                    obtain ⟨r1, _⟩ := ro_cf hz_r.out 1 (.slice none 0 0) rfl
                    obtain ⟨r2, _⟩ := ro_cf hz_r.out 2 (.slice none 0 0) rfl
                    obtain ⟨r3, _⟩ := ro_cf hz_r.out 3 (.slice none 0 0) rfl
                    obtain ⟨r4, _⟩ := ro_cf hz_r.out 4 (.slice none 0 0) rfl
                    obtain ⟨r5, _⟩ := ro_cf hz_r.out 5 (.slice none 0 0) rfl
                    obtain ⟨r6, _⟩ := ro_cf hz_r.out 6 (.slice none 0 0) rfl
                    obtain ⟨q0, _⟩ := ro_cf hz_q.out 0 (.slice A n c) rfl
                    obtain ⟨q1, _⟩ := ro_cf hz_q.out 1 (.int .i64 (pe : Int)) rfl
                    obtain ⟨q2, _⟩ := ro_cf hz_q.out 2 (.int .i64 10) rfl
                    obtain ⟨q3, _⟩ := ro_cf hz_q.out 3 (.int .i64 at_) rfl
                    go_wp2
                    exact bodyPost_ret (v := .tuple #[bkV BkS.zero, cu A n c (pe : Int) 10 at_]) (by simp [results, Tryz.results9, go_sem, BkS.zero, r0, r1, r2, r3, r4, r5, r6, q0, q1, q2, q3]) rfl ⟨.inr ⟨hfl.out, by rw [← hpe.out]⟩, hHeld.2.2.out⟩
            · obtain ⟨hN, R_⟩ := R_ rfl
              replace hN := hN.symm
              subst hN
              have R6 := hide (R_.mono (show wr.heap.size + 1 ≤ _ from l17))
              clear h1 R_ l17
              obtain ⟨_, zf⟩ := ro_cf kb.out 6 (.slice none 0 0) rfl
              go_upto_region 27 with fail
              clear xc zf
              replace kb := hide (show Ro (V6.setCell ⟨wr.heap.size, 6, none⟩ (.slice T6 m6 D6)) (wr.heap.size) #[.slice T0 d D0, .slice Q1 m1 C1, .slice T2 x D2, .slice Q3 m3 C3, .slice T4 c' D4, .slice T5 m5 D5, .slice T6 m6 D6] 34 from by have := ro_set kb.out 6 (.slice T6 m6 D6); simpa using this)
              replace HB := hide (bl_set (o := 6) HB.out (Nat.le_refl _) (.slice T6 m6 D6))
              replace R0 := hide (R0.out.setLow 6 (Nat.lt_succ_self _) (.slice T6 m6 D6))
              replace R2 := hide (R2.out.setLow 6 (Nat.lt_succ_self _) (.slice T6 m6 D6))
              replace R4 := hide (R4.out.setLow 6 (Nat.lt_succ_self _) (.slice T6 m6 D6))
              replace R5 := hide (R5.out.setLow 6 (Nat.lt_succ_self _) (.slice T6 m6 D6))
              replace R6 := hide (R6.out.setLow 6 (Nat.lt_succ_self _) (.slice T6 m6 D6))
              generalize (V6.setCell ⟨wr.heap.size, 6, none⟩ (.slice T6 m6 D6)) = W7 at *
              replace hb := hide (bel_next hb.out HB.out)
              replace h8 := hide (h8.out.below HB.out)
              replace h9 := hide (h9.out.below HB.out)
              replace h10 := hide (h10.out.below HB.out)
              replace h13 := hide (h13.out.below HB.out)
              have HO := hide (show OwBk W7 (g13 + 1) ⟨⟨T0, d, D0⟩, ⟨Q1, m1, C1⟩, ⟨T2, x, D2⟩, ⟨Q3, m3, C3⟩, ⟨T4, c', D4⟩, ⟨T5, m5, D5⟩, ⟨T6, m6, D6⟩⟩ (decBk k a b c' d x y xs p) from ⟨R0.out.mono (by omega), P1.out.below HB.out, R2.out.mono (by omega), P3.out.below HB.out, R4.out.mono (by omega), R5.out.mono (by omega), R6.out.mono (by omega), hok.out⟩)
              have hfl := hide (show flB k a b c' d x y xs p = true by unfold flB; rw [← hF2.out, ← hF5.out, ← hF6.out]; rfl)
              clear R0 R2 R4 R5 R6 P0 P1 P2 P3 P4 P5 P6 hF2 hF5 hF6 hP
              go_upto_region 30 with fail
              have hz_r := hide h8.out.drew
              have hz_q := hide h9.out.drew
              replace HO := hide HO.out.drew
              refine wp_region_held_drew (S := fun w' => Hid (Ro w' (wr.heap.size) (#[.slice T0 d D0, .slice Q1 m1 C1, .slice T2 x D2, .slice Q3 m3 C3, .slice T4 c' D4, .slice T5 m5 D5, .slice T6 m6 D6]) 34) ∧ Hid (Ro w' (g13) (#[.slice A n c, .int .i64 (pe : Int), .int .i64 0, .int .i64 0]) 25) ∧ Hid (Below w.heap.size w w')) (by kernel_rfl) (⟨hide kb.out.drew, hide h13.out.drew, hide (bl_drew hb.out)⟩) (fun hHeld => ?_)
              generalize W7.drew = u0 at *
              refine wpAnyH_takeD (i := 0) (d := (some 126)) rfl rfl (by kernel_rfl) (by kernel_rfl) (by kernel_rfl) (fun _ _ _ h => h) (yieldsIf_load_row (by rfl) 34 _ rfl (wr.heap.size) rfl 34 #[.slice T0 d D0, .slice Q1 m1 C1, .slice T2 x D2, .slice Q3 m3 C3, .slice T4 c' D4, .slice T5 m5 D5, .slice T6 m6 D6] _ (fun w hw => hw.1.out) Tryz.underlying34 rfl (by kernel_rfl)) (by assumption) ?_
              try simp only [Act.put, List.setIfInBounds_toArray, List.set_cons_zero, List.set_cons_succ]
              refine wpAnyH_takeD (i := 1) (d := (some 127)) rfl rfl (by kernel_rfl) (by kernel_rfl) (by kernel_rfl) (fun _ _ _ h => h) (yieldsIf_load_row (by rfl) 25 _ rfl (g13) rfl 25 #[.slice A n c, .int .i64 (pe : Int), .int .i64 0, .int .i64 0] _ (fun w hw => hw.2.1.out) Tryz.underlying25 rfl (by kernel_rfl)) (by assumption) ?_
              try simp only [Act.put, List.setIfInBounds_toArray, List.set_cons_zero, List.set_cons_succ]
              refine wpAnyH_ready (rs := [2]) (by kernel_rfl) (by simp) ?_
              refine AllReadyH.cons rfl (fun K hK => ?_) (AllReadyH.nil)
              · obtain ⟨y0, z0⟩ := ro_cf hz_r.out 0 _ rfl; obtain ⟨y1, z1⟩ := ro_cf hz_r.out 1 _ rfl; obtain ⟨y2, z2⟩ := ro_cf hz_r.out 2 _ rfl; obtain ⟨y3, z3⟩ := ro_cf hz_r.out 3 _ rfl; obtain ⟨y4, z4⟩ := ro_cf hz_r.out 4 _ rfl; obtain ⟨y5, z5⟩ := ro_cf hz_r.out 5 _ rfl; obtain ⟨y6, z6⟩ := ro_cf hz_r.out 6 _ rfl
                go_simp
                refine hK.out _ _ (⟨hide (ro_away7 (g' := w.heap.size + 1 + 1) hHeld.1.out (by omega)), hide (ro_away7 (g' := w.heap.size + 1 + 1) hHeld.2.1.out (by omega)), hide (bl_setx7 (g := w.heap.size + 1 + 1) hHeld.2.2.out (by omega))⟩) (fun hHeld => ?_)
                clear hK K y0 z0 y1 z1 y2 z2 y3 z3 y4 z4 y5 z5 y6 z6
                replace hz_r := hide (ro_set7' (x0 := .slice T0 d D0) (x1 := .slice Q1 m1 C1) (x2 := .slice T2 x D2) (x3 := .slice Q3 m3 C3) (x4 := .slice T4 c' D4) (x5 := .slice T5 m5 D5) (x6 := .slice T6 m6 D6) hz_r.out)
                replace hz_q := hide (ro_away7 (g' := w.heap.size + 1 + 1) (x0 := .slice T0 d D0) (x1 := .slice Q1 m1 C1) (x2 := .slice T2 x D2) (x3 := .slice Q3 m3 C3) (x4 := .slice T4 c' D4) (x5 := .slice T5 m5 D5) (x6 := .slice T6 m6 D6) hz_q.out (by omega))
                replace HO := hide (((((((HO.out.setLow (g := w.heap.size + 1 + 1) 0 (by omega) (.slice T0 d D0)).setLow (g := w.heap.size + 1 + 1) 1 (by omega) (.slice Q1 m1 C1)).setLow (g := w.heap.size + 1 + 1) 2 (by omega) (.slice T2 x D2)).setLow (g := w.heap.size + 1 + 1) 3 (by omega) (.slice Q3 m3 C3)).setLow (g := w.heap.size + 1 + 1) 4 (by omega) (.slice T4 c' D4)).setLow (g := w.heap.size + 1 + 1) 5 (by omega) (.slice T5 m5 D5)).setLow (g := w.heap.size + 1 + 1) 6 (by omega) (.slice T6 m6 D6))
                generalize (((((((u0.setCell ⟨w.heap.size + 1 + 1, 0, none⟩ (.slice T0 d D0)).setCell ⟨w.heap.size + 1 + 1, 1, none⟩ (.slice Q1 m1 C1)).setCell ⟨w.heap.size + 1 + 1, 2, none⟩ (.slice T2 x D2)).setCell ⟨w.heap.size + 1 + 1, 3, none⟩ (.slice Q3 m3 C3)).setCell ⟨w.heap.size + 1 + 1, 4, none⟩ (.slice T4 c' D4)).setCell ⟨w.heap.size + 1 + 1, 5, none⟩ (.slice T5 m5 D5)).setCell ⟨w.heap.size + 1 + 1, 6, none⟩ (.slice T6 m6 D6)) = v1 at *
                try simp only [Act.put, List.setIfInBounds_toArray, List.set_cons_zero, List.set_cons_succ]
                refine wpAnyH_ready (rs := [3]) (by kernel_rfl) (by simp) ?_
                refine AllReadyH.cons rfl (fun K hK => ?_) (AllReadyH.nil)
                · obtain ⟨y0, z0⟩ := ro_cf hz_q.out 0 _ rfl; obtain ⟨y1, z1⟩ := ro_cf hz_q.out 1 _ rfl; obtain ⟨y2, z2⟩ := ro_cf hz_q.out 2 _ rfl; obtain ⟨y3, z3⟩ := ro_cf hz_q.out 3 _ rfl
                  go_simp
                  refine hK.out _ _ (⟨hide (ro_away4 (g' := w.heap.size + 1 + 1 + 1) hHeld.1.out (by omega)), hide (ro_away4 (g' := w.heap.size + 1 + 1 + 1) hHeld.2.1.out (by omega)), hide (bl_setx4 (g := w.heap.size + 1 + 1 + 1) hHeld.2.2.out (by omega))⟩) (fun hHeld => ?_)
                  clear hK K y0 z0 y1 z1 y2 z2 y3 z3
                  replace hz_q := hide (ro_set4' (x0 := .slice A n c) (x1 := .int .i64 (pe : Int)) (x2 := .int .i64 0) (x3 := .int .i64 0) hz_q.out)
                  replace hz_r := hide (ro_away4 (g' := w.heap.size + 1 + 1 + 1) (x0 := .slice A n c) (x1 := .int .i64 (pe : Int)) (x2 := .int .i64 0) (x3 := .int .i64 0) hz_r.out (by omega))
                  replace HO := hide ((((HO.out.setLow (g := w.heap.size + 1 + 1 + 1) 0 (by omega) (.slice A n c)).setLow (g := w.heap.size + 1 + 1 + 1) 1 (by omega) (.int .i64 (pe : Int))).setLow (g := w.heap.size + 1 + 1 + 1) 2 (by omega) (.int .i64 0)).setLow (g := w.heap.size + 1 + 1 + 1) 3 (by omega) (.int .i64 0))
                  generalize ((((v1.setCell ⟨w.heap.size + 1 + 1 + 1, 0, none⟩ (.slice A n c)).setCell ⟨w.heap.size + 1 + 1 + 1, 1, none⟩ (.int .i64 (pe : Int))).setCell ⟨w.heap.size + 1 + 1 + 1, 2, none⟩ (.int .i64 0)).setCell ⟨w.heap.size + 1 + 1 + 1, 3, none⟩ (.int .i64 0)) = v2 at *
                  try simp only [Act.put, List.setIfInBounds_toArray, List.set_cons_zero, List.set_cons_succ]
                  refine wpAnyH_done (by kernel_rfl) ?_ _
                  obtain ⟨r0, _⟩ := ro_cf hz_r.out 0 (.slice T0 d D0) rfl
                  obtain ⟨r1, _⟩ := ro_cf hz_r.out 1 (.slice Q1 m1 C1) rfl
                  obtain ⟨r2, _⟩ := ro_cf hz_r.out 2 (.slice T2 x D2) rfl
                  obtain ⟨r3, _⟩ := ro_cf hz_r.out 3 (.slice Q3 m3 C3) rfl
                  obtain ⟨r4, _⟩ := ro_cf hz_r.out 4 (.slice T4 c' D4) rfl
                  obtain ⟨r5, _⟩ := ro_cf hz_r.out 5 (.slice T5 m5 D5) rfl
                  obtain ⟨r6, _⟩ := ro_cf hz_r.out 6 (.slice T6 m6 D6) rfl
                  obtain ⟨q0, _⟩ := ro_cf hz_q.out 0 (.slice A n c) rfl
                  obtain ⟨q1, _⟩ := ro_cf hz_q.out 1 (.int .i64 (pe : Int)) rfl
                  obtain ⟨q2, _⟩ := ro_cf hz_q.out 2 (.int .i64 0) rfl
                  obtain ⟨q3, _⟩ := ro_cf hz_q.out 3 (.int .i64 0) rfl
                  go_wp2
                  exact bodyPost_ret (v := .tuple #[bkV ⟨⟨T0, d, D0⟩, ⟨Q1, m1, C1⟩, ⟨T2, x, D2⟩, ⟨Q3, m3, C3⟩, ⟨T4, c', D4⟩, ⟨T5, m5, D5⟩, ⟨T6, m6, D6⟩⟩, cu A n c (pe : Int) 0 0]) (by simp [results, Tryz.results9, go_sem, r0, r1, r2, r3, r4, r5, r6, q0, q1, q2, q3]) rfl ⟨.inl ⟨hfl.out, _, by rw [← hpe.out], HO.out.mono hwB.out⟩, hHeld.2.2.out⟩
end r19_
end Go.Proofs.YtbajdlgcajeldaaGreatDoor
namespace Go.Proofs.YtbajdlgcajeldaaGreatDoor
open Go.RowKit
set_option linter.unusedVariables false
namespace r19_
theorem zero_ow {w : World} {B : Nat} (h : B ≤ w.heap.size) : OwBk w B BkS.zero Bk.zero :=
  ⟨Ow.nil h _, Ow.nil h _, Ok.nil h _ _, Ow.nil h _, Ok.nil h _ _, Ow.nil h _, Ow.nil h _, Bk.zero_ok⟩
theorem Decode (A : Option Addr) (n c p : Nat) (xs : List Int) (v : Int) (a b c' d x y k : Nat) (K at_ : Int) (w : World) (hK : K = (k : Int)) (hk : k = 4 ∨ k = 8) (hL : LyC a b c' d x y K) (hr : Rd w A n (xs.map (Value.int .u8))) (hB : Bytes xs) (hn : n ≤ 100000) (hp : p ≤ n) :
    Calls Tryz.prog 9 #[cu A n c p 0 0, hdV v a b c' d x y, .int .i64 K, .int .i64 at_] w fun z w' => ∃ S Q P e t, (Q, P, e, t) = decB k a b c' d x y xs p at_ ∧ z = .returned (.tuple #[bkV S, cu A n c P e t]) ∧ OwBk w' w.heap.size S Q ∧ Below w.heap.size w w' := by
  have hl : xs.length = n := by have := hr.len; simpa using this
  have htt : totV a b c' d x y K = ((tot k a b c' d x y : Nat) : Int) := by
    subst hK
    unfold totV tot
    simp only [Int.natCast_add, Int.natCast_mul]
    have h1 : (d : Int) * (k : Int) = (k : Int) * (d : Int) := Int.mul_comm _ _
    have h2 : ((4 : Nat) : Int) = 4 := rfl
    have h3 : ((6 : Nat) : Int) = 6 := rfl
    rw [h1, h2, h3]
    omega
  by_cases ht : p + tot k a b c' d x y ≤ n
  · refine (Decode_in A n c p xs v a b c' d x y k K at_ w hK hk hL hr hB hn ht).mono ?_
    rintro z w' ⟨⟨hf, S, rfl, h⟩ | ⟨hf, rfl⟩, hb⟩
    · exact ⟨S, _, _, _, _, by unfold decB; rw [if_neg (by omega), if_pos hf], rfl, h, hb⟩
    · exact ⟨BkS.zero, _, _, _, _, by unfold decB; rw [if_neg (by omega), if_neg (by rw [hf]; simp)], rfl, zero_ow hb.size, hb⟩
  · refine (Decode_trunc A n c p v a b c' d x y K at_ w hL (by omega) hp (by rw [htt]; omega)).mono ?_
    rintro z w' ⟨rfl, hb⟩
    exact ⟨BkS.zero, _, _, _, _, by unfold decB; rw [if_pos (by omega), hl], rfl, zero_ow hb.size, hb⟩
end r19_
end Go.Proofs.YtbajdlgcajeldaaGreatDoor
