/-
  THE WALKS OF THE LAWS OF LAYER 3 (zoneinfolaw03): for every input the law returns true and writes nothing that was there. No conditions.
-/
import Derived.Test.YteabkmaopbmknaaSz
import Derived.Test.YteabkmaopbmknaaBase2
namespace Go.Proofs.Yteabkmaopbmknaa
open Go.ChangeShapes Go.WideShapes Go.ChangeAt Go.RowKit
set_option linter.unusedVariables false
namespace l3_
set_option maxRecDepth 100000 in
set_option maxHeartbeats 1000000 in
theorem awake (w : World) : Calls Try.prog 8 #[] w fun e w' => e = .returned (.bool true) ∧ Below w.heap.size w w' := by
  go_enter Try.func8, Try.ntmps8
  go_wp2_with fail
  refine (sz_.Add _ _ _ 18446744073709551615 true _ (by omega) (by omega) (by omega) (by omega) (by omega) (by omega) (.y (by omega) (by omega))).mono ?_
  rintro e w1 ⟨rfl, rfl⟩
  go_wp2_with fail
  refine (sz_.Add _ _ _ 0 false _ (by omega) (by omega) (by omega) (by omega) (by omega) (by omega) (.n (by omega))).mono ?_
  rintro e w1 ⟨rfl, rfl⟩
  go_wp2_with fail
  refine (sz_.Mul _ _ _ 42 true _ (by omega) (by omega) (by omega) (by omega) (by omega) (by omega) (.y (by omega) (by omega))).mono ?_
  rintro e w1 ⟨rfl, rfl⟩
  go_wp2_with fail
  refine (sz_.Mul _ _ _ 0 false _ (by omega) (by omega) (by omega) (by omega) (by omega) (by omega) (.n (by omega))).mono ?_
  rintro e w1 ⟨rfl, rfl⟩
  go_wp2_with fail
  refine (sz_.Mul _ _ _ 0 false _ (by omega) (by omega) (by omega) (by omega) (by omega) (by omega) (.n (by omega))).mono ?_
  rintro e w1 ⟨rfl, rfl⟩
  go_wp2_with fail
  refine (sz_.Total _ _ _ _ _ _ [2, 3, 9] [5, 4] _ 22 true _ (by omega) (by omega) ((Rd.ints w 22 .u64 _ 3 rfl rfl).alloc _) (Rd.ints (w.alloc _) 22 .u64 _ 2 rfl (by simp)) (words_of_mem (by decide)) (words_of_mem (by decide)) (by omega) (by omega) (.y (by decide) (by omega))).mono ?_
  rintro e w1 ⟨rfl, hb1⟩
  have hb1 := hide (bel_next (bl_alloc (bl_new w (.cells (([2, 3, 9] : List Int).map (Value.int .u64)).toArray 22)) (.cells (([5, 4] : List Int).map (Value.int .u64)).toArray 22)) hb1)
  go_wp2_with fail
  refine (sz_.Total _ _ _ _ _ _ [2, 3] [5, 4] _ 0 false _ (by omega) (by omega) ((Rd.ints w1 22 .u64 _ 2 rfl rfl).alloc _) (Rd.ints (w1.alloc _) 22 .u64 _ 2 rfl (by simp)) (words_of_mem (by decide)) (words_of_mem (by decide)) (by omega) (by omega) (.n (by decide))).mono ?_
  rintro e w2 ⟨rfl, hb2⟩
  have hb2 := hide (bel_next (bl_alloc (bl_alloc hb1.out (.cells (([2, 3] : List Int).map (Value.int .u64)).toArray 22)) (.cells (([5, 4] : List Int).map (Value.int .u64)).toArray 22)) hb2)
  go_wp2
  go_ret
  exact ⟨rfl, hb2.out⟩

/-- a u64 list read through an argument. -/
theorem wordsOf {w : World} {a : Option Addr} {len cap : Nat} {zs : List Int} (h : IsRw .u64 w a len cap zs) : Words (zs.take len) := words_of_mem fun x hx => wf_u64 (h.wf x hx)

theorem mref (a0 a1 a2 : Int) (a3 : Option Addr) (len3 cap3 : Nat) (z3 : List Int) (a4 : Option Addr) (len4 cap4 : Nat) (z4 : List Int) (w : World) (w0 : (Lit.int .u64 a0).wf = true) (w1 : (Lit.int .u64 a1).wf = true) (w2 : (Lit.int .u64 a2).wf = true) (w3 : IsRw .u64 w a3 len3 cap3 z3) (w4 : IsRw .u64 w a4 len4 cap4 z4) :
    Calls Try.prog 3 #[.int .u64 a0, .int .u64 a1, .int .u64 a2, .slice a3 len3 cap3, .slice a4 len4 cap4] w fun e w' => e = .returned (.bool true) ∧ Below w.heap.size w w' := by
  obtain ⟨p0, p1⟩ := wf_u64 w0
  obtain ⟨q0, q1⟩ := wf_u64 w1
  obtain ⟨l0, l1⟩ := wf_u64 w2
  obtain ⟨c1, c2⟩ := w3.cap
  obtain ⟨c3, c4⟩ := w4.cap
  have hx := wordsOf w3
  have hy := wordsOf w4
  have hr := w3.rd
  have hs := w4.rd
  clear w0 w1 w2 w3 w4
  generalize z3.take len3 = xs at *
  generalize z4.take len4 = ys at *
  by_cases h3 : 100 < len3
  · go_enter Try.func3, Try.ntmps3
    go_wp2_with fail
    refine (awake _).mono ?_
    rintro e w1 ⟨rfl, hb1⟩
    go_wp2_with fail
    refine (awake _).mono ?_
    rintro e w2 ⟨rfl, hb2⟩
    go_wp2
    go_ret
    exact ⟨rfl, bel_next hb1 hb2⟩
  by_cases h4 : 100 < len4
  · go_enter Try.func3, Try.ntmps3
    go_wp2_with fail
    refine (awake _).mono ?_
    rintro e w1 ⟨rfl, hb1⟩
    go_wp2_with fail
    refine (awake _).mono ?_
    rintro e w2 ⟨rfl, hb2⟩
    go_wp2
    go_ret
    exact ⟨rfl, bel_next hb1 hb2⟩
  obtain ⟨v1, ok1, g1⟩ := Sz.ex (a0 + a1) a2
  obtain ⟨v2, ok2, g2⟩ := Sz.ex (a0 * a1) a2
  obtain ⟨v3, ok3, g3⟩ := Sz.ex (tot xs ys (min len3 len4)) a2
  have g1 := hide g1
  have g2 := hide g2
  have g3 := hide g3
  go_enter Try.func3, Try.ntmps3
  go_wp2_with fail
  refine (awake _).mono ?_
  rintro e w1 ⟨rfl, hb1⟩
  have hr1 := hr.below hb1
  have hs1 := hs.below hb1
  go_wp2_with fail
  refine (sz_.Add _ _ _ _ _ _ p0 p1 q0 q1 l0 l1 g1.out).mono ?_
  rintro e w2 ⟨rfl, rfl⟩
  go_wp2_with fail
  refine (r3_.Add _ _ _ _ _ _ p0 p1 q0 q1 l0 l1 g1.out).mono ?_
  rintro e w2 ⟨rfl, rfl⟩
  go_wp2_with fail
  refine (sz_.Mul _ _ _ _ _ _ p0 p1 q0 q1 l0 l1 g2.out).mono ?_
  rintro e w2 ⟨rfl, rfl⟩
  go_wp2_with fail
  refine (r3_.Mul _ _ _ _ _ _ p0 p1 q0 q1 l0 l1 g2.out).mono ?_
  rintro e w2 ⟨rfl, rfl⟩
  go_wp2_with fail
  refine (sz_.Total _ _ _ _ _ _ xs ys _ _ _ _ (by omega) (by omega) hr1 hs1 hx hy l0 l1 g3.out).mono ?_
  rintro e w2 ⟨rfl, hb2⟩
  have hr2 := hr1.below hb2
  have hs2 := hs1.below hb2
  go_wp2_with fail
  refine (r3_.Total _ _ _ _ _ _ xs ys _ _ _ _ (by omega) (by omega) hr2 hs2 hx hy l0 l1 g3.out).mono ?_
  rintro e w3 ⟨rfl, hb3⟩
  have hfin := hide (bel_next (bel_next hb1 hb2) hb3)
  go_wp2
  go_ret
  exact ⟨rfl, hfin.out⟩

end l3_
end Go.Proofs.Yteabkmaopbmknaa
