/-
  CONTRACTS OF PACKAGE posixtz, of the code that landed at 120e3cd. Conditions: texts and names of at most 1,000,000 bytes; for Valid the days' kinds are Go's integers.
-/
import Derived.Test.YtjjmkbofddbnnaaGreatDoorPs8
namespace Go.Proofs.YtjjmkbofddbnnaaGreatDoor
open Go.ChangeShapes Go.WideShapes Go.ChangeAt Go.RowKit
set_option linter.unusedVariables false
set_option maxRecDepth 100000
namespace po_
set_option maxHeartbeats 4000000 in
theorem valid_a (std dst : ByteArray) (so dof : Int) (hd : Bool) (s1 s2 s3 s4 s5 s6 e1 e2 e3 e4 e5 e6 : Int) (w : World)
    (H0 : (∀ w, Calls Tryz.prog 24 #[.string std] w fun e w' => e = .returned (.bool false) ∧ Below w.heap.size w w')) :
    Calls Tryz.prog 14 #[.agg #[.string std, .int .i64 so, .bool hd, .string dst, .int .i64 dof, .int .i64 s1, .int .i64 s2, .int .i64 s3, .int .i64 s4, .int .i64 s5, .int .i64 s6, .int .i64 e1, .int .i64 e2, .int .i64 e3, .int .i64 e4, .int .i64 e5, .int .i64 e6]] w fun e w' => e = .returned (.bool false) ∧ Below w.heap.size w w' := by
  replace H0 := hide H0
  have hG := hide (Ro.new w #[.string std, .int .i64 so, .bool hd, .string dst, .int .i64 dof, .int .i64 s1, .int .i64 s2, .int .i64 s3, .int .i64 s4, .int .i64 s5, .int .i64 s6, .int .i64 e1, .int .i64 e2, .int .i64 e3, .int .i64 e4, .int .i64 e5, .int .i64 e6] 29)
  have hB := hide (bl_new w (.cells #[.string std, .int .i64 so, .bool hd, .string dst, .int .i64 dof, .int .i64 s1, .int .i64 s2, .int .i64 s3, .int .i64 s4, .int .i64 s5, .int .i64 s6, .int .i64 e1, .int .i64 e2, .int .i64 e3, .int .i64 e4, .int .i64 e5, .int .i64 e6] 29))
  go_enter Tryz.func14, Tryz.ntmps14
  go_upto_region 1 with fail
  generalize w.alloc (.cells #[.string std, .int .i64 so, .bool hd, .string dst, .int .i64 dof, .int .i64 s1, .int .i64 s2, .int .i64 s3, .int .i64 s4, .int .i64 s5, .int .i64 s6, .int .i64 e1, .int .i64 e2, .int .i64 e3, .int .i64 e4, .int .i64 e5, .int .i64 e6] 29) = v0 at *
  have c0 := (ro_cf hG.out 0 _ rfl).1
  go_wp2_with fail
  refine (H0.out _).mono ?_
  rintro e v1 ⟨rfl, h1⟩
  replace hG := hide (hG.out.below h1)
  replace hB := hide (bel_next hB.out h1)
  clear h1 c0
  go_wp2
  go_ret
  exact ⟨rfl, hB.out⟩
set_option maxHeartbeats 4000000 in
theorem valid_b (std dst : ByteArray) (so dof : Int) (hd : Bool) (s1 s2 s3 s4 s5 s6 e1 e2 e3 e4 e5 e6 : Int) (w : World)
    (H0 : (∀ w, Calls Tryz.prog 24 #[.string std] w fun e w' => e = .returned (.bool true) ∧ Below w.heap.size w w'))
    (H1 : (∀ w, Calls Tryz.prog 25 #[.int .i64 so] w fun e w' => e = .returned (.bool false) ∧ w = w')) :
    Calls Tryz.prog 14 #[.agg #[.string std, .int .i64 so, .bool hd, .string dst, .int .i64 dof, .int .i64 s1, .int .i64 s2, .int .i64 s3, .int .i64 s4, .int .i64 s5, .int .i64 s6, .int .i64 e1, .int .i64 e2, .int .i64 e3, .int .i64 e4, .int .i64 e5, .int .i64 e6]] w fun e w' => e = .returned (.bool false) ∧ Below w.heap.size w w' := by
  replace H0 := hide H0
  replace H1 := hide H1
  have hG := hide (Ro.new w #[.string std, .int .i64 so, .bool hd, .string dst, .int .i64 dof, .int .i64 s1, .int .i64 s2, .int .i64 s3, .int .i64 s4, .int .i64 s5, .int .i64 s6, .int .i64 e1, .int .i64 e2, .int .i64 e3, .int .i64 e4, .int .i64 e5, .int .i64 e6] 29)
  have hB := hide (bl_new w (.cells #[.string std, .int .i64 so, .bool hd, .string dst, .int .i64 dof, .int .i64 s1, .int .i64 s2, .int .i64 s3, .int .i64 s4, .int .i64 s5, .int .i64 s6, .int .i64 e1, .int .i64 e2, .int .i64 e3, .int .i64 e4, .int .i64 e5, .int .i64 e6] 29))
  go_enter Tryz.func14, Tryz.ntmps14
  go_upto_region 1 with fail
  generalize w.alloc (.cells #[.string std, .int .i64 so, .bool hd, .string dst, .int .i64 dof, .int .i64 s1, .int .i64 s2, .int .i64 s3, .int .i64 s4, .int .i64 s5, .int .i64 s6, .int .i64 e1, .int .i64 e2, .int .i64 e3, .int .i64 e4, .int .i64 e5, .int .i64 e6] 29) = v0 at *
  have c0 := (ro_cf hG.out 0 _ rfl).1
  go_wp2_with fail
  refine (H0.out _).mono ?_
  rintro e v1 ⟨rfl, h1⟩
  replace hG := hide (hG.out.below h1)
  replace hB := hide (bel_next hB.out h1)
  clear h1 c0
  have c1 := (ro_cf hG.out 1 _ rfl).1
  go_wp2_with fail
  refine (H1.out _).mono ?_
  rintro e v2 ⟨rfl, rfl⟩
  clear c1
  go_wp2
  go_ret
  exact ⟨rfl, hB.out⟩
set_option maxHeartbeats 4000000 in
theorem valid_f (std dst : ByteArray) (so dof : Int) (hd : Bool) (s1 s2 s3 s4 s5 s6 e1 e2 e3 e4 e5 e6 : Int) (w : World)
    (H0 : (∀ w, Calls Tryz.prog 24 #[.string std] w fun e w' => e = .returned (.bool true) ∧ Below w.heap.size w w'))
    (H1 : (∀ w, Calls Tryz.prog 25 #[.int .i64 so] w fun e w' => e = .returned (.bool true) ∧ w = w'))
    (x : Bool) (hx : ∀ w : World, (binOp .eql 29 (.agg #[.string std, .int .i64 so, .bool false, .string dst, .int .i64 dof, .int .i64 s1, .int .i64 s2, .int .i64 s3, .int .i64 s4, .int .i64 s5, .int .i64 s6, .int .i64 e1, .int .i64 e2, .int .i64 e3, .int .i64 e4, .int .i64 e5, .int .i64 e6]) (.agg #[.string std, .int .i64 so, .bool false, .string ⟨#[]⟩, .int .i64 0, .int .i64 0, .int .i64 0, .int .i64 0, .int .i64 0, .int .i64 0, .int .i64 0, .int .i64 0, .int .i64 0, .int .i64 0, .int .i64 0, .int .i64 0, .int .i64 0])).run Tryz.prog w = .ok (.bool x) w) :
    Calls Tryz.prog 14 #[.agg #[.string std, .int .i64 so, .bool false, .string dst, .int .i64 dof, .int .i64 s1, .int .i64 s2, .int .i64 s3, .int .i64 s4, .int .i64 s5, .int .i64 s6, .int .i64 e1, .int .i64 e2, .int .i64 e3, .int .i64 e4, .int .i64 e5, .int .i64 e6]] w fun e w' => e = .returned (.bool x) ∧ Below w.heap.size w w' := by
  replace H0 := hide H0
  replace H1 := hide H1
  have hG := hide (Ro.new w #[.string std, .int .i64 so, .bool false, .string dst, .int .i64 dof, .int .i64 s1, .int .i64 s2, .int .i64 s3, .int .i64 s4, .int .i64 s5, .int .i64 s6, .int .i64 e1, .int .i64 e2, .int .i64 e3, .int .i64 e4, .int .i64 e5, .int .i64 e6] 29)
  have hB := hide (bl_new w (.cells #[.string std, .int .i64 so, .bool false, .string dst, .int .i64 dof, .int .i64 s1, .int .i64 s2, .int .i64 s3, .int .i64 s4, .int .i64 s5, .int .i64 s6, .int .i64 e1, .int .i64 e2, .int .i64 e3, .int .i64 e4, .int .i64 e5, .int .i64 e6] 29))
  go_enter Tryz.func14, Tryz.ntmps14
  go_upto_region 1 with fail
  generalize w.alloc (.cells #[.string std, .int .i64 so, .bool false, .string dst, .int .i64 dof, .int .i64 s1, .int .i64 s2, .int .i64 s3, .int .i64 s4, .int .i64 s5, .int .i64 s6, .int .i64 e1, .int .i64 e2, .int .i64 e3, .int .i64 e4, .int .i64 e5, .int .i64 e6] 29) = v0 at *
  have c0 := (ro_cf hG.out 0 _ rfl).1
  go_wp2_with fail
  refine (H0.out _).mono ?_
  rintro e v1 ⟨rfl, h1⟩
  replace hG := hide (hG.out.below h1)
  replace hB := hide (bel_next hB.out h1)
  clear h1 c0
  have c1 := (ro_cf hG.out 1 _ rfl).1
  go_wp2_with fail
  refine (H1.out _).mono ?_
  rintro e v2 ⟨rfl, rfl⟩
  clear c1
  have c0 := (ro_cf hG.out 0 (.string std) rfl).1
  have c1 := (ro_cf hG.out 1 (.int .i64 so) rfl).1
  have c2 := (ro_cf hG.out 2 (.bool false) rfl).1
  have G : Gr Tryz.prog 29 17 #[.string std, .int .i64 so, .bool false, .string dst, .int .i64 dof, .int .i64 s1, .int .i64 s2, .int .i64 s3, .int .i64 s4, .int .i64 s5, .int .i64 s6, .int .i64 e1, .int .i64 e2, .int .i64 e3, .int .i64 e4, .int .i64 e5, .int .i64 e6] := gr_rule std so false dst dof (s1, s2, s3, s4, s5, s6) (e1, e2, e3, e4, e5, e6)
  go_upto_region 4 with fail
  clear c2
  generalize hcs : (#[.string std, .int .i64 so, .bool false, .string dst, .int .i64 dof, .int .i64 s1, .int .i64 s2, .int .i64 s3, .int .i64 s4, .int .i64 s5, .int .i64 s6, .int .i64 e1, .int .i64 e2, .int .i64 e3, .int .i64 e4, .int .i64 e5, .int .i64 e6] : Array Value) = cs at *
  have G1 := G.1
  go_wp2_with (refine load_row_g (by rfl) 29 _ rfl _ rfl _ _ _ hG.out Tryz.underlying29 rfl G1 ?_)
  go_ret
  exact ⟨rfl, hB.out⟩
set_option maxHeartbeats 4000000 in
theorem valid_c (std dst : ByteArray) (so dof : Int) (hd : Bool) (s1 s2 s3 s4 s5 s6 e1 e2 e3 e4 e5 e6 : Int) (w : World)
    (H0 : (∀ w, Calls Tryz.prog 24 #[.string std] w fun e w' => e = .returned (.bool true) ∧ Below w.heap.size w w'))
    (H1 : (∀ w, Calls Tryz.prog 25 #[.int .i64 so] w fun e w' => e = .returned (.bool true) ∧ w = w'))
    (H2 : (∀ w, Calls Tryz.prog 24 #[.string dst] w fun e w' => e = .returned (.bool false) ∧ Below w.heap.size w w')) :
    Calls Tryz.prog 14 #[.agg #[.string std, .int .i64 so, .bool true, .string dst, .int .i64 dof, .int .i64 s1, .int .i64 s2, .int .i64 s3, .int .i64 s4, .int .i64 s5, .int .i64 s6, .int .i64 e1, .int .i64 e2, .int .i64 e3, .int .i64 e4, .int .i64 e5, .int .i64 e6]] w fun e w' => e = .returned (.bool false) ∧ Below w.heap.size w w' := by
  replace H0 := hide H0
  replace H1 := hide H1
  replace H2 := hide H2
  have hG := hide (Ro.new w #[.string std, .int .i64 so, .bool true, .string dst, .int .i64 dof, .int .i64 s1, .int .i64 s2, .int .i64 s3, .int .i64 s4, .int .i64 s5, .int .i64 s6, .int .i64 e1, .int .i64 e2, .int .i64 e3, .int .i64 e4, .int .i64 e5, .int .i64 e6] 29)
  have hB := hide (bl_new w (.cells #[.string std, .int .i64 so, .bool true, .string dst, .int .i64 dof, .int .i64 s1, .int .i64 s2, .int .i64 s3, .int .i64 s4, .int .i64 s5, .int .i64 s6, .int .i64 e1, .int .i64 e2, .int .i64 e3, .int .i64 e4, .int .i64 e5, .int .i64 e6] 29))
  go_enter Tryz.func14, Tryz.ntmps14
  go_upto_region 1 with fail
  generalize w.alloc (.cells #[.string std, .int .i64 so, .bool true, .string dst, .int .i64 dof, .int .i64 s1, .int .i64 s2, .int .i64 s3, .int .i64 s4, .int .i64 s5, .int .i64 s6, .int .i64 e1, .int .i64 e2, .int .i64 e3, .int .i64 e4, .int .i64 e5, .int .i64 e6] 29) = v0 at *
  have c0 := (ro_cf hG.out 0 _ rfl).1
  go_wp2_with fail
  refine (H0.out _).mono ?_
  rintro e v1 ⟨rfl, h1⟩
  replace hG := hide (hG.out.below h1)
  replace hB := hide (bel_next hB.out h1)
  clear h1 c0
  have c1 := (ro_cf hG.out 1 _ rfl).1
  go_wp2_with fail
  refine (H1.out _).mono ?_
  rintro e v2 ⟨rfl, rfl⟩
  clear c1
  have c3 := (ro_cf hG.out 3 _ rfl).1
  have c2 := (ro_cf hG.out 2 _ rfl).1
  go_wp2_with fail
  refine (H2.out _).mono ?_
  rintro e v3 ⟨rfl, h1⟩
  replace hG := hide (hG.out.below h1)
  replace hB := hide (bel_next hB.out h1)
  clear h1 c3 c2
  go_wp2
  go_ret
  exact ⟨rfl, hB.out⟩
set_option maxHeartbeats 4000000 in
theorem valid_d (std dst : ByteArray) (so dof : Int) (hd : Bool) (s1 s2 s3 s4 s5 s6 e1 e2 e3 e4 e5 e6 : Int) (w : World)
    (H0 : (∀ w, Calls Tryz.prog 24 #[.string std] w fun e w' => e = .returned (.bool true) ∧ Below w.heap.size w w'))
    (H1 : (∀ w, Calls Tryz.prog 25 #[.int .i64 so] w fun e w' => e = .returned (.bool true) ∧ w = w'))
    (H2 : (∀ w, Calls Tryz.prog 24 #[.string dst] w fun e w' => e = .returned (.bool true) ∧ Below w.heap.size w w'))
    (H3 : (∀ w, Calls Tryz.prog 25 #[.int .i64 dof] w fun e w' => e = .returned (.bool false) ∧ w = w')) :
    Calls Tryz.prog 14 #[.agg #[.string std, .int .i64 so, .bool true, .string dst, .int .i64 dof, .int .i64 s1, .int .i64 s2, .int .i64 s3, .int .i64 s4, .int .i64 s5, .int .i64 s6, .int .i64 e1, .int .i64 e2, .int .i64 e3, .int .i64 e4, .int .i64 e5, .int .i64 e6]] w fun e w' => e = .returned (.bool false) ∧ Below w.heap.size w w' := by
  replace H0 := hide H0
  replace H1 := hide H1
  replace H2 := hide H2
  replace H3 := hide H3
  have hG := hide (Ro.new w #[.string std, .int .i64 so, .bool true, .string dst, .int .i64 dof, .int .i64 s1, .int .i64 s2, .int .i64 s3, .int .i64 s4, .int .i64 s5, .int .i64 s6, .int .i64 e1, .int .i64 e2, .int .i64 e3, .int .i64 e4, .int .i64 e5, .int .i64 e6] 29)
  have hB := hide (bl_new w (.cells #[.string std, .int .i64 so, .bool true, .string dst, .int .i64 dof, .int .i64 s1, .int .i64 s2, .int .i64 s3, .int .i64 s4, .int .i64 s5, .int .i64 s6, .int .i64 e1, .int .i64 e2, .int .i64 e3, .int .i64 e4, .int .i64 e5, .int .i64 e6] 29))
  go_enter Tryz.func14, Tryz.ntmps14
  go_upto_region 1 with fail
  generalize w.alloc (.cells #[.string std, .int .i64 so, .bool true, .string dst, .int .i64 dof, .int .i64 s1, .int .i64 s2, .int .i64 s3, .int .i64 s4, .int .i64 s5, .int .i64 s6, .int .i64 e1, .int .i64 e2, .int .i64 e3, .int .i64 e4, .int .i64 e5, .int .i64 e6] 29) = v0 at *
  have c0 := (ro_cf hG.out 0 _ rfl).1
  go_wp2_with fail
  refine (H0.out _).mono ?_
  rintro e v1 ⟨rfl, h1⟩
  replace hG := hide (hG.out.below h1)
  replace hB := hide (bel_next hB.out h1)
  clear h1 c0
  have c1 := (ro_cf hG.out 1 _ rfl).1
  go_wp2_with fail
  refine (H1.out _).mono ?_
  rintro e v2 ⟨rfl, rfl⟩
  clear c1
  have c3 := (ro_cf hG.out 3 _ rfl).1
  have c2 := (ro_cf hG.out 2 _ rfl).1
  go_wp2_with fail
  refine (H2.out _).mono ?_
  rintro e v3 ⟨rfl, h1⟩
  replace hG := hide (hG.out.below h1)
  replace hB := hide (bel_next hB.out h1)
  clear h1 c3 c2
  have c4 := (ro_cf hG.out 4 _ rfl).1
  go_wp2_with fail
  refine (H3.out _).mono ?_
  rintro e v4 ⟨rfl, rfl⟩
  clear c4
  go_wp2
  go_ret
  exact ⟨rfl, hB.out⟩
set_option maxHeartbeats 4000000 in
theorem valid_e (std dst : ByteArray) (so dof : Int) (hd : Bool) (s1 s2 s3 s4 s5 s6 e1 e2 e3 e4 e5 e6 : Int) (w : World)
    (H0 : (∀ w, Calls Tryz.prog 24 #[.string std] w fun e w' => e = .returned (.bool true) ∧ Below w.heap.size w w'))
    (H1 : (∀ w, Calls Tryz.prog 25 #[.int .i64 so] w fun e w' => e = .returned (.bool true) ∧ w = w'))
    (H2 : (∀ w, Calls Tryz.prog 24 #[.string dst] w fun e w' => e = .returned (.bool true) ∧ Below w.heap.size w w'))
    (H3 : (∀ w, Calls Tryz.prog 25 #[.int .i64 dof] w fun e w' => e = .returned (.bool true) ∧ w = w'))
    (H4 : (∀ w, Calls Tryz.prog 26 #[.agg #[.int .i64 s1, .int .i64 s2, .int .i64 s3, .int .i64 s4, .int .i64 s5, .int .i64 s6]] w fun e w' => e = .returned (.bool false) ∧ Below w.heap.size w w')) :
    Calls Tryz.prog 14 #[.agg #[.string std, .int .i64 so, .bool true, .string dst, .int .i64 dof, .int .i64 s1, .int .i64 s2, .int .i64 s3, .int .i64 s4, .int .i64 s5, .int .i64 s6, .int .i64 e1, .int .i64 e2, .int .i64 e3, .int .i64 e4, .int .i64 e5, .int .i64 e6]] w fun e w' => e = .returned (.bool false) ∧ Below w.heap.size w w' := by
  replace H0 := hide H0
  replace H1 := hide H1
  replace H2 := hide H2
  replace H3 := hide H3
  replace H4 := hide H4
  have hG := hide (Ro.new w #[.string std, .int .i64 so, .bool true, .string dst, .int .i64 dof, .int .i64 s1, .int .i64 s2, .int .i64 s3, .int .i64 s4, .int .i64 s5, .int .i64 s6, .int .i64 e1, .int .i64 e2, .int .i64 e3, .int .i64 e4, .int .i64 e5, .int .i64 e6] 29)
  have hB := hide (bl_new w (.cells #[.string std, .int .i64 so, .bool true, .string dst, .int .i64 dof, .int .i64 s1, .int .i64 s2, .int .i64 s3, .int .i64 s4, .int .i64 s5, .int .i64 s6, .int .i64 e1, .int .i64 e2, .int .i64 e3, .int .i64 e4, .int .i64 e5, .int .i64 e6] 29))
  go_enter Tryz.func14, Tryz.ntmps14
  go_upto_region 1 with fail
  generalize w.alloc (.cells #[.string std, .int .i64 so, .bool true, .string dst, .int .i64 dof, .int .i64 s1, .int .i64 s2, .int .i64 s3, .int .i64 s4, .int .i64 s5, .int .i64 s6, .int .i64 e1, .int .i64 e2, .int .i64 e3, .int .i64 e4, .int .i64 e5, .int .i64 e6] 29) = v0 at *
  have c0 := (ro_cf hG.out 0 _ rfl).1
  go_wp2_with fail
  refine (H0.out _).mono ?_
  rintro e v1 ⟨rfl, h1⟩
  replace hG := hide (hG.out.below h1)
  replace hB := hide (bel_next hB.out h1)
  clear h1 c0
  have c1 := (ro_cf hG.out 1 _ rfl).1
  go_wp2_with fail
  refine (H1.out _).mono ?_
  rintro e v2 ⟨rfl, rfl⟩
  clear c1
  have c3 := (ro_cf hG.out 3 _ rfl).1
  have c2 := (ro_cf hG.out 2 _ rfl).1
  go_wp2_with fail
  refine (H2.out _).mono ?_
  rintro e v3 ⟨rfl, h1⟩
  replace hG := hide (hG.out.below h1)
  replace hB := hide (bel_next hB.out h1)
  clear h1 c3 c2
  have c4 := (ro_cf hG.out 4 _ rfl).1
  go_wp2_with fail
  refine (H3.out _).mono ?_
  rintro e v4 ⟨rfl, rfl⟩
  clear c4
  have c5 := (ro_cf hG.out 5 _ rfl).1
  have c6 := (ro_cf hG.out 6 _ rfl).1
  have c7 := (ro_cf hG.out 7 _ rfl).1
  have c8 := (ro_cf hG.out 8 _ rfl).1
  have c9 := (ro_cf hG.out 9 _ rfl).1
  have c10 := (ro_cf hG.out 10 _ rfl).1
  go_wp2_with fail
  refine (H4.out _).mono ?_
  rintro e v5 ⟨rfl, h1⟩
  replace hG := hide (hG.out.below h1)
  replace hB := hide (bel_next hB.out h1)
  clear h1 c5 c6 c7 c8 c9 c10
  go_wp2
  go_ret
  exact ⟨rfl, hB.out⟩
set_option maxHeartbeats 4000000 in
theorem valid_g (std dst : ByteArray) (so dof : Int) (hd : Bool) (s1 s2 s3 s4 s5 s6 e1 e2 e3 e4 e5 e6 : Int) (w : World)
    (H0 : (∀ w, Calls Tryz.prog 24 #[.string std] w fun e w' => e = .returned (.bool true) ∧ Below w.heap.size w w'))
    (H1 : (∀ w, Calls Tryz.prog 25 #[.int .i64 so] w fun e w' => e = .returned (.bool true) ∧ w = w'))
    (H2 : (∀ w, Calls Tryz.prog 24 #[.string dst] w fun e w' => e = .returned (.bool true) ∧ Below w.heap.size w w'))
    (H3 : (∀ w, Calls Tryz.prog 25 #[.int .i64 dof] w fun e w' => e = .returned (.bool true) ∧ w = w'))
    (H4 : (∀ w, Calls Tryz.prog 26 #[.agg #[.int .i64 s1, .int .i64 s2, .int .i64 s3, .int .i64 s4, .int .i64 s5, .int .i64 s6]] w fun e w' => e = .returned (.bool true) ∧ Below w.heap.size w w'))
    (H5 : (∀ w, Calls Tryz.prog 26 #[.agg #[.int .i64 e1, .int .i64 e2, .int .i64 e3, .int .i64 e4, .int .i64 e5, .int .i64 e6]] w fun e w' => e = .returned (.bool false) ∧ Below w.heap.size w w')) :
    Calls Tryz.prog 14 #[.agg #[.string std, .int .i64 so, .bool true, .string dst, .int .i64 dof, .int .i64 s1, .int .i64 s2, .int .i64 s3, .int .i64 s4, .int .i64 s5, .int .i64 s6, .int .i64 e1, .int .i64 e2, .int .i64 e3, .int .i64 e4, .int .i64 e5, .int .i64 e6]] w fun e w' => e = .returned (.bool false) ∧ Below w.heap.size w w' := by
  replace H0 := hide H0
  replace H1 := hide H1
  replace H2 := hide H2
  replace H3 := hide H3
  replace H4 := hide H4
  replace H5 := hide H5
  have hG := hide (Ro.new w #[.string std, .int .i64 so, .bool true, .string dst, .int .i64 dof, .int .i64 s1, .int .i64 s2, .int .i64 s3, .int .i64 s4, .int .i64 s5, .int .i64 s6, .int .i64 e1, .int .i64 e2, .int .i64 e3, .int .i64 e4, .int .i64 e5, .int .i64 e6] 29)
  have hB := hide (bl_new w (.cells #[.string std, .int .i64 so, .bool true, .string dst, .int .i64 dof, .int .i64 s1, .int .i64 s2, .int .i64 s3, .int .i64 s4, .int .i64 s5, .int .i64 s6, .int .i64 e1, .int .i64 e2, .int .i64 e3, .int .i64 e4, .int .i64 e5, .int .i64 e6] 29))
  go_enter Tryz.func14, Tryz.ntmps14
  go_upto_region 1 with fail
  generalize w.alloc (.cells #[.string std, .int .i64 so, .bool true, .string dst, .int .i64 dof, .int .i64 s1, .int .i64 s2, .int .i64 s3, .int .i64 s4, .int .i64 s5, .int .i64 s6, .int .i64 e1, .int .i64 e2, .int .i64 e3, .int .i64 e4, .int .i64 e5, .int .i64 e6] 29) = v0 at *
  have c0 := (ro_cf hG.out 0 _ rfl).1
  go_wp2_with fail
  refine (H0.out _).mono ?_
  rintro e v1 ⟨rfl, h1⟩
  replace hG := hide (hG.out.below h1)
  replace hB := hide (bel_next hB.out h1)
  clear h1 c0
  have c1 := (ro_cf hG.out 1 _ rfl).1
  go_wp2_with fail
  refine (H1.out _).mono ?_
  rintro e v2 ⟨rfl, rfl⟩
  clear c1
  have c3 := (ro_cf hG.out 3 _ rfl).1
  have c2 := (ro_cf hG.out 2 _ rfl).1
  go_wp2_with fail
  refine (H2.out _).mono ?_
  rintro e v3 ⟨rfl, h1⟩
  replace hG := hide (hG.out.below h1)
  replace hB := hide (bel_next hB.out h1)
  clear h1 c3 c2
  have c4 := (ro_cf hG.out 4 _ rfl).1
  go_wp2_with fail
  refine (H3.out _).mono ?_
  rintro e v4 ⟨rfl, rfl⟩
  clear c4
  have c5 := (ro_cf hG.out 5 _ rfl).1
  have c6 := (ro_cf hG.out 6 _ rfl).1
  have c7 := (ro_cf hG.out 7 _ rfl).1
  have c8 := (ro_cf hG.out 8 _ rfl).1
  have c9 := (ro_cf hG.out 9 _ rfl).1
  have c10 := (ro_cf hG.out 10 _ rfl).1
  go_wp2_with fail
  refine (H4.out _).mono ?_
  rintro e v5 ⟨rfl, h1⟩
  replace hG := hide (hG.out.below h1)
  replace hB := hide (bel_next hB.out h1)
  clear h1 c5 c6 c7 c8 c9 c10
  have c11 := (ro_cf hG.out 11 _ rfl).1
  have c12 := (ro_cf hG.out 12 _ rfl).1
  have c13 := (ro_cf hG.out 13 _ rfl).1
  have c14 := (ro_cf hG.out 14 _ rfl).1
  have c15 := (ro_cf hG.out 15 _ rfl).1
  have c16 := (ro_cf hG.out 16 _ rfl).1
  go_wp2_with fail
  refine (H5.out _).mono ?_
  rintro e v6 ⟨rfl, h1⟩
  replace hG := hide (hG.out.below h1)
  replace hB := hide (bel_next hB.out h1)
  clear h1 c11 c12 c13 c14 c15 c16
  go_wp2
  go_ret
  exact ⟨rfl, hB.out⟩
set_option maxHeartbeats 4000000 in
theorem valid_h (std dst : ByteArray) (so dof : Int) (hd : Bool) (s1 s2 s3 s4 s5 s6 e1 e2 e3 e4 e5 e6 : Int) (w : World)
    (H0 : (∀ w, Calls Tryz.prog 24 #[.string std] w fun e w' => e = .returned (.bool true) ∧ Below w.heap.size w w'))
    (H1 : (∀ w, Calls Tryz.prog 25 #[.int .i64 so] w fun e w' => e = .returned (.bool true) ∧ w = w'))
    (H2 : (∀ w, Calls Tryz.prog 24 #[.string dst] w fun e w' => e = .returned (.bool true) ∧ Below w.heap.size w w'))
    (H3 : (∀ w, Calls Tryz.prog 25 #[.int .i64 dof] w fun e w' => e = .returned (.bool true) ∧ w = w'))
    (H4 : (∀ w, Calls Tryz.prog 26 #[.agg #[.int .i64 s1, .int .i64 s2, .int .i64 s3, .int .i64 s4, .int .i64 s5, .int .i64 s6]] w fun e w' => e = .returned (.bool true) ∧ Below w.heap.size w w'))
    (H5 : (∀ w, Calls Tryz.prog 26 #[.agg #[.int .i64 e1, .int .i64 e2, .int .i64 e3, .int .i64 e4, .int .i64 e5, .int .i64 e6]] w fun e w' => e = .returned (.bool true) ∧ Below w.heap.size w w')) :
    Calls Tryz.prog 14 #[.agg #[.string std, .int .i64 so, .bool true, .string dst, .int .i64 dof, .int .i64 s1, .int .i64 s2, .int .i64 s3, .int .i64 s4, .int .i64 s5, .int .i64 s6, .int .i64 e1, .int .i64 e2, .int .i64 e3, .int .i64 e4, .int .i64 e5, .int .i64 e6]] w fun e w' => e = .returned (.bool true) ∧ Below w.heap.size w w' := by
  replace H0 := hide H0
  replace H1 := hide H1
  replace H2 := hide H2
  replace H3 := hide H3
  replace H4 := hide H4
  replace H5 := hide H5
  have hG := hide (Ro.new w #[.string std, .int .i64 so, .bool true, .string dst, .int .i64 dof, .int .i64 s1, .int .i64 s2, .int .i64 s3, .int .i64 s4, .int .i64 s5, .int .i64 s6, .int .i64 e1, .int .i64 e2, .int .i64 e3, .int .i64 e4, .int .i64 e5, .int .i64 e6] 29)
  have hB := hide (bl_new w (.cells #[.string std, .int .i64 so, .bool true, .string dst, .int .i64 dof, .int .i64 s1, .int .i64 s2, .int .i64 s3, .int .i64 s4, .int .i64 s5, .int .i64 s6, .int .i64 e1, .int .i64 e2, .int .i64 e3, .int .i64 e4, .int .i64 e5, .int .i64 e6] 29))
  go_enter Tryz.func14, Tryz.ntmps14
  go_upto_region 1 with fail
  generalize w.alloc (.cells #[.string std, .int .i64 so, .bool true, .string dst, .int .i64 dof, .int .i64 s1, .int .i64 s2, .int .i64 s3, .int .i64 s4, .int .i64 s5, .int .i64 s6, .int .i64 e1, .int .i64 e2, .int .i64 e3, .int .i64 e4, .int .i64 e5, .int .i64 e6] 29) = v0 at *
  have c0 := (ro_cf hG.out 0 _ rfl).1
  go_wp2_with fail
  refine (H0.out _).mono ?_
  rintro e v1 ⟨rfl, h1⟩
  replace hG := hide (hG.out.below h1)
  replace hB := hide (bel_next hB.out h1)
  clear h1 c0
  have c1 := (ro_cf hG.out 1 _ rfl).1
  go_wp2_with fail
  refine (H1.out _).mono ?_
  rintro e v2 ⟨rfl, rfl⟩
  clear c1
  have c3 := (ro_cf hG.out 3 _ rfl).1
  have c2 := (ro_cf hG.out 2 _ rfl).1
  go_wp2_with fail
  refine (H2.out _).mono ?_
  rintro e v3 ⟨rfl, h1⟩
  replace hG := hide (hG.out.below h1)
  replace hB := hide (bel_next hB.out h1)
  clear h1 c3 c2
  have c4 := (ro_cf hG.out 4 _ rfl).1
  go_wp2_with fail
  refine (H3.out _).mono ?_
  rintro e v4 ⟨rfl, rfl⟩
  clear c4
  have c5 := (ro_cf hG.out 5 _ rfl).1
  have c6 := (ro_cf hG.out 6 _ rfl).1
  have c7 := (ro_cf hG.out 7 _ rfl).1
  have c8 := (ro_cf hG.out 8 _ rfl).1
  have c9 := (ro_cf hG.out 9 _ rfl).1
  have c10 := (ro_cf hG.out 10 _ rfl).1
  go_wp2_with fail
  refine (H4.out _).mono ?_
  rintro e v5 ⟨rfl, h1⟩
  replace hG := hide (hG.out.below h1)
  replace hB := hide (bel_next hB.out h1)
  clear h1 c5 c6 c7 c8 c9 c10
  have c11 := (ro_cf hG.out 11 _ rfl).1
  have c12 := (ro_cf hG.out 12 _ rfl).1
  have c13 := (ro_cf hG.out 13 _ rfl).1
  have c14 := (ro_cf hG.out 14 _ rfl).1
  have c15 := (ro_cf hG.out 15 _ rfl).1
  have c16 := (ro_cf hG.out 16 _ rfl).1
  go_wp2_with fail
  refine (H5.out _).mono ?_
  rintro e v6 ⟨rfl, h1⟩
  replace hG := hide (hG.out.below h1)
  replace hB := hide (bel_next hB.out h1)
  clear h1 c11 c12 c13 c14 c15 c16
  go_wp2
  go_ret
  exact ⟨rfl, hB.out⟩
theorem ite_ok (p : Prop) [Decidable p] (b : Bool) (w : World) : (if p then Result.ok (Value.bool b) w else Result.ok (Value.bool false) w : Result Value) = Result.ok (Value.bool (decide p && b)) w := by by_cases h : p <;> simp [h]
set_option maxHeartbeats 4000000 in
theorem rule_eq (std dst : ByteArray) (so dof : Int) (s1 s2 s3 s4 s5 s6 e1 e2 e3 e4 e5 e6 : Int) (w : World) :
    (binOp .eql 29 (.agg #[.string std, .int .i64 so, .bool false, .string dst, .int .i64 dof, .int .i64 s1, .int .i64 s2, .int .i64 s3, .int .i64 s4, .int .i64 s5, .int .i64 s6, .int .i64 e1, .int .i64 e2, .int .i64 e3, .int .i64 e4, .int .i64 e5, .int .i64 e6]) (.agg #[.string std, .int .i64 so, .bool false, .string ⟨#[]⟩, .int .i64 0, .int .i64 0, .int .i64 0, .int .i64 0, .int .i64 0, .int .i64 0, .int .i64 0, .int .i64 0, .int .i64 0, .int .i64 0, .int .i64 0, .int .i64 0, .int .i64 0])).run Tryz.prog w = .ok (.bool (decide (dst = ⟨#[]⟩ ∧ dof = 0 ∧ ((s1, s2, s3, s4, s5, s6) : RD) = rd0 ∧ ((e1, e2, e3, e4, e5, e6) : RD) = rd0))) w := by
  have hd : dst.toList = [] ↔ dst = ⟨#[]⟩ := by
    constructor
    · intro h
      apply Classical.byContradiction
      intro hne
      have h2 := seq_ne hne
      rw [h, show (⟨#[]⟩ : ByteArray).toList = [] by simp] at h2
      exact absurd h2 (by decide)
    · rintro rfl
      simp
  simp [go_sem, rd0, hd]
  simp only [ite_ok]
  congr 2
  rw [Bool.eq_iff_iff]
  simp [and_assoc]
theorem valid_ (std dst : ByteArray) (so dof : Int) (hd : Bool) (s1 s2 s3 s4 s5 s6 e1 e2 e3 e4 e5 e6 : Int) (w : World) (hs : std.size ≤ 1000000) (ht : dst.size ≤ 1000000)
    (ho : -9223372036854775808 ≤ so ∧ so < 9223372036854775808) (hf : -9223372036854775808 ≤ dof ∧ dof < 9223372036854775808) (hk : (Lit.int .i64 s1).wf = true) (hk2 : (Lit.int .i64 e1).wf = true) :
    Calls Tryz.prog 14 #[.agg #[.string std, .int .i64 so, .bool hd, .string dst, .int .i64 dof, .int .i64 s1, .int .i64 s2, .int .i64 s3, .int .i64 s4, .int .i64 s5, .int .i64 s6, .int .i64 e1, .int .i64 e2, .int .i64 e3, .int .i64 e4, .int .i64 e5, .int .i64 e6]] w fun e w' => e = .returned (.bool (decide (prOk (byt std, so, hd, byt dst, dof, (s1, s2, s3, s4, s5, s6), (e1, e2, e3, e4, e5, e6))))) ∧ Below w.heap.size w w' := by
  have N1 := fun w => tn_.Valid std w hs
  have N2 := fun w => tn_.Valid dst w ht
  have O1 := fun w => inRange_ so w ho.1 ho.2
  have O2 := fun w => inRange_ dof w hf.1 hf.2
  have D1 := fun w => rd_.Valid_ s1 s2 s3 s4 s5 s6 w hk
  have D2 := fun w => rd_.Valid_ e1 e2 e3 e4 e5 e6 w hk2
  have hb : ∀ p : Prop, [Decidable p] → ∀ q : Bool, (p ↔ q = true) → decide p = q := fun p _ q h => by rw [Bool.eq_iff_iff, decide_eq_true_iff]; exact h
  rcases n1 : nameOk (byt std) with _ | _
  · rw [n1] at N1
    rw [hb _ false (by simp [prOk, n1])]
    exact valid_a std dst so dof hd s1 s2 s3 s4 s5 s6 e1 e2 e3 e4 e5 e6 w N1
  rw [n1] at N1
  by_cases o1 : offOk so
  rotate_left
  · rw [decide_eq_false o1] at O1
    rw [hb _ false (by simp [prOk, o1])]
    exact valid_b std dst so dof hd s1 s2 s3 s4 s5 s6 e1 e2 e3 e4 e5 e6 w N1 O1
  rw [decide_eq_true o1] at O1
  cases hd with
  | false =>
    have := valid_f std dst so dof false s1 s2 s3 s4 s5 s6 e1 e2 e3 e4 e5 e6 w N1 O1 _ (fun w => rule_eq std dst so dof s1 s2 s3 s4 s5 s6 e1 e2 e3 e4 e5 e6 w)
    rw [hb _ (decide (dst = ⟨#[]⟩ ∧ dof = 0 ∧ ((s1, s2, s3, s4, s5, s6) : RD) = rd0 ∧ ((e1, e2, e3, e4, e5, e6) : RD) = rd0)) (by
      rw [decide_eq_true_iff]
      simp only [prOk, n1, o1, true_and, Bool.false_eq_true, if_false]
      rw [show (byt dst = [] ↔ dst = ⟨#[]⟩) from ⟨fun h => byt_inj.1 h, fun h => by rw [h]⟩])]
    exact this
  | true =>
    rcases n2 : nameOk (byt dst) with _ | _
    · rw [n2] at N2
      rw [hb _ false (by simp [prOk, n2])]
      exact valid_c std dst so dof true s1 s2 s3 s4 s5 s6 e1 e2 e3 e4 e5 e6 w N1 O1 N2
    rw [n2] at N2
    by_cases o2 : offOk dof
    rotate_left
    · rw [decide_eq_false o2] at O2
      rw [hb _ false (by simp [prOk, o2])]
      exact valid_d std dst so dof true s1 s2 s3 s4 s5 s6 e1 e2 e3 e4 e5 e6 w N1 O1 N2 O2
    rw [decide_eq_true o2] at O2
    by_cases d1 : RdOk s1 s2 s3 s4 s5 s6
    rotate_left
    · rw [decide_eq_false d1] at D1
      have d1' : ¬ rdOk (s1, s2, s3, s4, s5, s6) := d1
      rw [hb _ false (by simp [prOk, d1'])]
      exact valid_e std dst so dof true s1 s2 s3 s4 s5 s6 e1 e2 e3 e4 e5 e6 w N1 O1 N2 O2 D1
    rw [decide_eq_true d1] at D1
    have d1' : rdOk (s1, s2, s3, s4, s5, s6) := d1
    by_cases d2 : RdOk e1 e2 e3 e4 e5 e6
    rotate_left
    · rw [decide_eq_false d2] at D2
      have d2' : ¬ rdOk (e1, e2, e3, e4, e5, e6) := d2
      rw [hb _ false (by simp [prOk, d2'])]
      exact valid_g std dst so dof true s1 s2 s3 s4 s5 s6 e1 e2 e3 e4 e5 e6 w N1 O1 N2 O2 D1 D2
    rw [decide_eq_true d2] at D2
    have d2' : rdOk (e1, e2, e3, e4, e5, e6) := d2
    rw [hb _ true (by simp [prOk, n1, n2, o1, o2, d1', d2'])]
    exact valid_h std dst so dof true s1 s2 s3 s4 s5 s6 e1 e2 e3 e4 e5 e6 w N1 O1 N2 O2 D1 D2
theorem Valid (std : ByteArray) (so : Int) (hd : Bool) (dst : ByteArray) (dof : Int) (st en : RD) (w : World) (hs : std.size ≤ 1000000) (ht : dst.size ≤ 1000000)
    (ho : -9223372036854775808 ≤ so ∧ so < 9223372036854775808) (hf : -9223372036854775808 ≤ dof ∧ dof < 9223372036854775808) (hk : (Lit.int .i64 st.1).wf = true) (hk2 : (Lit.int .i64 en.1).wf = true) :
    Calls Tryz.prog 14 #[vrule std so hd dst dof st en] w fun e w' => e = .returned (.bool (decide (prOk (byt std, so, hd, byt dst, dof, st, en)))) ∧ Below w.heap.size w w' := by
  obtain ⟨s1, s2, s3, s4, s5, s6⟩ := st
  obtain ⟨e1, e2, e3, e4, e5, e6⟩ := en
  exact valid_ std dst so dof hd s1 s2 s3 s4 s5 s6 e1 e2 e3 e4 e5 e6 w hs ht ho hf hk hk2
theorem pr_wf {r : PR} (h : prOk r) : (mkS r.1).size ≤ 1000000 ∧ (mkS r.2.2.2.1).size ≤ 1000000 ∧ (-9223372036854775808 ≤ r.2.1 ∧ r.2.1 < 9223372036854775808) ∧ (-9223372036854775808 ≤ r.2.2.2.2.1 ∧ r.2.2.2.2.1 < 9223372036854775808) ∧ (Lit.int .i64 r.2.2.2.2.2.1.1).wf = true ∧ (Lit.int .i64 r.2.2.2.2.2.2.1).wf = true := by
  have hl := prOk_len h
  obtain ⟨std, so, hd, dst, dof, ⟨s1, s2, s3, s4, s5, s6⟩, ⟨e1, e2, e3, e4, e5, e6⟩⟩ := r
  obtain ⟨h1, h2, h3⟩ := h
  simp only [offOk] at h2
  refine ⟨by omega, by omega, by dsimp only; omega, ?_⟩
  have hw : ∀ x : Int, 0 ≤ x → x ≤ 3 → (Lit.int .i64 x).wf = true := fun x a b => by
    rcases (show x = 0 ∨ x = 1 ∨ x = 2 ∨ x = 3 by omega) with rfl | rfl | rfl | rfl <;> rfl
  dsimp only at h3 ⊢
  split at h3
  · obtain ⟨h4, h5, h6, h7⟩ := h3
    simp only [offOk] at h5
    simp only [rdOk, RdOk] at h6 h7
    exact ⟨by omega, hw _ (by omega) (by omega), hw _ (by omega) (by omega)⟩
  · obtain ⟨h4, h5, h6, h7⟩ := h3
    simp only [rd0, Prod.mk.injEq] at h6 h7
    exact ⟨by omega, hw _ (by omega) (by omega), hw _ (by omega) (by omega)⟩
end po_
end Go.Proofs.YtjjmkbofddbnnaaGreatDoor
