/-
  THE WALKS OF THE LAWS OF LAYER 14 (zoneinfolaw14): LayoutCounts. No conditions.
-/
import Derived.Test.YtggjokiiemnkhaaLaw14a
namespace Go.Proofs.Ytggjokiiemnkhaa
open Go.ChangeShapes Go.WideShapes Go.ChangeAt Go.RowKit
open r14_ (cells7' cells8 bx_snd)
set_option linter.unusedVariables false
theorem Off (v a b c d x y s N : Int) (h : LyC a b c d x y s) (hN : totV a b c d x y s = N) : ∃ p1 p2 p3 p4 p5 p6 : Int, ∀ w, Calls Try.prog 13 #[hdV v a b c d x y, .int .i64 s] w fun e w' => e = .returned (.agg #[.int .u64 0, .int .u64 p1, .int .u64 p2, .int .u64 p3, .int .u64 p4, .int .u64 p5, .int .u64 p6, .int .u64 N]) ∧ Below w.heap.size w w' := by
  subst hN
  exact ⟨_, _, _, _, _, _, fun w => ly_.Offsets v a b c d x y s w h⟩
/-- the last offset of an array of eight. -/
theorem idx8 (p1 p2 p3 p4 p5 p6 N : Int) (w : World) : (Instr.index 33 (.agg #[.int .u64 0, .int .u64 p1, .int .u64 p2, .int .u64 p3, .int .u64 p4, .int .u64 p5, .int .u64 p6, .int .u64 N]) (.int .i64 7)).run Try.prog w = .ok (.int .u64 N) w := by
  have h1 := Try.underlying33
  simp [Instr.index, asIntOf, run_underlying h1, part, Try.sizeOf25, Try.isAgg25]
namespace l14_
set_option maxRecDepth 100000 in
set_option maxHeartbeats 16000000 in
theorem counts (v a b c d x y : Int) (wide : Bool) (w : World) (hv : (Lit.int .i64 v).wf = true) (c_a : (Lit.int .u32 a).wf = true) (c_b : (Lit.int .u32 b).wf = true) (c_c : (Lit.int .u32 c).wf = true) (c_d : (Lit.int .u32 d).wf = true) (c_x : (Lit.int .u32 x).wf = true) (c_y : (Lit.int .u32 y).wf = true) :
    Calls Try.prog 5 #[.agg #[.int .i64 v, .int .u32 a, .int .u32 b, .int .u32 c, .int .u32 d, .int .u32 x, .int .u32 y], .bool wide] w fun e w' => e = .returned (.bool true) ∧ Below w.heap.size w w' := by
  obtain ⟨A, hA⟩ : ∃ M, M = a % 2147483648 := ⟨_, rfl⟩
  have eA : a.tmod 2147483648 = A := by rw [Int.tmod_eq_emod_of_nonneg (c32 c_a).1, hA]
  have bA : 0 ≤ A ∧ A < 2147483648 := by omega
  obtain ⟨B, hB⟩ : ∃ M, M = b % 2147483648 := ⟨_, rfl⟩
  have eB : b.tmod 2147483648 = B := by rw [Int.tmod_eq_emod_of_nonneg (c32 c_b).1, hB]
  have bB : 0 ≤ B ∧ B < 2147483648 := by omega
  obtain ⟨C, hC⟩ : ∃ M, M = c % 2147483648 := ⟨_, rfl⟩
  have eC : c.tmod 2147483648 = C := by rw [Int.tmod_eq_emod_of_nonneg (c32 c_c).1, hC]
  have bC : 0 ≤ C ∧ C < 2147483648 := by omega
  obtain ⟨D, hD⟩ : ∃ M, M = d % 2147483648 := ⟨_, rfl⟩
  have eD : d.tmod 2147483648 = D := by rw [Int.tmod_eq_emod_of_nonneg (c32 c_d).1, hD]
  have bD : 0 ≤ D ∧ D < 2147483648 := by omega
  obtain ⟨X, hX⟩ : ∃ M, M = x % 2147483648 := ⟨_, rfl⟩
  have eX : x.tmod 2147483648 = X := by rw [Int.tmod_eq_emod_of_nonneg (c32 c_x).1, hX]
  have bX : 0 ≤ X ∧ X < 2147483648 := by omega
  obtain ⟨Y, hY⟩ : ∃ M, M = y % 2147483648 := ⟨_, rfl⟩
  have eY : y.tmod 2147483648 = Y := by rw [Int.tmod_eq_emod_of_nonneg (c32 c_y).1, hY]
  have bY : 0 ≤ Y ∧ Y < 2147483648 := by omega
  obtain ⟨bA0, bA1⟩ := bA
  clear hA
  obtain ⟨bB0, bB1⟩ := bB
  clear hB
  obtain ⟨bC0, bC1⟩ := bC
  clear hC
  obtain ⟨bD0, bD1⟩ := bD
  clear hD
  obtain ⟨bX0, bX1⟩ := bX
  clear hX
  obtain ⟨bY0, bY1⟩ := bY
  clear hY
  have hC : ∀ s, s = 4 ∨ s = 8 → LyC A B C D X Y s := fun s hs => ⟨by unfold C32; omega, by unfold C32; omega, by unfold C32; omega, by unfold C32; omega, by unfold C32; omega, by unfold C32; omega, hs⟩
  have u_a := c32 c_a
  have u_b := c32 c_b
  have u_c := c32 c_c
  have u_d := c32 c_d
  have u_x := c32 c_x
  have u_y := c32 c_y
  unfold C32 at u_a u_b u_c u_d u_x u_y
  clear hv c_a c_b c_c c_d c_x c_y
  have hix := idx8
  have hb := hide (bl_new w (.cells #[.int .i64 v, .int .u32 a, .int .u32 b, .int .u32 c, .int .u32 d, .int .u32 x, .int .u32 y] 24))
  have bx := hide (Bx.new w [.int .i64 v, .int .u32 a, .int .u32 b, .int .u32 c, .int .u32 d, .int .u32 x, .int .u32 y] 24)
  cases wide
  · have Sz := hide (fun w => r14_.SizeB false w)
    obtain ⟨N, hN⟩ : ∃ N, N = totV A B C D X Y 4 := ⟨_, rfl⟩
    have nb : 0 ≤ N ∧ N < 1000000000000 := by rw [hN]; unfold totV; omega
    obtain ⟨nb0, nb1⟩ := nb
    obtain ⟨p1, p2, p3, p4, p5, p6, O0⟩ := Off v A B C D X Y 4 N (hC 4 (by simp)) hN.symm
    obtain ⟨q41, q42, q43, q44, q45, q46, O4⟩ := Off v A B C (D + 1) X Y 4 (N + 4 + 1) ⟨by unfold C32; omega, by unfold C32; omega, by unfold C32; omega, by unfold C32; omega, by unfold C32; omega, by unfold C32; omega, by simp⟩ (by rw [hN]; unfold totV; omega)
    obtain ⟨q51, q52, q53, q54, q55, q56, O5⟩ := Off v A B C D (X + 1) Y 4 (N + 6) ⟨by unfold C32; omega, by unfold C32; omega, by unfold C32; omega, by unfold C32; omega, by unfold C32; omega, by unfold C32; omega, by simp⟩ (by rw [hN]; unfold totV; omega)
    obtain ⟨q61, q62, q63, q64, q65, q66, O6⟩ := Off v A B C D X (Y + 1) 4 (N + 1) ⟨by unfold C32; omega, by unfold C32; omega, by unfold C32; omega, by unfold C32; omega, by unfold C32; omega, by unfold C32; omega, by simp⟩ (by rw [hN]; unfold totV; omega)
    obtain ⟨q31, q32, q33, q34, q35, q36, O3⟩ := Off v A B (C + 1) D X Y 4 (N + 4 + 4) ⟨by unfold C32; omega, by unfold C32; omega, by unfold C32; omega, by unfold C32; omega, by unfold C32; omega, by unfold C32; omega, by simp⟩ (by rw [hN]; unfold totV; omega)
    obtain ⟨q21, q22, q23, q24, q25, q26, O2⟩ := Off v A (B + 1) C D X Y 4 (N + 1) ⟨by unfold C32; omega, by unfold C32; omega, by unfold C32; omega, by unfold C32; omega, by unfold C32; omega, by unfold C32; omega, by simp⟩ (by rw [hN]; unfold totV; omega)
    obtain ⟨q11, q12, q13, q14, q15, q16, O1⟩ := Off v (A + 1) B C D X Y 4 (N + 1) ⟨by unfold C32; omega, by unfold C32; omega, by unfold C32; omega, by unfold C32; omega, by unfold C32; omega, by unfold C32; omega, by simp⟩ (by rw [hN]; unfold totV; omega)
    obtain ⟨r1, r2, r3, r4, r5, r6, P8⟩ := Off v A B C D X Y 8 (totV A B C D X Y 4 + 4 * D + 4 * C) (hC 8 (by simp)) (by unfold totV; omega)
    obtain ⟨s1, s2, s3, s4, s5, s6, P4⟩ := Off v A B C D X Y 4 (totV A B C D X Y 4) (hC 4 (by simp)) rfl
    obtain ⟨M, hM⟩ : ∃ M, M = totV A B C D X Y 4 := ⟨_, rfl⟩
    have mb : 0 ≤ M ∧ M < 1000000000000 := by rw [hM]; unfold totV; omega
    obtain ⟨mb0, mb1⟩ := mb
    rw [← hM] at P8 P4
    replace O0 := hide O0
    replace O4 := hide O4
    replace O5 := hide O5
    replace O6 := hide O6
    replace O3 := hide O3
    replace O2 := hide O2
    replace O1 := hide O1
    replace P8 := hide P8
    replace P4 := hide P4
    clear hN hM hC
    go_enter Try.func5, Try.ntmps5
    go_upto_region 1 with fail
    generalize (w.alloc (.cells #[.int .i64 v, .int .u32 a, .int .u32 b, .int .u32 c, .int .u32 d, .int .u32 x, .int .u32 y] 24)) = w0 at *
    go_wp2_with fail
    refine (awake _).mono ?_
    rintro e w1 ⟨rfl, h1⟩
    replace hb := hide (bel_next hb.out h1)
    replace bx := hide (bx.out.below h1)
    clear h1
    go_wp2_with fail
    refine (Sz.out _).mono ?_
    rintro e w2 ⟨rfl, h1⟩
    replace hb := hide (bel_next hb.out h1)
    replace bx := hide (bx.out.below h1)
    clear h1
    have c7 := cells7' bx.out
    have fr := bx.out.fr
    have bx2 : Hid (Bx ((((((w2.setCell ⟨w.heap.size, 4, none⟩ (.int .u32 D)).setCell ⟨w.heap.size, 5, none⟩ (.int .u32 X)).setCell ⟨w.heap.size, 6, none⟩ (.int .u32 Y)).setCell ⟨w.heap.size, 3, none⟩ (.int .u32 C)).setCell ⟨w.heap.size, 2, none⟩ (.int .u32 B)).setCell ⟨w.heap.size, 1, none⟩ (.int .u32 A)) w.heap.size [.int .i64 v, .int .u32 A, .int .u32 B, .int .u32 C, .int .u32 D, .int .u32 X, .int .u32 Y]) := hide ((((((bx.out.set 4 (.int .u32 D) (by simp)).set 5 (.int .u32 X) (by simp)).set 6 (.int .u32 Y) (by simp)).set 3 (.int .u32 C) (by simp)).set 2 (.int .u32 B) (by simp)).set 1 (.int .u32 A) (by simp))
    have hb2 := hide (bl_set (g := w.heap.size) (o := 1) (bl_set (g := w.heap.size) (o := 2) (bl_set (g := w.heap.size) (o := 3) (bl_set (g := w.heap.size) (o := 6) (bl_set (g := w.heap.size) (o := 5) (bl_set (g := w.heap.size) (o := 4) hb.out (Nat.le_refl _) (.int .u32 D)) (Nat.le_refl _) (.int .u32 X)) (Nat.le_refl _) (.int .u32 Y)) (Nat.le_refl _) (.int .u32 C)) (Nat.le_refl _) (.int .u32 B)) (Nat.le_refl _) (.int .u32 A))
    go_upto_region 10 with fail
    generalize ((((((w2.setCell ⟨w.heap.size, 4, none⟩ (.int .u32 D)).setCell ⟨w.heap.size, 5, none⟩ (.int .u32 X)).setCell ⟨w.heap.size, 6, none⟩ (.int .u32 Y)).setCell ⟨w.heap.size, 3, none⟩ (.int .u32 C)).setCell ⟨w.heap.size, 2, none⟩ (.int .u32 B)).setCell ⟨w.heap.size, 1, none⟩ (.int .u32 A)) = w3 at *
    clear c7 fr bx hb
    have bx := bx2
    have hb := hb2
    clear bx2 hb2
    have c7 := cells7' bx.out
    go_wp2_with fail
    clear c7
    refine (O0.out _).mono ?_
    rintro e w4 ⟨rfl, h1⟩
    replace hb := hide (bel_next hb.out h1)
    replace bx := hide (bx.out.below h1)
    clear h1
    have c7 := cells7' bx.out
    have y4 := hide (Bx.new w4 [.int .i64 v, .int .u32 A, .int .u32 B, .int .u32 C, .int .u32 (D + 1), .int .u32 X, .int .u32 Y] 24)
    replace hb := hide (bl_alloc hb.out (.cells #[.int .i64 v, .int .u32 A, .int .u32 B, .int .u32 C, .int .u32 (D + 1), .int .u32 X, .int .u32 Y] 24))
    replace bx := hide (bx.out.alloc (.cells #[.int .i64 v, .int .u32 A, .int .u32 B, .int .u32 C, .int .u32 (D + 1), .int .u32 X, .int .u32 Y] 24))
    go_upto_region 13 with fail
    generalize (w4.alloc (.cells #[.int .i64 v, .int .u32 A, .int .u32 B, .int .u32 C, .int .u32 (D + 1), .int .u32 X, .int .u32 Y] 24)) = u0 at *
    clear c7
    have c7 := cells7' bx.out
    have y5 := hide (Bx.new u0 [.int .i64 v, .int .u32 A, .int .u32 B, .int .u32 C, .int .u32 D, .int .u32 (X + 1), .int .u32 Y] 24)
    replace hb := hide (bl_alloc hb.out (.cells #[.int .i64 v, .int .u32 A, .int .u32 B, .int .u32 C, .int .u32 D, .int .u32 (X + 1), .int .u32 Y] 24))
    replace bx := hide (bx.out.alloc (.cells #[.int .i64 v, .int .u32 A, .int .u32 B, .int .u32 C, .int .u32 D, .int .u32 (X + 1), .int .u32 Y] 24))
    replace y4 := hide (y4.out.alloc (.cells #[.int .i64 v, .int .u32 A, .int .u32 B, .int .u32 C, .int .u32 D, .int .u32 (X + 1), .int .u32 Y] 24))
    go_upto_region 15 with fail
    generalize (u0.alloc (.cells #[.int .i64 v, .int .u32 A, .int .u32 B, .int .u32 C, .int .u32 D, .int .u32 (X + 1), .int .u32 Y] 24)) = u1 at *
    clear c7
    have c7 := cells7' bx.out
    have y6 := hide (Bx.new u1 [.int .i64 v, .int .u32 A, .int .u32 B, .int .u32 C, .int .u32 D, .int .u32 X, .int .u32 (Y + 1)] 24)
    replace hb := hide (bl_alloc hb.out (.cells #[.int .i64 v, .int .u32 A, .int .u32 B, .int .u32 C, .int .u32 D, .int .u32 X, .int .u32 (Y + 1)] 24))
    replace bx := hide (bx.out.alloc (.cells #[.int .i64 v, .int .u32 A, .int .u32 B, .int .u32 C, .int .u32 D, .int .u32 X, .int .u32 (Y + 1)] 24))
    replace y4 := hide (y4.out.alloc (.cells #[.int .i64 v, .int .u32 A, .int .u32 B, .int .u32 C, .int .u32 D, .int .u32 X, .int .u32 (Y + 1)] 24))
    replace y5 := hide (y5.out.alloc (.cells #[.int .i64 v, .int .u32 A, .int .u32 B, .int .u32 C, .int .u32 D, .int .u32 X, .int .u32 (Y + 1)] 24))
    go_upto_region 17 with fail
    generalize (u1.alloc (.cells #[.int .i64 v, .int .u32 A, .int .u32 B, .int .u32 C, .int .u32 D, .int .u32 X, .int .u32 (Y + 1)] 24)) = u2 at *
    clear c7
    have c7 := cells7' bx.out
    have y3 := hide (Bx.new u2 [.int .i64 v, .int .u32 A, .int .u32 B, .int .u32 (C + 1), .int .u32 D, .int .u32 X, .int .u32 Y] 24)
    replace hb := hide (bl_alloc hb.out (.cells #[.int .i64 v, .int .u32 A, .int .u32 B, .int .u32 (C + 1), .int .u32 D, .int .u32 X, .int .u32 Y] 24))
    replace bx := hide (bx.out.alloc (.cells #[.int .i64 v, .int .u32 A, .int .u32 B, .int .u32 (C + 1), .int .u32 D, .int .u32 X, .int .u32 Y] 24))
    replace y4 := hide (y4.out.alloc (.cells #[.int .i64 v, .int .u32 A, .int .u32 B, .int .u32 (C + 1), .int .u32 D, .int .u32 X, .int .u32 Y] 24))
    replace y5 := hide (y5.out.alloc (.cells #[.int .i64 v, .int .u32 A, .int .u32 B, .int .u32 (C + 1), .int .u32 D, .int .u32 X, .int .u32 Y] 24))
    replace y6 := hide (y6.out.alloc (.cells #[.int .i64 v, .int .u32 A, .int .u32 B, .int .u32 (C + 1), .int .u32 D, .int .u32 X, .int .u32 Y] 24))
    go_upto_region 19 with fail
    generalize (u2.alloc (.cells #[.int .i64 v, .int .u32 A, .int .u32 B, .int .u32 (C + 1), .int .u32 D, .int .u32 X, .int .u32 Y] 24)) = u3 at *
    clear c7
    have c7 := cells7' bx.out
    have y2 := hide (Bx.new u3 [.int .i64 v, .int .u32 A, .int .u32 (B + 1), .int .u32 C, .int .u32 D, .int .u32 X, .int .u32 Y] 24)
    replace hb := hide (bl_alloc hb.out (.cells #[.int .i64 v, .int .u32 A, .int .u32 (B + 1), .int .u32 C, .int .u32 D, .int .u32 X, .int .u32 Y] 24))
    replace bx := hide (bx.out.alloc (.cells #[.int .i64 v, .int .u32 A, .int .u32 (B + 1), .int .u32 C, .int .u32 D, .int .u32 X, .int .u32 Y] 24))
    replace y4 := hide (y4.out.alloc (.cells #[.int .i64 v, .int .u32 A, .int .u32 (B + 1), .int .u32 C, .int .u32 D, .int .u32 X, .int .u32 Y] 24))
    replace y5 := hide (y5.out.alloc (.cells #[.int .i64 v, .int .u32 A, .int .u32 (B + 1), .int .u32 C, .int .u32 D, .int .u32 X, .int .u32 Y] 24))
    replace y6 := hide (y6.out.alloc (.cells #[.int .i64 v, .int .u32 A, .int .u32 (B + 1), .int .u32 C, .int .u32 D, .int .u32 X, .int .u32 Y] 24))
    replace y3 := hide (y3.out.alloc (.cells #[.int .i64 v, .int .u32 A, .int .u32 (B + 1), .int .u32 C, .int .u32 D, .int .u32 X, .int .u32 Y] 24))
    go_upto_region 21 with fail
    generalize (u3.alloc (.cells #[.int .i64 v, .int .u32 A, .int .u32 (B + 1), .int .u32 C, .int .u32 D, .int .u32 X, .int .u32 Y] 24)) = u4 at *
    clear c7
    have c7 := cells7' bx.out
    have y1 := hide (Bx.new u4 [.int .i64 v, .int .u32 (A + 1), .int .u32 B, .int .u32 C, .int .u32 D, .int .u32 X, .int .u32 Y] 24)
    replace hb := hide (bl_alloc hb.out (.cells #[.int .i64 v, .int .u32 (A + 1), .int .u32 B, .int .u32 C, .int .u32 D, .int .u32 X, .int .u32 Y] 24))
    replace bx := hide (bx.out.alloc (.cells #[.int .i64 v, .int .u32 (A + 1), .int .u32 B, .int .u32 C, .int .u32 D, .int .u32 X, .int .u32 Y] 24))
    replace y4 := hide (y4.out.alloc (.cells #[.int .i64 v, .int .u32 (A + 1), .int .u32 B, .int .u32 C, .int .u32 D, .int .u32 X, .int .u32 Y] 24))
    replace y5 := hide (y5.out.alloc (.cells #[.int .i64 v, .int .u32 (A + 1), .int .u32 B, .int .u32 C, .int .u32 D, .int .u32 X, .int .u32 Y] 24))
    replace y6 := hide (y6.out.alloc (.cells #[.int .i64 v, .int .u32 (A + 1), .int .u32 B, .int .u32 C, .int .u32 D, .int .u32 X, .int .u32 Y] 24))
    replace y3 := hide (y3.out.alloc (.cells #[.int .i64 v, .int .u32 (A + 1), .int .u32 B, .int .u32 C, .int .u32 D, .int .u32 X, .int .u32 Y] 24))
    replace y2 := hide (y2.out.alloc (.cells #[.int .i64 v, .int .u32 (A + 1), .int .u32 B, .int .u32 C, .int .u32 D, .int .u32 X, .int .u32 Y] 24))
    go_upto_region 23 with fail
    generalize (u4.alloc (.cells #[.int .i64 v, .int .u32 (A + 1), .int .u32 B, .int .u32 C, .int .u32 D, .int .u32 X, .int .u32 Y] 24)) = u5 at *
    clear c7
    have c7 := cells7' y4.out
    go_wp2_with fail
    clear c7 y4
    refine (O4.out _).mono ?_
    rintro e x0 ⟨rfl, h1⟩
    replace hb := hide (bel_next hb.out h1)
    replace bx := hide (bx.out.below h1)
    replace y5 := hide (y5.out.below h1)
    replace y6 := hide (y6.out.below h1)
    replace y3 := hide (y3.out.below h1)
    replace y2 := hide (y2.out.below h1)
    replace y1 := hide (y1.out.below h1)
    clear h1
    have c7 := cells7' y5.out
    go_wp2_with fail
    clear c7 y5
    refine (O5.out _).mono ?_
    rintro e x1 ⟨rfl, h1⟩
    replace hb := hide (bel_next hb.out h1)
    replace bx := hide (bx.out.below h1)
    replace y6 := hide (y6.out.below h1)
    replace y3 := hide (y3.out.below h1)
    replace y2 := hide (y2.out.below h1)
    replace y1 := hide (y1.out.below h1)
    clear h1
    have c7 := cells7' y6.out
    go_wp2_with fail
    clear c7 y6
    refine (O6.out _).mono ?_
    rintro e x2 ⟨rfl, h1⟩
    replace hb := hide (bel_next hb.out h1)
    replace bx := hide (bx.out.below h1)
    replace y3 := hide (y3.out.below h1)
    replace y2 := hide (y2.out.below h1)
    replace y1 := hide (y1.out.below h1)
    clear h1
    have c7 := cells7' y3.out
    go_wp2_with fail
    clear c7 y3
    refine (O3.out _).mono ?_
    rintro e x3 ⟨rfl, h1⟩
    replace hb := hide (bel_next hb.out h1)
    replace bx := hide (bx.out.below h1)
    replace y2 := hide (y2.out.below h1)
    replace y1 := hide (y1.out.below h1)
    clear h1
    have c7 := cells7' y2.out
    go_wp2_with fail
    clear c7 y2
    refine (O2.out _).mono ?_
    rintro e x4 ⟨rfl, h1⟩
    replace hb := hide (bel_next hb.out h1)
    replace bx := hide (bx.out.below h1)
    replace y1 := hide (y1.out.below h1)
    clear h1
    have c7 := cells7' y1.out
    go_wp2_with fail
    clear c7 y1
    refine (O1.out _).mono ?_
    rintro e x5 ⟨rfl, h1⟩
    replace hb := hide (bel_next hb.out h1)
    replace bx := hide (bx.out.below h1)
    clear h1
    have g5 : IntKind.u64.wrap D = D := by rw [IntKind.wrap_u64]; omega
    have g6 : IntKind.u64.wrap C = C := by rw [IntKind.wrap_u64]; omega
    have g1 : IntKind.u64.wrap (4 * D) = 4 * D := by rw [IntKind.wrap_u64]; omega
    have g2 : IntKind.u64.wrap (4 * C) = 4 * C := by rw [IntKind.wrap_u64]; omega
    have g3 : IntKind.u64.wrap (M + 4 * D) = M + 4 * D := by rw [IntKind.wrap_u64]; omega
    have g4 : IntKind.u64.wrap (M + 4 * D + 4 * C) = M + 4 * D + 4 * C := by rw [IntKind.wrap_u64]; omega
    go_upto_region 26 with fail
    go_region_held3 (fun w' => w'.cell? ⟨w.heap.size, 0, none⟩ = some (.int .i64 v) ∧ w'.cell? ⟨w.heap.size, 1, none⟩ = some (.int .u32 A) ∧ w'.cell? ⟨w.heap.size, 2, none⟩ = some (.int .u32 B) ∧ w'.cell? ⟨w.heap.size, 3, none⟩ = some (.int .u32 C) ∧ w'.cell? ⟨w.heap.size, 4, none⟩ = some (.int .u32 D) ∧ w'.cell? ⟨w.heap.size, 5, none⟩ = some (.int .u32 X) ∧ w'.cell? ⟨w.heap.size, 6, none⟩ = some (.int .u32 Y) ∧ Hid (Below w.heap.size w w'))
      (first
        | exact ⟨(cells7' bx.out).1, (cells7' bx.out).2.1, (cells7' bx.out).2.2.1, (cells7' bx.out).2.2.2.1, (cells7' bx.out).2.2.2.2.1, (cells7' bx.out).2.2.2.2.2.1, (cells7' bx.out).2.2.2.2.2.2, by first | exact hb | exact hide (bl_drew hb.out)⟩
        | (go_split_ands; refine ⟨?_, ?_, ?_, ?_, ?_, ?_, ?_, ?_⟩ <;> first | exact cellE h1 (by assumption) | exact hide (bel_next (Hid.out (by assumption)) h1)))
      (first
        | (go_at_call 13; go_split_ands; with_reducible refine (P8.out _).mono ?_; rintro e w8 ⟨rfl, h1⟩)
        | (go_at_call 13; go_split_ands; with_reducible refine (P4.out _).mono ?_; rintro e w9 ⟨rfl, h1⟩))
    go_wp2
    all_goals
      go_ret
      go_split_ands
      exact ⟨retb (by first | rfl | (simp; done) | (simp [g1, g2, g3, g4, g5, g6]; done) | (simp [g1, g2, g3, g4, g5, g6]; omega)), Hid.out (by assumption)⟩
  · have Sz := hide (fun w => r14_.SizeB true w)
    obtain ⟨N, hN⟩ : ∃ N, N = totV A B C D X Y 8 := ⟨_, rfl⟩
    have nb : 0 ≤ N ∧ N < 1000000000000 := by rw [hN]; unfold totV; omega
    obtain ⟨nb0, nb1⟩ := nb
    obtain ⟨p1, p2, p3, p4, p5, p6, O0⟩ := Off v A B C D X Y 8 N (hC 8 (by simp)) hN.symm
    obtain ⟨q41, q42, q43, q44, q45, q46, O4⟩ := Off v A B C (D + 1) X Y 8 (N + 8 + 1) ⟨by unfold C32; omega, by unfold C32; omega, by unfold C32; omega, by unfold C32; omega, by unfold C32; omega, by unfold C32; omega, by simp⟩ (by rw [hN]; unfold totV; omega)
    obtain ⟨q51, q52, q53, q54, q55, q56, O5⟩ := Off v A B C D (X + 1) Y 8 (N + 6) ⟨by unfold C32; omega, by unfold C32; omega, by unfold C32; omega, by unfold C32; omega, by unfold C32; omega, by unfold C32; omega, by simp⟩ (by rw [hN]; unfold totV; omega)
    obtain ⟨q61, q62, q63, q64, q65, q66, O6⟩ := Off v A B C D X (Y + 1) 8 (N + 1) ⟨by unfold C32; omega, by unfold C32; omega, by unfold C32; omega, by unfold C32; omega, by unfold C32; omega, by unfold C32; omega, by simp⟩ (by rw [hN]; unfold totV; omega)
    obtain ⟨q31, q32, q33, q34, q35, q36, O3⟩ := Off v A B (C + 1) D X Y 8 (N + 8 + 4) ⟨by unfold C32; omega, by unfold C32; omega, by unfold C32; omega, by unfold C32; omega, by unfold C32; omega, by unfold C32; omega, by simp⟩ (by rw [hN]; unfold totV; omega)
    obtain ⟨q21, q22, q23, q24, q25, q26, O2⟩ := Off v A (B + 1) C D X Y 8 (N + 1) ⟨by unfold C32; omega, by unfold C32; omega, by unfold C32; omega, by unfold C32; omega, by unfold C32; omega, by unfold C32; omega, by simp⟩ (by rw [hN]; unfold totV; omega)
    obtain ⟨q11, q12, q13, q14, q15, q16, O1⟩ := Off v (A + 1) B C D X Y 8 (N + 1) ⟨by unfold C32; omega, by unfold C32; omega, by unfold C32; omega, by unfold C32; omega, by unfold C32; omega, by unfold C32; omega, by simp⟩ (by rw [hN]; unfold totV; omega)
    obtain ⟨r1, r2, r3, r4, r5, r6, P8⟩ := Off v A B C D X Y 8 (totV A B C D X Y 4 + 4 * D + 4 * C) (hC 8 (by simp)) (by unfold totV; omega)
    obtain ⟨s1, s2, s3, s4, s5, s6, P4⟩ := Off v A B C D X Y 4 (totV A B C D X Y 4) (hC 4 (by simp)) rfl
    obtain ⟨M, hM⟩ : ∃ M, M = totV A B C D X Y 4 := ⟨_, rfl⟩
    have mb : 0 ≤ M ∧ M < 1000000000000 := by rw [hM]; unfold totV; omega
    obtain ⟨mb0, mb1⟩ := mb
    rw [← hM] at P8 P4
    replace O0 := hide O0
    replace O4 := hide O4
    replace O5 := hide O5
    replace O6 := hide O6
    replace O3 := hide O3
    replace O2 := hide O2
    replace O1 := hide O1
    replace P8 := hide P8
    replace P4 := hide P4
    clear hN hM hC
    go_enter Try.func5, Try.ntmps5
    go_upto_region 1 with fail
    generalize (w.alloc (.cells #[.int .i64 v, .int .u32 a, .int .u32 b, .int .u32 c, .int .u32 d, .int .u32 x, .int .u32 y] 24)) = w0 at *
    go_wp2_with fail
    refine (awake _).mono ?_
    rintro e w1 ⟨rfl, h1⟩
    replace hb := hide (bel_next hb.out h1)
    replace bx := hide (bx.out.below h1)
    clear h1
    go_wp2_with fail
    refine (Sz.out _).mono ?_
    rintro e w2 ⟨rfl, h1⟩
    replace hb := hide (bel_next hb.out h1)
    replace bx := hide (bx.out.below h1)
    clear h1
    have c7 := cells7' bx.out
    have fr := bx.out.fr
    have bx2 : Hid (Bx ((((((w2.setCell ⟨w.heap.size, 4, none⟩ (.int .u32 D)).setCell ⟨w.heap.size, 5, none⟩ (.int .u32 X)).setCell ⟨w.heap.size, 6, none⟩ (.int .u32 Y)).setCell ⟨w.heap.size, 3, none⟩ (.int .u32 C)).setCell ⟨w.heap.size, 2, none⟩ (.int .u32 B)).setCell ⟨w.heap.size, 1, none⟩ (.int .u32 A)) w.heap.size [.int .i64 v, .int .u32 A, .int .u32 B, .int .u32 C, .int .u32 D, .int .u32 X, .int .u32 Y]) := hide ((((((bx.out.set 4 (.int .u32 D) (by simp)).set 5 (.int .u32 X) (by simp)).set 6 (.int .u32 Y) (by simp)).set 3 (.int .u32 C) (by simp)).set 2 (.int .u32 B) (by simp)).set 1 (.int .u32 A) (by simp))
    have hb2 := hide (bl_set (g := w.heap.size) (o := 1) (bl_set (g := w.heap.size) (o := 2) (bl_set (g := w.heap.size) (o := 3) (bl_set (g := w.heap.size) (o := 6) (bl_set (g := w.heap.size) (o := 5) (bl_set (g := w.heap.size) (o := 4) hb.out (Nat.le_refl _) (.int .u32 D)) (Nat.le_refl _) (.int .u32 X)) (Nat.le_refl _) (.int .u32 Y)) (Nat.le_refl _) (.int .u32 C)) (Nat.le_refl _) (.int .u32 B)) (Nat.le_refl _) (.int .u32 A))
    go_upto_region 10 with fail
    generalize ((((((w2.setCell ⟨w.heap.size, 4, none⟩ (.int .u32 D)).setCell ⟨w.heap.size, 5, none⟩ (.int .u32 X)).setCell ⟨w.heap.size, 6, none⟩ (.int .u32 Y)).setCell ⟨w.heap.size, 3, none⟩ (.int .u32 C)).setCell ⟨w.heap.size, 2, none⟩ (.int .u32 B)).setCell ⟨w.heap.size, 1, none⟩ (.int .u32 A)) = w3 at *
    clear c7 fr bx hb
    have bx := bx2
    have hb := hb2
    clear bx2 hb2
    have c7 := cells7' bx.out
    go_wp2_with fail
    clear c7
    refine (O0.out _).mono ?_
    rintro e w4 ⟨rfl, h1⟩
    replace hb := hide (bel_next hb.out h1)
    replace bx := hide (bx.out.below h1)
    clear h1
    have c7 := cells7' bx.out
    have y4 := hide (Bx.new w4 [.int .i64 v, .int .u32 A, .int .u32 B, .int .u32 C, .int .u32 (D + 1), .int .u32 X, .int .u32 Y] 24)
    replace hb := hide (bl_alloc hb.out (.cells #[.int .i64 v, .int .u32 A, .int .u32 B, .int .u32 C, .int .u32 (D + 1), .int .u32 X, .int .u32 Y] 24))
    replace bx := hide (bx.out.alloc (.cells #[.int .i64 v, .int .u32 A, .int .u32 B, .int .u32 C, .int .u32 (D + 1), .int .u32 X, .int .u32 Y] 24))
    go_upto_region 13 with fail
    generalize (w4.alloc (.cells #[.int .i64 v, .int .u32 A, .int .u32 B, .int .u32 C, .int .u32 (D + 1), .int .u32 X, .int .u32 Y] 24)) = u0 at *
    clear c7
    have c7 := cells7' bx.out
    have y5 := hide (Bx.new u0 [.int .i64 v, .int .u32 A, .int .u32 B, .int .u32 C, .int .u32 D, .int .u32 (X + 1), .int .u32 Y] 24)
    replace hb := hide (bl_alloc hb.out (.cells #[.int .i64 v, .int .u32 A, .int .u32 B, .int .u32 C, .int .u32 D, .int .u32 (X + 1), .int .u32 Y] 24))
    replace bx := hide (bx.out.alloc (.cells #[.int .i64 v, .int .u32 A, .int .u32 B, .int .u32 C, .int .u32 D, .int .u32 (X + 1), .int .u32 Y] 24))
    replace y4 := hide (y4.out.alloc (.cells #[.int .i64 v, .int .u32 A, .int .u32 B, .int .u32 C, .int .u32 D, .int .u32 (X + 1), .int .u32 Y] 24))
    go_upto_region 15 with fail
    generalize (u0.alloc (.cells #[.int .i64 v, .int .u32 A, .int .u32 B, .int .u32 C, .int .u32 D, .int .u32 (X + 1), .int .u32 Y] 24)) = u1 at *
    clear c7
    have c7 := cells7' bx.out
    have y6 := hide (Bx.new u1 [.int .i64 v, .int .u32 A, .int .u32 B, .int .u32 C, .int .u32 D, .int .u32 X, .int .u32 (Y + 1)] 24)
    replace hb := hide (bl_alloc hb.out (.cells #[.int .i64 v, .int .u32 A, .int .u32 B, .int .u32 C, .int .u32 D, .int .u32 X, .int .u32 (Y + 1)] 24))
    replace bx := hide (bx.out.alloc (.cells #[.int .i64 v, .int .u32 A, .int .u32 B, .int .u32 C, .int .u32 D, .int .u32 X, .int .u32 (Y + 1)] 24))
    replace y4 := hide (y4.out.alloc (.cells #[.int .i64 v, .int .u32 A, .int .u32 B, .int .u32 C, .int .u32 D, .int .u32 X, .int .u32 (Y + 1)] 24))
    replace y5 := hide (y5.out.alloc (.cells #[.int .i64 v, .int .u32 A, .int .u32 B, .int .u32 C, .int .u32 D, .int .u32 X, .int .u32 (Y + 1)] 24))
    go_upto_region 17 with fail
    generalize (u1.alloc (.cells #[.int .i64 v, .int .u32 A, .int .u32 B, .int .u32 C, .int .u32 D, .int .u32 X, .int .u32 (Y + 1)] 24)) = u2 at *
    clear c7
    have c7 := cells7' bx.out
    have y3 := hide (Bx.new u2 [.int .i64 v, .int .u32 A, .int .u32 B, .int .u32 (C + 1), .int .u32 D, .int .u32 X, .int .u32 Y] 24)
    replace hb := hide (bl_alloc hb.out (.cells #[.int .i64 v, .int .u32 A, .int .u32 B, .int .u32 (C + 1), .int .u32 D, .int .u32 X, .int .u32 Y] 24))
    replace bx := hide (bx.out.alloc (.cells #[.int .i64 v, .int .u32 A, .int .u32 B, .int .u32 (C + 1), .int .u32 D, .int .u32 X, .int .u32 Y] 24))
    replace y4 := hide (y4.out.alloc (.cells #[.int .i64 v, .int .u32 A, .int .u32 B, .int .u32 (C + 1), .int .u32 D, .int .u32 X, .int .u32 Y] 24))
    replace y5 := hide (y5.out.alloc (.cells #[.int .i64 v, .int .u32 A, .int .u32 B, .int .u32 (C + 1), .int .u32 D, .int .u32 X, .int .u32 Y] 24))
    replace y6 := hide (y6.out.alloc (.cells #[.int .i64 v, .int .u32 A, .int .u32 B, .int .u32 (C + 1), .int .u32 D, .int .u32 X, .int .u32 Y] 24))
    go_upto_region 19 with fail
    generalize (u2.alloc (.cells #[.int .i64 v, .int .u32 A, .int .u32 B, .int .u32 (C + 1), .int .u32 D, .int .u32 X, .int .u32 Y] 24)) = u3 at *
    clear c7
    have c7 := cells7' bx.out
    have y2 := hide (Bx.new u3 [.int .i64 v, .int .u32 A, .int .u32 (B + 1), .int .u32 C, .int .u32 D, .int .u32 X, .int .u32 Y] 24)
    replace hb := hide (bl_alloc hb.out (.cells #[.int .i64 v, .int .u32 A, .int .u32 (B + 1), .int .u32 C, .int .u32 D, .int .u32 X, .int .u32 Y] 24))
    replace bx := hide (bx.out.alloc (.cells #[.int .i64 v, .int .u32 A, .int .u32 (B + 1), .int .u32 C, .int .u32 D, .int .u32 X, .int .u32 Y] 24))
    replace y4 := hide (y4.out.alloc (.cells #[.int .i64 v, .int .u32 A, .int .u32 (B + 1), .int .u32 C, .int .u32 D, .int .u32 X, .int .u32 Y] 24))
    replace y5 := hide (y5.out.alloc (.cells #[.int .i64 v, .int .u32 A, .int .u32 (B + 1), .int .u32 C, .int .u32 D, .int .u32 X, .int .u32 Y] 24))
    replace y6 := hide (y6.out.alloc (.cells #[.int .i64 v, .int .u32 A, .int .u32 (B + 1), .int .u32 C, .int .u32 D, .int .u32 X, .int .u32 Y] 24))
    replace y3 := hide (y3.out.alloc (.cells #[.int .i64 v, .int .u32 A, .int .u32 (B + 1), .int .u32 C, .int .u32 D, .int .u32 X, .int .u32 Y] 24))
    go_upto_region 21 with fail
    generalize (u3.alloc (.cells #[.int .i64 v, .int .u32 A, .int .u32 (B + 1), .int .u32 C, .int .u32 D, .int .u32 X, .int .u32 Y] 24)) = u4 at *
    clear c7
    have c7 := cells7' bx.out
    have y1 := hide (Bx.new u4 [.int .i64 v, .int .u32 (A + 1), .int .u32 B, .int .u32 C, .int .u32 D, .int .u32 X, .int .u32 Y] 24)
    replace hb := hide (bl_alloc hb.out (.cells #[.int .i64 v, .int .u32 (A + 1), .int .u32 B, .int .u32 C, .int .u32 D, .int .u32 X, .int .u32 Y] 24))
    replace bx := hide (bx.out.alloc (.cells #[.int .i64 v, .int .u32 (A + 1), .int .u32 B, .int .u32 C, .int .u32 D, .int .u32 X, .int .u32 Y] 24))
    replace y4 := hide (y4.out.alloc (.cells #[.int .i64 v, .int .u32 (A + 1), .int .u32 B, .int .u32 C, .int .u32 D, .int .u32 X, .int .u32 Y] 24))
    replace y5 := hide (y5.out.alloc (.cells #[.int .i64 v, .int .u32 (A + 1), .int .u32 B, .int .u32 C, .int .u32 D, .int .u32 X, .int .u32 Y] 24))
    replace y6 := hide (y6.out.alloc (.cells #[.int .i64 v, .int .u32 (A + 1), .int .u32 B, .int .u32 C, .int .u32 D, .int .u32 X, .int .u32 Y] 24))
    replace y3 := hide (y3.out.alloc (.cells #[.int .i64 v, .int .u32 (A + 1), .int .u32 B, .int .u32 C, .int .u32 D, .int .u32 X, .int .u32 Y] 24))
    replace y2 := hide (y2.out.alloc (.cells #[.int .i64 v, .int .u32 (A + 1), .int .u32 B, .int .u32 C, .int .u32 D, .int .u32 X, .int .u32 Y] 24))
    go_upto_region 23 with fail
    generalize (u4.alloc (.cells #[.int .i64 v, .int .u32 (A + 1), .int .u32 B, .int .u32 C, .int .u32 D, .int .u32 X, .int .u32 Y] 24)) = u5 at *
    clear c7
    have c7 := cells7' y4.out
    go_wp2_with fail
    clear c7 y4
    refine (O4.out _).mono ?_
    rintro e x0 ⟨rfl, h1⟩
    replace hb := hide (bel_next hb.out h1)
    replace bx := hide (bx.out.below h1)
    replace y5 := hide (y5.out.below h1)
    replace y6 := hide (y6.out.below h1)
    replace y3 := hide (y3.out.below h1)
    replace y2 := hide (y2.out.below h1)
    replace y1 := hide (y1.out.below h1)
    clear h1
    have c7 := cells7' y5.out
    go_wp2_with fail
    clear c7 y5
    refine (O5.out _).mono ?_
    rintro e x1 ⟨rfl, h1⟩
    replace hb := hide (bel_next hb.out h1)
    replace bx := hide (bx.out.below h1)
    replace y6 := hide (y6.out.below h1)
    replace y3 := hide (y3.out.below h1)
    replace y2 := hide (y2.out.below h1)
    replace y1 := hide (y1.out.below h1)
    clear h1
    have c7 := cells7' y6.out
    go_wp2_with fail
    clear c7 y6
    refine (O6.out _).mono ?_
    rintro e x2 ⟨rfl, h1⟩
    replace hb := hide (bel_next hb.out h1)
    replace bx := hide (bx.out.below h1)
    replace y3 := hide (y3.out.below h1)
    replace y2 := hide (y2.out.below h1)
    replace y1 := hide (y1.out.below h1)
    clear h1
    have c7 := cells7' y3.out
    go_wp2_with fail
    clear c7 y3
    refine (O3.out _).mono ?_
    rintro e x3 ⟨rfl, h1⟩
    replace hb := hide (bel_next hb.out h1)
    replace bx := hide (bx.out.below h1)
    replace y2 := hide (y2.out.below h1)
    replace y1 := hide (y1.out.below h1)
    clear h1
    have c7 := cells7' y2.out
    go_wp2_with fail
    clear c7 y2
    refine (O2.out _).mono ?_
    rintro e x4 ⟨rfl, h1⟩
    replace hb := hide (bel_next hb.out h1)
    replace bx := hide (bx.out.below h1)
    replace y1 := hide (y1.out.below h1)
    clear h1
    have c7 := cells7' y1.out
    go_wp2_with fail
    clear c7 y1
    refine (O1.out _).mono ?_
    rintro e x5 ⟨rfl, h1⟩
    replace hb := hide (bel_next hb.out h1)
    replace bx := hide (bx.out.below h1)
    clear h1
    have g5 : IntKind.u64.wrap D = D := by rw [IntKind.wrap_u64]; omega
    have g6 : IntKind.u64.wrap C = C := by rw [IntKind.wrap_u64]; omega
    have g1 : IntKind.u64.wrap (4 * D) = 4 * D := by rw [IntKind.wrap_u64]; omega
    have g2 : IntKind.u64.wrap (4 * C) = 4 * C := by rw [IntKind.wrap_u64]; omega
    have g3 : IntKind.u64.wrap (M + 4 * D) = M + 4 * D := by rw [IntKind.wrap_u64]; omega
    have g4 : IntKind.u64.wrap (M + 4 * D + 4 * C) = M + 4 * D + 4 * C := by rw [IntKind.wrap_u64]; omega
    go_upto_region 26 with fail
    go_region_held3 (fun w' => w'.cell? ⟨w.heap.size, 0, none⟩ = some (.int .i64 v) ∧ w'.cell? ⟨w.heap.size, 1, none⟩ = some (.int .u32 A) ∧ w'.cell? ⟨w.heap.size, 2, none⟩ = some (.int .u32 B) ∧ w'.cell? ⟨w.heap.size, 3, none⟩ = some (.int .u32 C) ∧ w'.cell? ⟨w.heap.size, 4, none⟩ = some (.int .u32 D) ∧ w'.cell? ⟨w.heap.size, 5, none⟩ = some (.int .u32 X) ∧ w'.cell? ⟨w.heap.size, 6, none⟩ = some (.int .u32 Y) ∧ Hid (Below w.heap.size w w'))
      (first
        | exact ⟨(cells7' bx.out).1, (cells7' bx.out).2.1, (cells7' bx.out).2.2.1, (cells7' bx.out).2.2.2.1, (cells7' bx.out).2.2.2.2.1, (cells7' bx.out).2.2.2.2.2.1, (cells7' bx.out).2.2.2.2.2.2, by first | exact hb | exact hide (bl_drew hb.out)⟩
        | (go_split_ands; refine ⟨?_, ?_, ?_, ?_, ?_, ?_, ?_, ?_⟩ <;> first | exact cellE h1 (by assumption) | exact hide (bel_next (Hid.out (by assumption)) h1)))
      (first
        | (go_at_call 13; go_split_ands; with_reducible refine (P8.out _).mono ?_; rintro e w8 ⟨rfl, h1⟩)
        | (go_at_call 13; go_split_ands; with_reducible refine (P4.out _).mono ?_; rintro e w9 ⟨rfl, h1⟩))
    go_wp2
    all_goals
      go_ret
      go_split_ands
      exact ⟨retb (by first | rfl | (simp; done) | (simp [g1, g2, g3, g4, g5, g6]; done) | (simp [g1, g2, g3, g4, g5, g6]; omega)), Hid.out (by assumption)⟩
end l14_
end Go.Proofs.Ytggjokiiemnkhaa
