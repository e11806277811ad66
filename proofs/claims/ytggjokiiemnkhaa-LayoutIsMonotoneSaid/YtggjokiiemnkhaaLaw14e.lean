/-
  THE WALKS OF THE LAWS OF LAYER 14 (zoneinfolaw14): LayoutIsMonotone. No conditions.
-/
import Derived.Test.YtggjokiiemnkhaaLaw14a
namespace Go.Proofs.Ytggjokiiemnkhaa
open Go.ChangeShapes Go.WideShapes Go.ChangeAt Go.RowKit
open r14_ (cells7' cells8 bx_snd)
set_option linter.unusedVariables false
theorem mx_ {p q : Int} (hp : C32 p) (hq : C32 q) : ∃ m, (if p < q then q else p) = m ∧ C32 m ∧ p ≤ m := by
  refine ⟨_, rfl, ?_, ?_⟩ <;> split <;> first | assumption | omega
namespace l14_
set_option maxRecDepth 100000 in
set_option maxHeartbeats 8000000 in
theorem monotone (v a b c d x y v' a' b' c' d' x' y' : Int) (wide : Bool) (t : Int) (w : World) (hv : (Lit.int .i64 v).wf = true) (c_a : (Lit.int .u32 a).wf = true) (c_b : (Lit.int .u32 b).wf = true) (c_c : (Lit.int .u32 c).wf = true) (c_d : (Lit.int .u32 d).wf = true) (c_x : (Lit.int .u32 x).wf = true) (c_y : (Lit.int .u32 y).wf = true) (hv' : (Lit.int .i64 v').wf = true) (c_a' : (Lit.int .u32 a').wf = true) (c_b' : (Lit.int .u32 b').wf = true) (c_c' : (Lit.int .u32 c').wf = true) (c_d' : (Lit.int .u32 d').wf = true) (c_x' : (Lit.int .u32 x').wf = true) (c_y' : (Lit.int .u32 y').wf = true) (ht : (Lit.int .u64 t).wf = true) :
    Calls Try.prog 6 #[.agg #[.int .i64 v, .int .u32 a, .int .u32 b, .int .u32 c, .int .u32 d, .int .u32 x, .int .u32 y], .agg #[.int .i64 v', .int .u32 a', .int .u32 b', .int .u32 c', .int .u32 d', .int .u32 x', .int .u32 y'], .bool wide, .int .u64 t] w fun e w' => e = .returned (.bool true) ∧ Below w.heap.size w w' := by
  obtain ⟨t0, t1⟩ := wf_u64 ht
  replace c_a := c32 c_a
  replace c_b := c32 c_b
  replace c_c := c32 c_c
  replace c_d := c32 c_d
  replace c_x := c32 c_x
  replace c_y := c32 c_y
  replace c_a' := c32 c_a'
  replace c_b' := c32 c_b'
  replace c_c' := c32 c_c'
  replace c_d' := c32 c_d'
  replace c_x' := c32 c_x'
  replace c_y' := c32 c_y'
  obtain ⟨am, e_a, k_a, l1⟩ : ∃ m, (if a < a' then a' else a) = m ∧ C32 m ∧ a ≤ m := mx_ c_a c_a'
  obtain ⟨bm, e_b, k_b, l2⟩ : ∃ m, (if b < b' then b' else b) = m ∧ C32 m ∧ b ≤ m := mx_ c_b c_b'
  obtain ⟨cm, e_c, k_c, l3⟩ : ∃ m, (if c < c' then c' else c) = m ∧ C32 m ∧ c ≤ m := mx_ c_c c_c'
  obtain ⟨dm, e_d, k_d, l4⟩ : ∃ m, (if d < d' then d' else d) = m ∧ C32 m ∧ d ≤ m := mx_ c_d c_d'
  obtain ⟨xm, e_x, k_x, l5⟩ : ∃ m, (if x < x' then x' else x) = m ∧ C32 m ∧ x ≤ m := mx_ c_x c_x'
  obtain ⟨ym, e_y, k_y, l6⟩ : ∃ m, (if y < y' then y' else y) = m ∧ C32 m ∧ y ≤ m := mx_ c_y c_y'
  have hC : ∀ s, s = 4 ∨ s = 8 → LyC a b c d x y s := fun s hs => ⟨c_a, c_b, c_c, c_d, c_x, c_y, hs⟩
  have hM : ∀ s, s = 4 ∨ s = 8 → LyC am bm cm dm xm ym s := fun s hs => ⟨k_a, k_b, k_c, k_d, k_x, k_y, hs⟩
  clear hv hv' ht c_a c_b c_c c_d c_x c_y c_a' c_b' c_c' c_d' c_x' c_y' k_a k_b k_c k_d k_x k_y
  have hb := hide (bl_alloc (bl_new w (.cells #[.int .i64 v, .int .u32 a, .int .u32 b, .int .u32 c, .int .u32 d, .int .u32 x, .int .u32 y] 24)) (.cells #[.int .i64 v', .int .u32 a', .int .u32 b', .int .u32 c', .int .u32 d', .int .u32 x', .int .u32 y'] 24))
  have bx := hide ((Bx.new w [.int .i64 v, .int .u32 a, .int .u32 b, .int .u32 c, .int .u32 d, .int .u32 x, .int .u32 y] 24).alloc (.cells #[.int .i64 v', .int .u32 a', .int .u32 b', .int .u32 c', .int .u32 d', .int .u32 x', .int .u32 y'] 24))
  have by_ := hide (bx_snd w (.cells #[.int .i64 v, .int .u32 a, .int .u32 b, .int .u32 c, .int .u32 d, .int .u32 x, .int .u32 y] 24) [.int .i64 v', .int .u32 a', .int .u32 b', .int .u32 c', .int .u32 d', .int .u32 x', .int .u32 y'] 24)
  cases wide
  · have C := hide (hC 4 (by simp))
    have M := hide (hM 4 (by simp))
    have Sz := hide (fun w => r14_.SizeB false w)
    obtain ⟨T, hT⟩ : ∃ T, T = totV a b c d x y 4 := ⟨_, rfl⟩
    obtain ⟨U, hU⟩ : ∃ U, U = totV am bm cm dm xm ym 4 := ⟨_, rfl⟩
    have hTU : T ≤ U := by rw [hT, hU]; unfold totV; omega
    have Ty := fun h => hide (fun w => ly_.Total_yes v a b c d x y 4 t w C.out h t1)
    have Tn := fun h => hide (fun w => ly_.Total_no v a b c d x y 4 t w C.out t0 h)
    have Uy := fun h => hide (fun w => ly_.Total_yes 0 am bm cm dm xm ym 4 t w M.out h t1)
    have Un := fun h => hide (fun w => ly_.Total_no 0 am bm cm dm xm ym 4 t w M.out t0 h)
    rw [← hT] at Ty Tn
    rw [← hU] at Uy Un
    clear hT hU hC hM l1 l2 l3 l4 l5 l6
    by_cases h1 : U ≤ t
    · have Uu := Uy h1
      have Tt := Ty (by omega)
      clear Ty Tn Uy Un
      go_enter Try.func6, Try.ntmps6
      go_upto_region 1 with fail
      generalize ((w.alloc (.cells #[.int .i64 v, .int .u32 a, .int .u32 b, .int .u32 c, .int .u32 d, .int .u32 x, .int .u32 y] 24)).alloc (.cells #[.int .i64 v', .int .u32 a', .int .u32 b', .int .u32 c', .int .u32 d', .int .u32 x', .int .u32 y'] 24)) = w0 at *
      go_wp2_with fail
      refine (awake _).mono ?_
      rintro e w1 ⟨rfl, h1⟩
      replace hb := hide (bel_next hb.out h1)
      replace bx := hide (bx.out.below h1)
      replace by_ := hide (by_.out.below h1)
      clear h1
      go_wp2_with fail
      refine (Sz.out _).mono ?_
      rintro e w2 ⟨rfl, h1⟩
      replace hb := hide (bel_next hb.out h1)
      replace bx := hide (bx.out.below h1)
      replace by_ := hide (by_.out.below h1)
      clear h1
      have c7 := cells7' bx.out
      have d7 := cells7' by_.out
      replace hb := hide (bl_alloc hb.out (.cells #[.int .i64 0, .int .u32 am, .int .u32 bm, .int .u32 cm, .int .u32 dm, .int .u32 xm, .int .u32 ym] 24))
      replace bx := hide (bx.out.alloc (.cells #[.int .i64 0, .int .u32 am, .int .u32 bm, .int .u32 cm, .int .u32 dm, .int .u32 xm, .int .u32 ym] 24))
      have bz := hide (Bx.new w2 [.int .i64 0, .int .u32 am, .int .u32 bm, .int .u32 cm, .int .u32 dm, .int .u32 xm, .int .u32 ym] 24)
      go_upto_region 5 with fail
      generalize (w2.alloc (.cells #[.int .i64 0, .int .u32 am, .int .u32 bm, .int .u32 cm, .int .u32 dm, .int .u32 xm, .int .u32 ym] 24)) = w3 at *
      clear c7 d7 by_
      have e7 := cells7' bz.out
      go_wp2_with fail
      clear e7 bz
      refine (Uu.out _).mono ?_
      rintro e w4 ⟨rfl, h1⟩
      replace hb := hide (bel_next hb.out h1)
      replace bx := hide (bx.out.below h1)
      clear h1
      have c7 := cells7' bx.out
      go_wp2_with fail
      clear c7
      refine (Tt.out _).mono ?_
      rintro e w5 ⟨rfl, h1⟩
      replace hb := hide (bel_next hb.out h1)
      replace bx := hide (bx.out.below h1)
      clear h1
      go_wp2
      go_ret
      exact ⟨retb (by first | rfl | (simp; omega)), hb.out⟩
    · by_cases h2 : T ≤ t
      · have Uu := Un (by omega)
        have Tt := Ty h2
        clear Ty Tn Uy Un
        go_enter Try.func6, Try.ntmps6
        go_upto_region 1 with fail
        generalize ((w.alloc (.cells #[.int .i64 v, .int .u32 a, .int .u32 b, .int .u32 c, .int .u32 d, .int .u32 x, .int .u32 y] 24)).alloc (.cells #[.int .i64 v', .int .u32 a', .int .u32 b', .int .u32 c', .int .u32 d', .int .u32 x', .int .u32 y'] 24)) = w0 at *
        go_wp2_with fail
        refine (awake _).mono ?_
        rintro e w1 ⟨rfl, h1⟩
        replace hb := hide (bel_next hb.out h1)
        replace bx := hide (bx.out.below h1)
        replace by_ := hide (by_.out.below h1)
        clear h1
        go_wp2_with fail
        refine (Sz.out _).mono ?_
        rintro e w2 ⟨rfl, h1⟩
        replace hb := hide (bel_next hb.out h1)
        replace bx := hide (bx.out.below h1)
        replace by_ := hide (by_.out.below h1)
        clear h1
        have c7 := cells7' bx.out
        have d7 := cells7' by_.out
        replace hb := hide (bl_alloc hb.out (.cells #[.int .i64 0, .int .u32 am, .int .u32 bm, .int .u32 cm, .int .u32 dm, .int .u32 xm, .int .u32 ym] 24))
        replace bx := hide (bx.out.alloc (.cells #[.int .i64 0, .int .u32 am, .int .u32 bm, .int .u32 cm, .int .u32 dm, .int .u32 xm, .int .u32 ym] 24))
        have bz := hide (Bx.new w2 [.int .i64 0, .int .u32 am, .int .u32 bm, .int .u32 cm, .int .u32 dm, .int .u32 xm, .int .u32 ym] 24)
        go_upto_region 5 with fail
        generalize (w2.alloc (.cells #[.int .i64 0, .int .u32 am, .int .u32 bm, .int .u32 cm, .int .u32 dm, .int .u32 xm, .int .u32 ym] 24)) = w3 at *
        clear c7 d7 by_
        have e7 := cells7' bz.out
        go_wp2_with fail
        clear e7 bz
        refine (Uu.out _).mono ?_
        rintro e w4 ⟨rfl, h1⟩
        replace hb := hide (bel_next hb.out h1)
        replace bx := hide (bx.out.below h1)
        clear h1
        have c7 := cells7' bx.out
        go_wp2_with fail
        clear c7
        refine (Tt.out _).mono ?_
        rintro e w5 ⟨rfl, h1⟩
        replace hb := hide (bel_next hb.out h1)
        replace bx := hide (bx.out.below h1)
        clear h1
        go_wp2
        go_ret
        exact ⟨retb (by first | rfl | (simp; omega)), hb.out⟩
      · have Uu := Un (by omega)
        have Tt := Tn (by omega)
        clear Ty Tn Uy Un
        go_enter Try.func6, Try.ntmps6
        go_upto_region 1 with fail
        generalize ((w.alloc (.cells #[.int .i64 v, .int .u32 a, .int .u32 b, .int .u32 c, .int .u32 d, .int .u32 x, .int .u32 y] 24)).alloc (.cells #[.int .i64 v', .int .u32 a', .int .u32 b', .int .u32 c', .int .u32 d', .int .u32 x', .int .u32 y'] 24)) = w0 at *
        go_wp2_with fail
        refine (awake _).mono ?_
        rintro e w1 ⟨rfl, h1⟩
        replace hb := hide (bel_next hb.out h1)
        replace bx := hide (bx.out.below h1)
        replace by_ := hide (by_.out.below h1)
        clear h1
        go_wp2_with fail
        refine (Sz.out _).mono ?_
        rintro e w2 ⟨rfl, h1⟩
        replace hb := hide (bel_next hb.out h1)
        replace bx := hide (bx.out.below h1)
        replace by_ := hide (by_.out.below h1)
        clear h1
        have c7 := cells7' bx.out
        have d7 := cells7' by_.out
        replace hb := hide (bl_alloc hb.out (.cells #[.int .i64 0, .int .u32 am, .int .u32 bm, .int .u32 cm, .int .u32 dm, .int .u32 xm, .int .u32 ym] 24))
        replace bx := hide (bx.out.alloc (.cells #[.int .i64 0, .int .u32 am, .int .u32 bm, .int .u32 cm, .int .u32 dm, .int .u32 xm, .int .u32 ym] 24))
        have bz := hide (Bx.new w2 [.int .i64 0, .int .u32 am, .int .u32 bm, .int .u32 cm, .int .u32 dm, .int .u32 xm, .int .u32 ym] 24)
        go_upto_region 5 with fail
        generalize (w2.alloc (.cells #[.int .i64 0, .int .u32 am, .int .u32 bm, .int .u32 cm, .int .u32 dm, .int .u32 xm, .int .u32 ym] 24)) = w3 at *
        clear c7 d7 by_
        have e7 := cells7' bz.out
        go_wp2_with fail
        clear e7 bz
        refine (Uu.out _).mono ?_
        rintro e w4 ⟨rfl, h1⟩
        replace hb := hide (bel_next hb.out h1)
        replace bx := hide (bx.out.below h1)
        clear h1
        have c7 := cells7' bx.out
        go_wp2_with fail
        clear c7
        refine (Tt.out _).mono ?_
        rintro e w5 ⟨rfl, h1⟩
        replace hb := hide (bel_next hb.out h1)
        replace bx := hide (bx.out.below h1)
        clear h1
        go_wp2
        go_ret
        exact ⟨retb (by first | rfl | (simp; omega)), hb.out⟩
  · have C := hide (hC 8 (by simp))
    have M := hide (hM 8 (by simp))
    have Sz := hide (fun w => r14_.SizeB true w)
    obtain ⟨T, hT⟩ : ∃ T, T = totV a b c d x y 8 := ⟨_, rfl⟩
    obtain ⟨U, hU⟩ : ∃ U, U = totV am bm cm dm xm ym 8 := ⟨_, rfl⟩
    have hTU : T ≤ U := by rw [hT, hU]; unfold totV; omega
    have Ty := fun h => hide (fun w => ly_.Total_yes v a b c d x y 8 t w C.out h t1)
    have Tn := fun h => hide (fun w => ly_.Total_no v a b c d x y 8 t w C.out t0 h)
    have Uy := fun h => hide (fun w => ly_.Total_yes 0 am bm cm dm xm ym 8 t w M.out h t1)
    have Un := fun h => hide (fun w => ly_.Total_no 0 am bm cm dm xm ym 8 t w M.out t0 h)
    rw [← hT] at Ty Tn
    rw [← hU] at Uy Un
    clear hT hU hC hM l1 l2 l3 l4 l5 l6
    by_cases h1 : U ≤ t
    · have Uu := Uy h1
      have Tt := Ty (by omega)
      clear Ty Tn Uy Un
      go_enter Try.func6, Try.ntmps6
      go_upto_region 1 with fail
      generalize ((w.alloc (.cells #[.int .i64 v, .int .u32 a, .int .u32 b, .int .u32 c, .int .u32 d, .int .u32 x, .int .u32 y] 24)).alloc (.cells #[.int .i64 v', .int .u32 a', .int .u32 b', .int .u32 c', .int .u32 d', .int .u32 x', .int .u32 y'] 24)) = w0 at *
      go_wp2_with fail
      refine (awake _).mono ?_
      rintro e w1 ⟨rfl, h1⟩
      replace hb := hide (bel_next hb.out h1)
      replace bx := hide (bx.out.below h1)
      replace by_ := hide (by_.out.below h1)
      clear h1
      go_wp2_with fail
      refine (Sz.out _).mono ?_
      rintro e w2 ⟨rfl, h1⟩
      replace hb := hide (bel_next hb.out h1)
      replace bx := hide (bx.out.below h1)
      replace by_ := hide (by_.out.below h1)
      clear h1
      have c7 := cells7' bx.out
      have d7 := cells7' by_.out
      replace hb := hide (bl_alloc hb.out (.cells #[.int .i64 0, .int .u32 am, .int .u32 bm, .int .u32 cm, .int .u32 dm, .int .u32 xm, .int .u32 ym] 24))
      replace bx := hide (bx.out.alloc (.cells #[.int .i64 0, .int .u32 am, .int .u32 bm, .int .u32 cm, .int .u32 dm, .int .u32 xm, .int .u32 ym] 24))
      have bz := hide (Bx.new w2 [.int .i64 0, .int .u32 am, .int .u32 bm, .int .u32 cm, .int .u32 dm, .int .u32 xm, .int .u32 ym] 24)
      go_upto_region 5 with fail
      generalize (w2.alloc (.cells #[.int .i64 0, .int .u32 am, .int .u32 bm, .int .u32 cm, .int .u32 dm, .int .u32 xm, .int .u32 ym] 24)) = w3 at *
      clear c7 d7 by_
      have e7 := cells7' bz.out
      go_wp2_with fail
      clear e7 bz
      refine (Uu.out _).mono ?_
      rintro e w4 ⟨rfl, h1⟩
      replace hb := hide (bel_next hb.out h1)
      replace bx := hide (bx.out.below h1)
      clear h1
      have c7 := cells7' bx.out
      go_wp2_with fail
      clear c7
      refine (Tt.out _).mono ?_
      rintro e w5 ⟨rfl, h1⟩
      replace hb := hide (bel_next hb.out h1)
      replace bx := hide (bx.out.below h1)
      clear h1
      go_wp2
      go_ret
      exact ⟨retb (by first | rfl | (simp; omega)), hb.out⟩
    · by_cases h2 : T ≤ t
      · have Uu := Un (by omega)
        have Tt := Ty h2
        clear Ty Tn Uy Un
        go_enter Try.func6, Try.ntmps6
        go_upto_region 1 with fail
        generalize ((w.alloc (.cells #[.int .i64 v, .int .u32 a, .int .u32 b, .int .u32 c, .int .u32 d, .int .u32 x, .int .u32 y] 24)).alloc (.cells #[.int .i64 v', .int .u32 a', .int .u32 b', .int .u32 c', .int .u32 d', .int .u32 x', .int .u32 y'] 24)) = w0 at *
        go_wp2_with fail
        refine (awake _).mono ?_
        rintro e w1 ⟨rfl, h1⟩
        replace hb := hide (bel_next hb.out h1)
        replace bx := hide (bx.out.below h1)
        replace by_ := hide (by_.out.below h1)
        clear h1
        go_wp2_with fail
        refine (Sz.out _).mono ?_
        rintro e w2 ⟨rfl, h1⟩
        replace hb := hide (bel_next hb.out h1)
        replace bx := hide (bx.out.below h1)
        replace by_ := hide (by_.out.below h1)
        clear h1
        have c7 := cells7' bx.out
        have d7 := cells7' by_.out
        replace hb := hide (bl_alloc hb.out (.cells #[.int .i64 0, .int .u32 am, .int .u32 bm, .int .u32 cm, .int .u32 dm, .int .u32 xm, .int .u32 ym] 24))
        replace bx := hide (bx.out.alloc (.cells #[.int .i64 0, .int .u32 am, .int .u32 bm, .int .u32 cm, .int .u32 dm, .int .u32 xm, .int .u32 ym] 24))
        have bz := hide (Bx.new w2 [.int .i64 0, .int .u32 am, .int .u32 bm, .int .u32 cm, .int .u32 dm, .int .u32 xm, .int .u32 ym] 24)
        go_upto_region 5 with fail
        generalize (w2.alloc (.cells #[.int .i64 0, .int .u32 am, .int .u32 bm, .int .u32 cm, .int .u32 dm, .int .u32 xm, .int .u32 ym] 24)) = w3 at *
        clear c7 d7 by_
        have e7 := cells7' bz.out
        go_wp2_with fail
        clear e7 bz
        refine (Uu.out _).mono ?_
        rintro e w4 ⟨rfl, h1⟩
        replace hb := hide (bel_next hb.out h1)
        replace bx := hide (bx.out.below h1)
        clear h1
        have c7 := cells7' bx.out
        go_wp2_with fail
        clear c7
        refine (Tt.out _).mono ?_
        rintro e w5 ⟨rfl, h1⟩
        replace hb := hide (bel_next hb.out h1)
        replace bx := hide (bx.out.below h1)
        clear h1
        go_wp2
        go_ret
        exact ⟨retb (by first | rfl | (simp; omega)), hb.out⟩
      · have Uu := Un (by omega)
        have Tt := Tn (by omega)
        clear Ty Tn Uy Un
        go_enter Try.func6, Try.ntmps6
        go_upto_region 1 with fail
        generalize ((w.alloc (.cells #[.int .i64 v, .int .u32 a, .int .u32 b, .int .u32 c, .int .u32 d, .int .u32 x, .int .u32 y] 24)).alloc (.cells #[.int .i64 v', .int .u32 a', .int .u32 b', .int .u32 c', .int .u32 d', .int .u32 x', .int .u32 y'] 24)) = w0 at *
        go_wp2_with fail
        refine (awake _).mono ?_
        rintro e w1 ⟨rfl, h1⟩
        replace hb := hide (bel_next hb.out h1)
        replace bx := hide (bx.out.below h1)
        replace by_ := hide (by_.out.below h1)
        clear h1
        go_wp2_with fail
        refine (Sz.out _).mono ?_
        rintro e w2 ⟨rfl, h1⟩
        replace hb := hide (bel_next hb.out h1)
        replace bx := hide (bx.out.below h1)
        replace by_ := hide (by_.out.below h1)
        clear h1
        have c7 := cells7' bx.out
        have d7 := cells7' by_.out
        replace hb := hide (bl_alloc hb.out (.cells #[.int .i64 0, .int .u32 am, .int .u32 bm, .int .u32 cm, .int .u32 dm, .int .u32 xm, .int .u32 ym] 24))
        replace bx := hide (bx.out.alloc (.cells #[.int .i64 0, .int .u32 am, .int .u32 bm, .int .u32 cm, .int .u32 dm, .int .u32 xm, .int .u32 ym] 24))
        have bz := hide (Bx.new w2 [.int .i64 0, .int .u32 am, .int .u32 bm, .int .u32 cm, .int .u32 dm, .int .u32 xm, .int .u32 ym] 24)
        go_upto_region 5 with fail
        generalize (w2.alloc (.cells #[.int .i64 0, .int .u32 am, .int .u32 bm, .int .u32 cm, .int .u32 dm, .int .u32 xm, .int .u32 ym] 24)) = w3 at *
        clear c7 d7 by_
        have e7 := cells7' bz.out
        go_wp2_with fail
        clear e7 bz
        refine (Uu.out _).mono ?_
        rintro e w4 ⟨rfl, h1⟩
        replace hb := hide (bel_next hb.out h1)
        replace bx := hide (bx.out.below h1)
        clear h1
        have c7 := cells7' bx.out
        go_wp2_with fail
        clear c7
        refine (Tt.out _).mono ?_
        rintro e w5 ⟨rfl, h1⟩
        replace hb := hide (bel_next hb.out h1)
        replace bx := hide (bx.out.below h1)
        clear h1
        go_wp2
        go_ret
        exact ⟨retb (by first | rfl | (simp; omega)), hb.out⟩
end l14_
end Go.Proofs.Ytggjokiiemnkhaa
