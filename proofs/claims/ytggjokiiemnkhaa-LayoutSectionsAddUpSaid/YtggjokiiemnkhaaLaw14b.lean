/-
  THE WALKS OF THE LAWS OF LAYER 14 (zoneinfolaw14): LayoutSectionsAddUp. No conditions.
-/
import Derived.Test.YtggjokiiemnkhaaLaw14a
import Derived.BigQuiet
namespace Go.Proofs.Ytggjokiiemnkhaa
open Go.ChangeShapes Go.WideShapes Go.ChangeAt Go.RowKit
open r14_ (cells7' cells8 bx_snd)
set_option linter.unusedVariables false
namespace l14_
set_option maxRecDepth 100000 in
set_option maxHeartbeats 8000000 in
theorem sections (v a b c d x y : Int) (wide : Bool) (w : World) (hv : (Lit.int .i64 v).wf = true) (ha : (Lit.int .u32 a).wf = true) (hb_ : (Lit.int .u32 b).wf = true) (hc : (Lit.int .u32 c).wf = true) (hd : (Lit.int .u32 d).wf = true) (hx : (Lit.int .u32 x).wf = true) (hy : (Lit.int .u32 y).wf = true) :
    Calls Try.prog 4 #[.agg #[.int .i64 v, .int .u32 a, .int .u32 b, .int .u32 c, .int .u32 d, .int .u32 x, .int .u32 y], .bool wide] w fun e w' => e = .returned (.bool true) ∧ Below w.heap.size w w' := by
  have hC : ∀ s, s = 4 ∨ s = 8 → LyC a b c d x y s := fun s hs => ⟨c32 ha, c32 hb_, c32 hc, c32 hd, c32 hx, c32 hy, hs⟩
  clear hv ha hb_ hc hd hx hy
  have hb := hide (bl_new w (.cells #[.int .i64 v, .int .u32 a, .int .u32 b, .int .u32 c, .int .u32 d, .int .u32 x, .int .u32 y] 24))
  have bx := hide (Bx.new w [.int .i64 v, .int .u32 a, .int .u32 b, .int .u32 c, .int .u32 d, .int .u32 x, .int .u32 y] 24)
  cases wide
  · have C := hide (hC 4 (by simp))
    have Sz := hide (fun w => r14_.SizeB false w)
    have Op := hide (fun w => ly_.Offsets v a b c d x y 4 w C.out)
    have Lp := hide (fun w => ly_.Lengths v a b c d x y 4 w C.out)
    have Ty := hide (fun w h => ly_.Total_yes v a b c d x y 4 (totV a b c d x y 4) w C.out (by omega) h)
    have Tn := hide (fun w t h0 h1 => ly_.Total_no v a b c d x y 4 t w C.out h0 h1)
    obtain ⟨e0, he0⟩ : ∃ e, e = d * 4 := ⟨_, rfl⟩
    obtain ⟨e2, he2⟩ : ∃ e, e = 6 * x := ⟨_, rfl⟩
    obtain ⟨e4, he4⟩ : ∃ e, e = c * (4 + 4) := ⟨_, rfl⟩
    obtain ⟨o2, ho2⟩ : ∃ o, o = e0 + d := ⟨_, rfl⟩
    obtain ⟨o3, ho3⟩ : ∃ o, o = o2 + e2 := ⟨_, rfl⟩
    obtain ⟨o4, ho4⟩ : ∃ o, o = o3 + y := ⟨_, rfl⟩
    obtain ⟨o5, ho5⟩ : ∃ o, o = o4 + e4 := ⟨_, rfl⟩
    obtain ⟨o6, ho6⟩ : ∃ o, o = o5 + b := ⟨_, rfl⟩
    obtain ⟨o7, ho7⟩ : ∃ o, o = o6 + a := ⟨_, rfl⟩
    simp only [offV, lenV, totV, ← he0, ← he2, ← he4, ← ho2, ← ho3, ← ho4, ← ho5, ← ho6, ← ho7] at Op Lp Ty Tn
    obtain ⟨⟨a0, a1⟩, ⟨b0, b1⟩, ⟨c0, c1⟩, ⟨d0, d1⟩, ⟨x0, x1⟩, ⟨y0, y1⟩, _⟩ := C.out
    have z7 : 0 ≤ o7 ∧ o7 < 1000000000000 := by omega
    have HR := hide (fun (i : Nat) (hi : i < 7) => show ∃ p q z : Int, [(0 : Int), (e0 : Int), (o2 : Int), (o3 : Int), (o4 : Int), (o5 : Int), (o6 : Int), (o7 : Int)][i]? = some p ∧ [0, e0, o2, o3, o4, o5, o6, o7][i + 1]? = some q ∧ [e0, d, e2, y, e4, b, a][i]? = some z ∧ q = p + z ∧ 0 ≤ p ∧ 0 ≤ z ∧ q < 1000000000000 by
      rcases (show i = 0 ∨ i = 1 ∨ i = 2 ∨ i = 3 ∨ i = 4 ∨ i = 5 ∨ i = 6 by omega) with rfl | rfl | rfl | rfl | rfl | rfl | rfl
      all_goals exact ⟨_, _, _, rfl, rfl, rfl, by omega, by omega, by omega, by omega⟩)
    obtain ⟨z70, z71⟩ := z7
    clear C hC a0 a1 b0 b1 c0 c1 d0 d1 x0 x1 y0 y1 he0 he2 he4 ho2 ho3 ho4 ho5 ho6 ho7
    go_enter Try.func4, Try.ntmps4
    go_upto_region 1 with fail
    generalize (w.alloc (.cells #[.int .i64 v, .int .u32 a, .int .u32 b, .int .u32 c, .int .u32 d, .int .u32 x, .int .u32 y] 24)) = w0 at *
    go_wp2_with fail
    refine (awake _).mono ?_
    rintro e w1 ⟨rfl, h1⟩
    replace hb := hide (bel_next hb.out h1)
    replace bx := hide (bx.out.below h1)
    clear h1
    go_wp2_with fail
    refine (Sz.out _).mono ?_
    rintro e w2 ⟨rfl, h1⟩
    replace hb := hide (bel_next hb.out h1)
    replace bx := hide (bx.out.below h1)
    clear h1
    have c7 := cells7' bx.out
    go_wp2_with fail
    clear c7
    refine (Op.out _).mono ?_
    rintro e w3 ⟨rfl, h1⟩
    replace hb := hide (bel_next hb.out h1)
    replace bx := hide (bx.out.below h1)
    clear h1
    have bo := hide (Bx.new w3 [.int .u64 0, .int .u64 e0, .int .u64 o2, .int .u64 o3, .int .u64 o4, .int .u64 o5, .int .u64 o6, .int .u64 o7] 33)
    replace hb := hide (bl_alloc hb.out (.cells #[.int .u64 0, .int .u64 e0, .int .u64 o2, .int .u64 o3, .int .u64 o4, .int .u64 o5, .int .u64 o6, .int .u64 o7] 33))
    replace bx := hide (bx.out.alloc (.cells #[.int .u64 0, .int .u64 e0, .int .u64 o2, .int .u64 o3, .int .u64 o4, .int .u64 o5, .int .u64 o6, .int .u64 o7] 33))
    go_upto_region 5 with fail
    generalize (w3.alloc (.cells #[.int .u64 0, .int .u64 e0, .int .u64 o2, .int .u64 o3, .int .u64 o4, .int .u64 o5, .int .u64 o6, .int .u64 o7] 33)) = w4 at *
    have c7 := cells7' bx.out
    go_wp2_with fail
    clear c7
    refine (Lp.out _).mono ?_
    rintro e w5 ⟨rfl, h1⟩
    replace hb := hide (bel_next hb.out h1)
    replace bx := hide (bx.out.below h1)
    replace bo := hide (bo.out.below h1)
    clear h1
    have bl := hide (Bx.new w5 [.int .u64 e0, .int .u64 d, .int .u64 e2, .int .u64 y, .int .u64 e4, .int .u64 b, .int .u64 a] 31)
    replace hb := hide (bl_alloc hb.out (.cells #[.int .u64 e0, .int .u64 d, .int .u64 e2, .int .u64 y, .int .u64 e4, .int .u64 b, .int .u64 a] 31))
    replace bx := hide (bx.out.alloc (.cells #[.int .u64 e0, .int .u64 d, .int .u64 e2, .int .u64 y, .int .u64 e4, .int .u64 b, .int .u64 a] 31))
    replace bo := hide (bo.out.alloc (.cells #[.int .u64 e0, .int .u64 d, .int .u64 e2, .int .u64 y, .int .u64 e4, .int .u64 b, .int .u64 a] 31))
    go_upto_region 6 with fail
    generalize (w5.alloc (.cells #[.int .u64 e0, .int .u64 d, .int .u64 e2, .int .u64 y, .int .u64 e4, .int .u64 b, .int .u64 a] 31)) = w6 at *
    have k8 := cells8 bo.out
    go_wp2
    clear k8
    go_loopw [8] (fun iv wr => ∃ i : Nat, i ≤ 7 ∧ iv = .int .i64 i ∧ Bx wr w.heap.size [.int .i64 v, .int .u32 a, .int .u32 b, .int .u32 c, .int .u32 d, .int .u32 x, .int .u32 y] ∧ Bx wr w3.heap.size [.int .u64 0, .int .u64 e0, .int .u64 o2, .int .u64 o3, .int .u64 o4, .int .u64 o5, .int .u64 o6, .int .u64 o7] ∧ Bx wr w5.heap.size [.int .u64 e0, .int .u64 d, .int .u64 e2, .int .u64 y, .int .u64 e4, .int .u64 b, .int .u64 a] ∧ Below w.heap.size w wr) (fun iv _ => 7 - (intOf iv).toNat)
    case atStart => exact ⟨0, by omega, rfl, bx.out, bo.out, bl.out, hb.out⟩
    case round =>
      clear bx bo bl hb
      obtain ⟨i, hi, rfl, bx, bo, bl, hb⟩ := hrel
      rcases Nat.lt_or_ge i 7 with hlt | hge
      · obtain ⟨p, q, z, h1, h2, h3, h4, h5, h6, h7⟩ := HR.out i hlt
        have k1 : wr.cell? ⟨w3.heap.size, i, none⟩ = some (.int .u64 p) := r14_.cell_l (l := [0, e0, o2, o3, o4, o5, o6, o7]) bo h1
        have k2 : wr.cell? ⟨w3.heap.size, i + 1, none⟩ = some (.int .u64 q) := r14_.cell_l (l := [0, e0, o2, o3, o4, o5, o6, o7]) bo h2
        have k3 : wr.cell? ⟨w5.heap.size, i, none⟩ = some (.int .u64 z) := r14_.cell_l (l := [e0, d, e2, y, e4, b, a]) bl h3
        have wz : IntKind.u64.wrap (q - p) = z := by rw [IntKind.wrap_u64]; omega
        have dz : decide (q < p) = false := by simp; omega
        have i8 : (i : Int) + 1 < 8 := by omega
        replace bx := hide bx
        replace bo := hide bo
        replace bl := hide bl
        replace hb := hide hb
        replace h4 := hide h4
        clear h1 h2 h3
        go_wp2
        go_quiet (fail)
        go_wp2
        go_roundw
        case rel => exact ⟨i + 1, by omega, by go_num, bx.out, bo.out, bl.out, bel_drewN hb.out _⟩
        case measure => simp [intOf]; omega
      · obtain rfl : i = 7 := by omega
        replace bx := hide bx
        replace bo := hide bo
        replace hb := hide hb
        clear bl
        have c7 := cells7' bx.out
        have k8 := cells8 bo.out
        go_wp2_with fail
        clear c7 k8
        refine (Ty.out _ (by omega)).mono ?_
        rintro e w7 ⟨rfl, h1⟩
        replace hb := hide (bel_next hb.out h1)
        replace bx := hide (bx.out.below h1)
        replace bo := hide (bo.out.below h1)
        clear h1
        by_cases hz : o7 = 0
        · have c7 := cells7' bx.out
          have k8 := cells8 bo.out
          subst hz
          go_wp2
          go_ret
          exact ⟨rfl, hb.out⟩
        · have hz' : (o7 == 0) = false := by simpa using hz
          have wm : IntKind.u64.wrap (o7 - 1) = o7 - 1 := by rw [IntKind.wrap_u64]; omega
          have c7 := cells7' bx.out
          have k8 := cells8 bo.out
          go_wp2_with fail
          clear c7 k8
          refine (Tn.out _ (o7 - 1) (by omega) (by omega)).mono ?_
          rintro e w8 ⟨rfl, h1⟩
          replace hb := hide (bel_next hb.out h1)
          replace bx := hide (bx.out.below h1)
          clear h1
          go_wp2
          go_ret
          exact ⟨rfl, hb.out⟩
  · have C := hide (hC 8 (by simp))
    have Sz := hide (fun w => r14_.SizeB true w)
    have Op := hide (fun w => ly_.Offsets v a b c d x y 8 w C.out)
    have Lp := hide (fun w => ly_.Lengths v a b c d x y 8 w C.out)
    have Ty := hide (fun w h => ly_.Total_yes v a b c d x y 8 (totV a b c d x y 8) w C.out (by omega) h)
    have Tn := hide (fun w t h0 h1 => ly_.Total_no v a b c d x y 8 t w C.out h0 h1)
    obtain ⟨e0, he0⟩ : ∃ e, e = d * 8 := ⟨_, rfl⟩
    obtain ⟨e2, he2⟩ : ∃ e, e = 6 * x := ⟨_, rfl⟩
    obtain ⟨e4, he4⟩ : ∃ e, e = c * (8 + 4) := ⟨_, rfl⟩
    obtain ⟨o2, ho2⟩ : ∃ o, o = e0 + d := ⟨_, rfl⟩
    obtain ⟨o3, ho3⟩ : ∃ o, o = o2 + e2 := ⟨_, rfl⟩
    obtain ⟨o4, ho4⟩ : ∃ o, o = o3 + y := ⟨_, rfl⟩
    obtain ⟨o5, ho5⟩ : ∃ o, o = o4 + e4 := ⟨_, rfl⟩
    obtain ⟨o6, ho6⟩ : ∃ o, o = o5 + b := ⟨_, rfl⟩
    obtain ⟨o7, ho7⟩ : ∃ o, o = o6 + a := ⟨_, rfl⟩
    simp only [offV, lenV, totV, ← he0, ← he2, ← he4, ← ho2, ← ho3, ← ho4, ← ho5, ← ho6, ← ho7] at Op Lp Ty Tn
    obtain ⟨⟨a0, a1⟩, ⟨b0, b1⟩, ⟨c0, c1⟩, ⟨d0, d1⟩, ⟨x0, x1⟩, ⟨y0, y1⟩, _⟩ := C.out
    have z7 : 0 ≤ o7 ∧ o7 < 1000000000000 := by omega
    have HR := hide (fun (i : Nat) (hi : i < 7) => show ∃ p q z : Int, [(0 : Int), (e0 : Int), (o2 : Int), (o3 : Int), (o4 : Int), (o5 : Int), (o6 : Int), (o7 : Int)][i]? = some p ∧ [0, e0, o2, o3, o4, o5, o6, o7][i + 1]? = some q ∧ [e0, d, e2, y, e4, b, a][i]? = some z ∧ q = p + z ∧ 0 ≤ p ∧ 0 ≤ z ∧ q < 1000000000000 by
      rcases (show i = 0 ∨ i = 1 ∨ i = 2 ∨ i = 3 ∨ i = 4 ∨ i = 5 ∨ i = 6 by omega) with rfl | rfl | rfl | rfl | rfl | rfl | rfl
      all_goals exact ⟨_, _, _, rfl, rfl, rfl, by omega, by omega, by omega, by omega⟩)
    obtain ⟨z70, z71⟩ := z7
    clear C hC a0 a1 b0 b1 c0 c1 d0 d1 x0 x1 y0 y1 he0 he2 he4 ho2 ho3 ho4 ho5 ho6 ho7
    go_enter Try.func4, Try.ntmps4
    go_upto_region 1 with fail
    generalize (w.alloc (.cells #[.int .i64 v, .int .u32 a, .int .u32 b, .int .u32 c, .int .u32 d, .int .u32 x, .int .u32 y] 24)) = w0 at *
    go_wp2_with fail
    refine (awake _).mono ?_
    rintro e w1 ⟨rfl, h1⟩
    replace hb := hide (bel_next hb.out h1)
    replace bx := hide (bx.out.below h1)
    clear h1
    go_wp2_with fail
    refine (Sz.out _).mono ?_
    rintro e w2 ⟨rfl, h1⟩
    replace hb := hide (bel_next hb.out h1)
    replace bx := hide (bx.out.below h1)
    clear h1
    have c7 := cells7' bx.out
    go_wp2_with fail
    clear c7
    refine (Op.out _).mono ?_
    rintro e w3 ⟨rfl, h1⟩
    replace hb := hide (bel_next hb.out h1)
    replace bx := hide (bx.out.below h1)
    clear h1
    have bo := hide (Bx.new w3 [.int .u64 0, .int .u64 e0, .int .u64 o2, .int .u64 o3, .int .u64 o4, .int .u64 o5, .int .u64 o6, .int .u64 o7] 33)
    replace hb := hide (bl_alloc hb.out (.cells #[.int .u64 0, .int .u64 e0, .int .u64 o2, .int .u64 o3, .int .u64 o4, .int .u64 o5, .int .u64 o6, .int .u64 o7] 33))
    replace bx := hide (bx.out.alloc (.cells #[.int .u64 0, .int .u64 e0, .int .u64 o2, .int .u64 o3, .int .u64 o4, .int .u64 o5, .int .u64 o6, .int .u64 o7] 33))
    go_upto_region 5 with fail
    generalize (w3.alloc (.cells #[.int .u64 0, .int .u64 e0, .int .u64 o2, .int .u64 o3, .int .u64 o4, .int .u64 o5, .int .u64 o6, .int .u64 o7] 33)) = w4 at *
    have c7 := cells7' bx.out
    go_wp2_with fail
    clear c7
    refine (Lp.out _).mono ?_
    rintro e w5 ⟨rfl, h1⟩
    replace hb := hide (bel_next hb.out h1)
    replace bx := hide (bx.out.below h1)
    replace bo := hide (bo.out.below h1)
    clear h1
    have bl := hide (Bx.new w5 [.int .u64 e0, .int .u64 d, .int .u64 e2, .int .u64 y, .int .u64 e4, .int .u64 b, .int .u64 a] 31)
    replace hb := hide (bl_alloc hb.out (.cells #[.int .u64 e0, .int .u64 d, .int .u64 e2, .int .u64 y, .int .u64 e4, .int .u64 b, .int .u64 a] 31))
    replace bx := hide (bx.out.alloc (.cells #[.int .u64 e0, .int .u64 d, .int .u64 e2, .int .u64 y, .int .u64 e4, .int .u64 b, .int .u64 a] 31))
    replace bo := hide (bo.out.alloc (.cells #[.int .u64 e0, .int .u64 d, .int .u64 e2, .int .u64 y, .int .u64 e4, .int .u64 b, .int .u64 a] 31))
    go_upto_region 6 with fail
    generalize (w5.alloc (.cells #[.int .u64 e0, .int .u64 d, .int .u64 e2, .int .u64 y, .int .u64 e4, .int .u64 b, .int .u64 a] 31)) = w6 at *
    have k8 := cells8 bo.out
    go_wp2
    clear k8
    go_loopw [8] (fun iv wr => ∃ i : Nat, i ≤ 7 ∧ iv = .int .i64 i ∧ Bx wr w.heap.size [.int .i64 v, .int .u32 a, .int .u32 b, .int .u32 c, .int .u32 d, .int .u32 x, .int .u32 y] ∧ Bx wr w3.heap.size [.int .u64 0, .int .u64 e0, .int .u64 o2, .int .u64 o3, .int .u64 o4, .int .u64 o5, .int .u64 o6, .int .u64 o7] ∧ Bx wr w5.heap.size [.int .u64 e0, .int .u64 d, .int .u64 e2, .int .u64 y, .int .u64 e4, .int .u64 b, .int .u64 a] ∧ Below w.heap.size w wr) (fun iv _ => 7 - (intOf iv).toNat)
    case atStart => exact ⟨0, by omega, rfl, bx.out, bo.out, bl.out, hb.out⟩
    case round =>
      clear bx bo bl hb
      obtain ⟨i, hi, rfl, bx, bo, bl, hb⟩ := hrel
      rcases Nat.lt_or_ge i 7 with hlt | hge
      · obtain ⟨p, q, z, h1, h2, h3, h4, h5, h6, h7⟩ := HR.out i hlt
        have k1 : wr.cell? ⟨w3.heap.size, i, none⟩ = some (.int .u64 p) := r14_.cell_l (l := [0, e0, o2, o3, o4, o5, o6, o7]) bo h1
        have k2 : wr.cell? ⟨w3.heap.size, i + 1, none⟩ = some (.int .u64 q) := r14_.cell_l (l := [0, e0, o2, o3, o4, o5, o6, o7]) bo h2
        have k3 : wr.cell? ⟨w5.heap.size, i, none⟩ = some (.int .u64 z) := r14_.cell_l (l := [e0, d, e2, y, e4, b, a]) bl h3
        have wz : IntKind.u64.wrap (q - p) = z := by rw [IntKind.wrap_u64]; omega
        have dz : decide (q < p) = false := by simp; omega
        have i8 : (i : Int) + 1 < 8 := by omega
        replace bx := hide bx
        replace bo := hide bo
        replace bl := hide bl
        replace hb := hide hb
        replace h4 := hide h4
        clear h1 h2 h3
        go_wp2
        go_quiet (fail)
        go_wp2
        go_roundw
        case rel => exact ⟨i + 1, by omega, by go_num, bx.out, bo.out, bl.out, bel_drewN hb.out _⟩
        case measure => simp [intOf]; omega
      · obtain rfl : i = 7 := by omega
        replace bx := hide bx
        replace bo := hide bo
        replace hb := hide hb
        clear bl
        have c7 := cells7' bx.out
        have k8 := cells8 bo.out
        go_wp2_with fail
        clear c7 k8
        refine (Ty.out _ (by omega)).mono ?_
        rintro e w7 ⟨rfl, h1⟩
        replace hb := hide (bel_next hb.out h1)
        replace bx := hide (bx.out.below h1)
        replace bo := hide (bo.out.below h1)
        clear h1
        by_cases hz : o7 = 0
        · have c7 := cells7' bx.out
          have k8 := cells8 bo.out
          subst hz
          go_wp2
          go_ret
          exact ⟨rfl, hb.out⟩
        · have hz' : (o7 == 0) = false := by simpa using hz
          have wm : IntKind.u64.wrap (o7 - 1) = o7 - 1 := by rw [IntKind.wrap_u64]; omega
          have c7 := cells7' bx.out
          have k8 := cells8 bo.out
          go_wp2_with fail
          clear c7 k8
          refine (Tn.out _ (o7 - 1) (by omega) (by omega)).mono ?_
          rintro e w8 ⟨rfl, h1⟩
          replace hb := hide (bel_next hb.out h1)
          replace bx := hide (bx.out.below h1)
          clear h1
          go_wp2
          go_ret
          exact ⟨rfl, hb.out⟩
end l14_
end Go.Proofs.Ytggjokiiemnkhaa
