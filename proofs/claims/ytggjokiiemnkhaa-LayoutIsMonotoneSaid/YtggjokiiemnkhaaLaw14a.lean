/-
  THE WALKS OF THE LAWS OF LAYER 14 (zoneinfolaw14): LayoutMatchesReference. No conditions.
-/
import Derived.Test.YtggjokiiemnkhaaLaw14
namespace Go.Proofs.Ytggjokiiemnkhaa
open Go.ChangeShapes Go.WideShapes Go.ChangeAt Go.RowKit
open r14_ (cells7' cells8 bx_snd)
set_option linter.unusedVariables false
theorem c32 {t : Int} (h : (Lit.int .u32 t).wf = true) : C32 t := by simp [Lit.wf, IntKind.min, IntKind.max, IntKind.signed, IntKind.bits] at h; unfold C32; omega
namespace l14_
set_option maxRecDepth 100000 in
set_option maxHeartbeats 8000000 in
theorem mref (v a b c d x y : Int) (wide : Bool) (t : Int) (w : World) (hv : (Lit.int .i64 v).wf = true) (ha : (Lit.int .u32 a).wf = true) (hb_ : (Lit.int .u32 b).wf = true) (hc : (Lit.int .u32 c).wf = true) (hd : (Lit.int .u32 d).wf = true) (hx : (Lit.int .u32 x).wf = true) (hy : (Lit.int .u32 y).wf = true) (ht : (Lit.int .u64 t).wf = true) :
    Calls Try.prog 3 #[.agg #[.int .i64 v, .int .u32 a, .int .u32 b, .int .u32 c, .int .u32 d, .int .u32 x, .int .u32 y], .bool wide, .int .u64 t] w fun e w' => e = .returned (.bool true) ∧ Below w.heap.size w w' := by
  obtain ⟨t0, t1⟩ := wf_u64 ht
  have hC : ∀ s, s = 4 ∨ s = 8 → LyC a b c d x y s := fun s hs => ⟨c32 ha, c32 hb_, c32 hc, c32 hd, c32 hx, c32 hy, hs⟩
  clear hv ha hb_ hc hd hx hy ht
  have hb := hide (bl_new w (.cells #[.int .i64 v, .int .u32 a, .int .u32 b, .int .u32 c, .int .u32 d, .int .u32 x, .int .u32 y] 24))
  have bx := hide (Bx.new w [.int .i64 v, .int .u32 a, .int .u32 b, .int .u32 c, .int .u32 d, .int .u32 x, .int .u32 y] 24)
  cases wide
  · have C := hide (hC 4 (by simp))
    have Sz := hide (fun w => r14_.SizeB false w)
    have Sm := hide (fun w => r14_.Sum v a b c d x y 4 w C.out)
    have Lp := hide (fun w => ly_.Lengths v a b c d x y 4 w C.out)
    have Lr := hide (fun w => r14_.Lengths v a b c d x y 4 w C.out)
    have Op := hide (fun w => ly_.Offsets v a b c d x y 4 w C.out)
    have Or := hide (fun w => r14_.Offsets v a b c d x y 4 w C.out)
    have q7 := fun w => eq7 (lenL a b c d x y 4) rfl w
    have q8 := fun w => eq8 [0, d * 4, d * 4 + d, d * 4 + d + 6 * x, d * 4 + d + 6 * x + y, d * 4 + d + 6 * x + y + c * (4 + 4), d * 4 + d + 6 * x + y + c * (4 + 4) + b, d * 4 + d + 6 * x + y + c * (4 + 4) + b + a] rfl w
    simp only [lenL, List.map_cons, List.map_nil] at q7
    simp only [List.map_cons, List.map_nil] at q8
    simp only [lenV, offV] at Lp Lr Op Or
    obtain ⟨T, hT⟩ : ∃ T, T = totV a b c d x y 4 := ⟨_, rfl⟩
    have Ty := fun h => hide (fun w => ly_.Total_yes v a b c d x y 4 t w C.out h t1)
    have Tn := fun h => hide (fun w => ly_.Total_no v a b c d x y 4 t w C.out t0 h)
    rw [← hT] at Sm Ty Tn
    clear hT hC
    generalize d * 4 = e0 at *
    generalize c * (4 + 4) = e4 at *
    generalize 6 * x = e2 at *
    by_cases hle : T ≤ t
    · have Tt := Ty hle
      clear Ty Tn
      have dl : decide (T ≤ t) = true := by simpa using hle
      go_enter Try.func3, Try.ntmps3
      go_upto_region 1 with fail
      generalize (w.alloc (.cells #[.int .i64 v, .int .u32 a, .int .u32 b, .int .u32 c, .int .u32 d, .int .u32 x, .int .u32 y] 24)) = w0 at *
      go_wp2_with fail
      refine (awake _).mono ?_
      rintro e w1 ⟨rfl, h1⟩
      replace hb := hide (bel_next hb.out h1)
      replace bx := hide (bx.out.below h1)
      clear h1
      go_wp2_with fail
      refine (Sz.out _).mono ?_
      rintro e w2 ⟨rfl, h1⟩
      replace hb := hide (bel_next hb.out h1)
      replace bx := hide (bx.out.below h1)
      clear h1
      have c7 := cells7' bx.out
      go_wp2_with fail
      clear c7
      refine (Tt.out _).mono ?_
      rintro e w3 ⟨rfl, h1⟩
      replace hb := hide (bel_next hb.out h1)
      replace bx := hide (bx.out.below h1)
      clear h1
      have c7 := cells7' bx.out
      go_wp2_with fail
      clear c7
      refine (Sm.out _).mono ?_
      rintro e w4 ⟨rfl, h1⟩
      replace hb := hide (bel_next hb.out h1)
      replace bx := hide (bx.out.below h1)
      clear h1
      go_upto_region 8 with fail
      go_region_held3 (fun w' => w'.cell? ⟨w.heap.size, 0, none⟩ = some (.int .i64 v) ∧ w'.cell? ⟨w.heap.size, 1, none⟩ = some (.int .u32 a) ∧ w'.cell? ⟨w.heap.size, 2, none⟩ = some (.int .u32 b) ∧ w'.cell? ⟨w.heap.size, 3, none⟩ = some (.int .u32 c) ∧ w'.cell? ⟨w.heap.size, 4, none⟩ = some (.int .u32 d) ∧ w'.cell? ⟨w.heap.size, 5, none⟩ = some (.int .u32 x) ∧ w'.cell? ⟨w.heap.size, 6, none⟩ = some (.int .u32 y) ∧ Hid (Below w.heap.size w w'))
        (first
          | exact ⟨(cells7' bx.out).1, (cells7' bx.out).2.1, (cells7' bx.out).2.2.1, (cells7' bx.out).2.2.2.1, (cells7' bx.out).2.2.2.2.1, (cells7' bx.out).2.2.2.2.2.1, (cells7' bx.out).2.2.2.2.2.2, by first | exact hb | exact hide (bl_drew hb.out)⟩
          | (go_split_ands; refine ⟨?_, ?_, ?_, ?_, ?_, ?_, ?_, ?_⟩ <;> first | exact cellE h1 (by assumption) | exact hide (bel_next (Hid.out (by assumption)) h1)))
        (first
          | (go_at_call 11; go_split_ands; with_reducible refine (Lp.out _).mono ?_; rintro e w5 ⟨rfl, h1⟩)
          | (go_at_call 12; go_split_ands; with_reducible refine (Lr.out _).mono ?_; rintro e w6 ⟨rfl, h1⟩)
          | (go_at_call 13; go_split_ands; with_reducible refine (Op.out _).mono ?_; rintro e w7 ⟨rfl, h1⟩)
          | (go_at_call 14; go_split_ands; with_reducible refine (Or.out _).mono ?_; rintro e w8 ⟨rfl, h1⟩))
      go_wp2
      go_ret
      go_split_ands
      exact ⟨rfl, Hid.out (by assumption)⟩
    · have Tt := Tn (by omega)
      clear Ty Tn
      have hlt : t < T := by omega
      clear hle
      have dl : decide (T ≤ t) = false := by simp; omega
      go_enter Try.func3, Try.ntmps3
      go_upto_region 1 with fail
      generalize (w.alloc (.cells #[.int .i64 v, .int .u32 a, .int .u32 b, .int .u32 c, .int .u32 d, .int .u32 x, .int .u32 y] 24)) = w0 at *
      go_wp2_with fail
      refine (awake _).mono ?_
      rintro e w1 ⟨rfl, h1⟩
      replace hb := hide (bel_next hb.out h1)
      replace bx := hide (bx.out.below h1)
      clear h1
      go_wp2_with fail
      refine (Sz.out _).mono ?_
      rintro e w2 ⟨rfl, h1⟩
      replace hb := hide (bel_next hb.out h1)
      replace bx := hide (bx.out.below h1)
      clear h1
      have c7 := cells7' bx.out
      go_wp2_with fail
      clear c7
      refine (Tt.out _).mono ?_
      rintro e w3 ⟨rfl, h1⟩
      replace hb := hide (bel_next hb.out h1)
      replace bx := hide (bx.out.below h1)
      clear h1
      have c7 := cells7' bx.out
      go_wp2_with fail
      clear c7
      refine (Sm.out _).mono ?_
      rintro e w4 ⟨rfl, h1⟩
      replace hb := hide (bel_next hb.out h1)
      replace bx := hide (bx.out.below h1)
      clear h1
      go_upto_region 8 with fail
      go_region_held3 (fun w' => w'.cell? ⟨w.heap.size, 0, none⟩ = some (.int .i64 v) ∧ w'.cell? ⟨w.heap.size, 1, none⟩ = some (.int .u32 a) ∧ w'.cell? ⟨w.heap.size, 2, none⟩ = some (.int .u32 b) ∧ w'.cell? ⟨w.heap.size, 3, none⟩ = some (.int .u32 c) ∧ w'.cell? ⟨w.heap.size, 4, none⟩ = some (.int .u32 d) ∧ w'.cell? ⟨w.heap.size, 5, none⟩ = some (.int .u32 x) ∧ w'.cell? ⟨w.heap.size, 6, none⟩ = some (.int .u32 y) ∧ Hid (Below w.heap.size w w'))
        (first
          | exact ⟨(cells7' bx.out).1, (cells7' bx.out).2.1, (cells7' bx.out).2.2.1, (cells7' bx.out).2.2.2.1, (cells7' bx.out).2.2.2.2.1, (cells7' bx.out).2.2.2.2.2.1, (cells7' bx.out).2.2.2.2.2.2, by first | exact hb | exact hide (bl_drew hb.out)⟩
          | (go_split_ands; refine ⟨?_, ?_, ?_, ?_, ?_, ?_, ?_, ?_⟩ <;> first | exact cellE h1 (by assumption) | exact hide (bel_next (Hid.out (by assumption)) h1)))
        (first
          | (go_at_call 11; go_split_ands; with_reducible refine (Lp.out _).mono ?_; rintro e w5 ⟨rfl, h1⟩)
          | (go_at_call 12; go_split_ands; with_reducible refine (Lr.out _).mono ?_; rintro e w6 ⟨rfl, h1⟩)
          | (go_at_call 13; go_split_ands; with_reducible refine (Op.out _).mono ?_; rintro e w7 ⟨rfl, h1⟩)
          | (go_at_call 14; go_split_ands; with_reducible refine (Or.out _).mono ?_; rintro e w8 ⟨rfl, h1⟩))
      go_wp2
      go_ret
      go_split_ands
      exact ⟨rfl, Hid.out (by assumption)⟩
  · have C := hide (hC 8 (by simp))
    have Sz := hide (fun w => r14_.SizeB true w)
    have Sm := hide (fun w => r14_.Sum v a b c d x y 8 w C.out)
    have Lp := hide (fun w => ly_.Lengths v a b c d x y 8 w C.out)
    have Lr := hide (fun w => r14_.Lengths v a b c d x y 8 w C.out)
    have Op := hide (fun w => ly_.Offsets v a b c d x y 8 w C.out)
    have Or := hide (fun w => r14_.Offsets v a b c d x y 8 w C.out)
    have q7 := fun w => eq7 (lenL a b c d x y 8) rfl w
    have q8 := fun w => eq8 [0, d * 8, d * 8 + d, d * 8 + d + 6 * x, d * 8 + d + 6 * x + y, d * 8 + d + 6 * x + y + c * (8 + 4), d * 8 + d + 6 * x + y + c * (8 + 4) + b, d * 8 + d + 6 * x + y + c * (8 + 4) + b + a] rfl w
    simp only [lenL, List.map_cons, List.map_nil] at q7
    simp only [List.map_cons, List.map_nil] at q8
    simp only [lenV, offV] at Lp Lr Op Or
    obtain ⟨T, hT⟩ : ∃ T, T = totV a b c d x y 8 := ⟨_, rfl⟩
    have Ty := fun h => hide (fun w => ly_.Total_yes v a b c d x y 8 t w C.out h t1)
    have Tn := fun h => hide (fun w => ly_.Total_no v a b c d x y 8 t w C.out t0 h)
    rw [← hT] at Sm Ty Tn
    clear hT hC
    generalize d * 8 = e0 at *
    generalize c * (8 + 4) = e4 at *
    generalize 6 * x = e2 at *
    by_cases hle : T ≤ t
    · have Tt := Ty hle
      clear Ty Tn
      have dl : decide (T ≤ t) = true := by simpa using hle
      go_enter Try.func3, Try.ntmps3
      go_upto_region 1 with fail
      generalize (w.alloc (.cells #[.int .i64 v, .int .u32 a, .int .u32 b, .int .u32 c, .int .u32 d, .int .u32 x, .int .u32 y] 24)) = w0 at *
      go_wp2_with fail
      refine (awake _).mono ?_
      rintro e w1 ⟨rfl, h1⟩
      replace hb := hide (bel_next hb.out h1)
      replace bx := hide (bx.out.below h1)
      clear h1
      go_wp2_with fail
      refine (Sz.out _).mono ?_
      rintro e w2 ⟨rfl, h1⟩
      replace hb := hide (bel_next hb.out h1)
      replace bx := hide (bx.out.below h1)
      clear h1
      have c7 := cells7' bx.out
      go_wp2_with fail
      clear c7
      refine (Tt.out _).mono ?_
      rintro e w3 ⟨rfl, h1⟩
      replace hb := hide (bel_next hb.out h1)
      replace bx := hide (bx.out.below h1)
      clear h1
      have c7 := cells7' bx.out
      go_wp2_with fail
      clear c7
      refine (Sm.out _).mono ?_
      rintro e w4 ⟨rfl, h1⟩
      replace hb := hide (bel_next hb.out h1)
      replace bx := hide (bx.out.below h1)
      clear h1
      go_upto_region 8 with fail
      go_region_held3 (fun w' => w'.cell? ⟨w.heap.size, 0, none⟩ = some (.int .i64 v) ∧ w'.cell? ⟨w.heap.size, 1, none⟩ = some (.int .u32 a) ∧ w'.cell? ⟨w.heap.size, 2, none⟩ = some (.int .u32 b) ∧ w'.cell? ⟨w.heap.size, 3, none⟩ = some (.int .u32 c) ∧ w'.cell? ⟨w.heap.size, 4, none⟩ = some (.int .u32 d) ∧ w'.cell? ⟨w.heap.size, 5, none⟩ = some (.int .u32 x) ∧ w'.cell? ⟨w.heap.size, 6, none⟩ = some (.int .u32 y) ∧ Hid (Below w.heap.size w w'))
        (first
          | exact ⟨(cells7' bx.out).1, (cells7' bx.out).2.1, (cells7' bx.out).2.2.1, (cells7' bx.out).2.2.2.1, (cells7' bx.out).2.2.2.2.1, (cells7' bx.out).2.2.2.2.2.1, (cells7' bx.out).2.2.2.2.2.2, by first | exact hb | exact hide (bl_drew hb.out)⟩
          | (go_split_ands; refine ⟨?_, ?_, ?_, ?_, ?_, ?_, ?_, ?_⟩ <;> first | exact cellE h1 (by assumption) | exact hide (bel_next (Hid.out (by assumption)) h1)))
        (first
          | (go_at_call 11; go_split_ands; with_reducible refine (Lp.out _).mono ?_; rintro e w5 ⟨rfl, h1⟩)
          | (go_at_call 12; go_split_ands; with_reducible refine (Lr.out _).mono ?_; rintro e w6 ⟨rfl, h1⟩)
          | (go_at_call 13; go_split_ands; with_reducible refine (Op.out _).mono ?_; rintro e w7 ⟨rfl, h1⟩)
          | (go_at_call 14; go_split_ands; with_reducible refine (Or.out _).mono ?_; rintro e w8 ⟨rfl, h1⟩))
      go_wp2
      go_ret
      go_split_ands
      exact ⟨rfl, Hid.out (by assumption)⟩
    · have Tt := Tn (by omega)
      clear Ty Tn
      have hlt : t < T := by omega
      clear hle
      have dl : decide (T ≤ t) = false := by simp; omega
      go_enter Try.func3, Try.ntmps3
      go_upto_region 1 with fail
      generalize (w.alloc (.cells #[.int .i64 v, .int .u32 a, .int .u32 b, .int .u32 c, .int .u32 d, .int .u32 x, .int .u32 y] 24)) = w0 at *
      go_wp2_with fail
      refine (awake _).mono ?_
      rintro e w1 ⟨rfl, h1⟩
      replace hb := hide (bel_next hb.out h1)
      replace bx := hide (bx.out.below h1)
      clear h1
      go_wp2_with fail
      refine (Sz.out _).mono ?_
      rintro e w2 ⟨rfl, h1⟩
      replace hb := hide (bel_next hb.out h1)
      replace bx := hide (bx.out.below h1)
      clear h1
      have c7 := cells7' bx.out
      go_wp2_with fail
      clear c7
      refine (Tt.out _).mono ?_
      rintro e w3 ⟨rfl, h1⟩
      replace hb := hide (bel_next hb.out h1)
      replace bx := hide (bx.out.below h1)
      clear h1
      have c7 := cells7' bx.out
      go_wp2_with fail
      clear c7
      refine (Sm.out _).mono ?_
      rintro e w4 ⟨rfl, h1⟩
      replace hb := hide (bel_next hb.out h1)
      replace bx := hide (bx.out.below h1)
      clear h1
      go_upto_region 8 with fail
      go_region_held3 (fun w' => w'.cell? ⟨w.heap.size, 0, none⟩ = some (.int .i64 v) ∧ w'.cell? ⟨w.heap.size, 1, none⟩ = some (.int .u32 a) ∧ w'.cell? ⟨w.heap.size, 2, none⟩ = some (.int .u32 b) ∧ w'.cell? ⟨w.heap.size, 3, none⟩ = some (.int .u32 c) ∧ w'.cell? ⟨w.heap.size, 4, none⟩ = some (.int .u32 d) ∧ w'.cell? ⟨w.heap.size, 5, none⟩ = some (.int .u32 x) ∧ w'.cell? ⟨w.heap.size, 6, none⟩ = some (.int .u32 y) ∧ Hid (Below w.heap.size w w'))
        (first
          | exact ⟨(cells7' bx.out).1, (cells7' bx.out).2.1, (cells7' bx.out).2.2.1, (cells7' bx.out).2.2.2.1, (cells7' bx.out).2.2.2.2.1, (cells7' bx.out).2.2.2.2.2.1, (cells7' bx.out).2.2.2.2.2.2, by first | exact hb | exact hide (bl_drew hb.out)⟩
          | (go_split_ands; refine ⟨?_, ?_, ?_, ?_, ?_, ?_, ?_, ?_⟩ <;> first | exact cellE h1 (by assumption) | exact hide (bel_next (Hid.out (by assumption)) h1)))
        (first
          | (go_at_call 11; go_split_ands; with_reducible refine (Lp.out _).mono ?_; rintro e w5 ⟨rfl, h1⟩)
          | (go_at_call 12; go_split_ands; with_reducible refine (Lr.out _).mono ?_; rintro e w6 ⟨rfl, h1⟩)
          | (go_at_call 13; go_split_ands; with_reducible refine (Op.out _).mono ?_; rintro e w7 ⟨rfl, h1⟩)
          | (go_at_call 14; go_split_ands; with_reducible refine (Or.out _).mono ?_; rintro e w8 ⟨rfl, h1⟩))
      go_wp2
      go_ret
      go_split_ands
      exact ⟨rfl, Hid.out (by assumption)⟩
end l14_
end Go.Proofs.Ytggjokiiemnkhaa
