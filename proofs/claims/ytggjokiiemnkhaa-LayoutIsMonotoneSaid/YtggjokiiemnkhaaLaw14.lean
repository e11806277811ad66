/-
  THE WALKS OF THE LAWS OF LAYER 14 (zoneinfolaw14): awake. No conditions.
-/
import Derived.Test.YtggjokiiemnkhaaLy
import Derived.Test.YtggjokiiemnkhaaArr
import Derived.Deep.RegionHeld3
namespace Go.Proofs.Ytggjokiiemnkhaa
open Go.ChangeShapes Go.WideShapes Go.ChangeAt Go.RowKit
open r14_ (cells7' cells8 bx_snd)
set_option linter.unusedVariables false
theorem lyc {a b c d x y s : Int} (h : (0 ≤ a ∧ a < 4294967296) ∧ (0 ≤ b ∧ b < 4294967296) ∧ (0 ≤ c ∧ c < 4294967296) ∧ (0 ≤ d ∧ d < 4294967296) ∧ (0 ≤ x ∧ x < 4294967296) ∧ (0 ≤ y ∧ y < 4294967296) ∧ (s = 4 ∨ s = 8)) : LyC a b c d x y s := ⟨h.1, h.2.1, h.2.2.1, h.2.2.2.1, h.2.2.2.2.1, h.2.2.2.2.2.1, h.2.2.2.2.2.2⟩
theorem eq7 (l : List Int) (hl : l.length = 7) (w : World) : (Op.equalIn 10000 31 (.agg (l.map (Value.int .u64)).toArray) (.agg (l.map (Value.int .u64)).toArray)).run Try.prog w = .ok true w := eq_arr _ 25 7 Try.underlying31 Try.underlying25 Try.sizeOf25 Try.isAgg25 l hl w
theorem eq8 (l : List Int) (hl : l.length = 8) (w : World) : (Op.equalIn 10000 33 (.agg (l.map (Value.int .u64)).toArray) (.agg (l.map (Value.int .u64)).toArray)).run Try.prog w = .ok true w := eq_arr _ 25 8 Try.underlying33 Try.underlying25 Try.sizeOf25 Try.isAgg25 l hl w
namespace l14_
set_option maxRecDepth 100000 in
set_option maxHeartbeats 4000000 in
theorem awake (w : World) : Calls Try.prog 7 #[] w fun e w' => e = .returned (.bool true) ∧ Below w.heap.size w w' := by
  have hb := hide (bl_new w (.cells #[.int .i64 0, .int .u32 0, .int .u32 0, .int .u32 0, .int .u32 2, .int .u32 1, .int .u32 4] 24))
  have b1 := hide (Bx.new w [.int .i64 0, .int .u32 0, .int .u32 0, .int .u32 0, .int .u32 2, .int .u32 1, .int .u32 4] 24)
  have T1 := hide (fun w => ly_.Total_yes 0 0 0 0 2 1 4 4 20 w (lyc (by decide)) (by decide) (by decide))
  have T2 := hide (fun w => ly_.Total_no 0 0 0 0 2 1 4 4 19 w (lyc (by decide)) (by decide) (by decide))
  have T3 := hide (fun w => ly_.Total_yes 0 4294967295 4294967295 4294967295 4294967295 4294967295 4294967295 8 18446744073709551615 w (lyc (by decide)) (by decide) (by decide))
  rw [show totV 0 0 0 2 1 4 4 = 20 by decide] at T1
  rw [show totV 4294967295 4294967295 4294967295 4294967295 4294967295 4294967295 8 = 128849018850 by decide] at T3
  have L1 := hide (fun w => ly_.Lengths 0 0 0 0 2 1 4 8 w (lyc (by decide)))
  have O1 := hide (fun w => ly_.Offsets 0 0 0 0 2 1 4 4 w (lyc (by decide)))
  rw [show lenV 0 0 0 2 1 4 8 = .agg #[.int .u64 16, .int .u64 2, .int .u64 6, .int .u64 4, .int .u64 0, .int .u64 0, .int .u64 0] from rfl] at L1
  rw [show offV 0 0 0 2 1 4 4 = .agg #[.int .u64 0, .int .u64 8, .int .u64 10, .int .u64 16, .int .u64 20, .int .u64 20, .int .u64 20, .int .u64 20] from rfl] at O1
  have q7 : ∀ w, (Op.equalIn 10000 31 (.agg #[.int .u64 16, .int .u64 2, .int .u64 6, .int .u64 4, .int .u64 0, .int .u64 0, .int .u64 0]) (.agg #[.int .u64 16, .int .u64 2, .int .u64 6, .int .u64 4, .int .u64 0, .int .u64 0, .int .u64 0])).run Try.prog w = .ok true w := fun w => eq7 [16, 2, 6, 4, 0, 0, 0] rfl w
  have q8 : ∀ w, (Op.equalIn 10000 33 (.agg #[.int .u64 0, .int .u64 8, .int .u64 10, .int .u64 16, .int .u64 20, .int .u64 20, .int .u64 20, .int .u64 20]) (.agg #[.int .u64 0, .int .u64 8, .int .u64 10, .int .u64 16, .int .u64 20, .int .u64 20, .int .u64 20, .int .u64 20])).run Try.prog w = .ok true w := fun w => eq8 [0, 8, 10, 16, 20, 20, 20, 20] rfl w
  go_enter Try.func7, Try.ntmps7
  go_upto_region 2 with fail
  generalize (w.alloc (.cells #[.int .i64 0, .int .u32 0, .int .u32 0, .int .u32 0, .int .u32 2, .int .u32 1, .int .u32 4] 24)) = w0 at *
  have c7 := cells7' b1.out
  go_wp2_with fail
  clear c7
  refine (T1.out _).mono ?_
  rintro e w1 ⟨rfl, g1⟩
  replace hb := hide (bel_next hb.out g1)
  replace b1 := hide (b1.out.below g1)
  clear g1
  have c7 := cells7' b1.out
  go_wp2_with fail
  clear c7
  refine (T2.out _).mono ?_
  rintro e w2 ⟨rfl, g1⟩
  replace hb := hide (bel_next hb.out g1)
  replace b1 := hide (b1.out.below g1)
  clear g1
  replace hb := hide (bl_alloc hb.out (.cells #[.int .i64 0, .int .u32 4294967295, .int .u32 4294967295, .int .u32 4294967295, .int .u32 4294967295, .int .u32 4294967295, .int .u32 4294967295] 24))
  replace b1 := hide (b1.out.alloc (.cells #[.int .i64 0, .int .u32 4294967295, .int .u32 4294967295, .int .u32 4294967295, .int .u32 4294967295, .int .u32 4294967295, .int .u32 4294967295] 24))
  go_wp2_with fail
  refine (T3.out _).mono ?_
  rintro e w3 ⟨rfl, g1⟩
  replace hb := hide (bel_next hb.out g1)
  replace b1 := hide (b1.out.below g1)
  clear g1
  have c7 := cells7' b1.out
  go_wp2_with fail
  clear c7
  refine (L1.out _).mono ?_
  rintro e w4 ⟨rfl, g1⟩
  replace hb := hide (bel_next hb.out g1)
  replace b1 := hide (b1.out.below g1)
  clear g1
  have c7 := cells7' b1.out
  go_wp2_with fail
  clear c7
  refine (O1.out _).mono ?_
  rintro e w5 ⟨rfl, g1⟩
  replace hb := hide (bel_next hb.out g1)
  clear g1
  go_wp2
  go_ret
  exact ⟨rfl, hb.out⟩
end l14_
end Go.Proofs.Ytggjokiiemnkhaa
