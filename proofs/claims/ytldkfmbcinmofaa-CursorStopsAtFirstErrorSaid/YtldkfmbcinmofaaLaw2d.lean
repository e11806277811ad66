/-
  THE WALK OF CursorStopsAtFirstError (zoneinfolaw02), whole: for every input the law returns true and writes nothing that was there. No conditions.
-/
import Derived.Test.YtldkfmbcinmofaaLaw2c
namespace Go.Proofs.Ytldkfmbcinmofaa
open Go.ChangeShapes Go.WideShapes Go.ChangeAt Go.RowKit
set_option linter.unusedVariables false
namespace l2_
set_option maxRecDepth 100000 in
set_option maxHeartbeats 1000000 in
theorem stopsAtFirstError (a0 : Option Addr) (len0 cap0 : Nat) (z0 : List Int) (p x a : Int) (k a2 : Int) (a3 : Option Addr) (len3 cap3 : Nat) (z3 : List Int) (w : World) (w0 : IsRw .u8 w a0 len0 cap0 z0) (k0 : (Lit.int .i64 p).wf = true) (k1 : (Lit.int .i64 x).wf = true) (k2 : (Lit.int .i64 a).wf = true) (w1 : (Lit.int .i64 k).wf = true) (w2 : (Lit.int .u8 a2).wf = true) (w3 : IsRw .u8 w a3 len3 cap3 z3) :
    Calls Try.prog 4 #[cu a0 len0 cap0 p x a, .int .i64 k, .int .u8 a2, .slice a3 len3 cap3] w fun e w' => e = .returned (.bool true) ∧ Below w.heap.size w w' := by
  obtain ⟨c1, c2⟩ := w0.cap
  obtain ⟨c3, c4⟩ := w3.cap
  have hr := w0.rd
  have hnil := w0.nil
  obtain ⟨u0, u1⟩ := wf_u8 w2
  clear w0 w1 w2 w3 k0 k1 k2
  generalize z0.take len0 = l at *
  by_cases hval : 0 ≤ p ∧ p ≤ len0 ∧ (x ≠ 0 ∨ a = 0) ∧ len0 ≤ 2000
  · obtain ⟨v0, v1, v2, v3⟩ := hval
    by_cases hw : len3 ≤ 2000
    · by_cases hyes : x = 0 ∧ 0 ≤ k ∧ p + k ≤ len0
      · obtain ⟨rfl, hk0, hpk⟩ := hyes
        obtain rfl : a = 0 := by omega
        obtain ⟨P, rfl⟩ := Int.eq_ofNat_of_zero_le v0
        obtain ⟨K, rfl⟩ := Int.eq_ofNat_of_zero_le hk0
        have V := hide (fun w => r2_.Valid_yes a0 len0 cap0 P 0 0 w v0 v1 v2 v3)
        have T := hide (fun w hr => cu_.Take_yes a0 len0 cap0 l P K w hnil c1 c2 (by omega) (by omega) hr)
        clear hnil v2
        go_enter Try.func4, Try.ntmps4
        have b4 := hide (Bx.new4 w (.slice a0 len0 cap0) (.int .i64 P) (.int .i64 0) (.int .i64 0) 26)
        go_wp2_with fail
        refine (awake _).mono ?_
        rintro e w1 ⟨rfl, hb⟩
        have b4 := hide (b4.out.below hb)
        have B := hide (bel_next (bl_new _ _) hb)
        clear hb
        obtain ⟨b4a, b4b, b4c, b4d⟩ := b4.out.cells4
        have b4l := b4.out.lt
        go_wp2_with fail
        refine (V.out _).mono ?_
        rintro e w2 ⟨rfl, hb⟩
        have b4 := hide (b4.out.below hb)
        have B := hide (bel_next B.out hb)
        clear hb b4a b4b b4c b4d b4l
        obtain ⟨b4a, b4b, b4c, b4d⟩ := b4.out.cells4
        have b4l := b4.out.lt
        go_wp2_with fail
        refine (T.out _ (hr.below B.out)).mono ?_
        rintro e w3 ⟨A3, c3, rfl, ho, hb⟩
        have b4 := hide (b4.out.below hb)
        have B := hide (bel_next B.out hb)
        clear hb ho b4a b4b b4c b4d b4l
        obtain ⟨b4a, b4b, b4c, b4d⟩ := b4.out.cells4
        have b4l := b4.out.lt
        go_wp2
        go_ret
        exact ⟨rfl, bl_alloc B.out _⟩
      · exact sf_main a0 len0 cap0 l p x a k a2 a3 len3 cap3 w c1 c2 v3 hw v0 v1 v2 hr u0 u1 (by omega)
    · have V := hide (fun w => r2_.Valid_yes a0 len0 cap0 p x a w v0 v1 v2 v3)
      clear v2 hnil v0 v1
      go_enter Try.func4, Try.ntmps4
      have b4 := hide (Bx.new4 w (.slice a0 len0 cap0) (.int .i64 p) (.int .i64 x) (.int .i64 a) 26)
      go_wp2_with fail
      refine (awake _).mono ?_
      rintro e w1 ⟨rfl, hb⟩
      have b4 := hide (b4.out.below hb)
      have B := hide (bel_next (bl_new _ _) hb)
      clear hb
      obtain ⟨b4a, b4b, b4c, b4d⟩ := b4.out.cells4
      have b4l := b4.out.lt
      go_wp2_with fail
      refine (V.out _).mono ?_
      rintro e w2 ⟨rfl, hb⟩
      have B := hide (bel_next B.out hb)
      clear hb b4a b4b b4c b4d b4l b4
      go_wp2_with fail
      refine (awake _).mono ?_
      rintro e w3 ⟨rfl, hb⟩
      have B := hide (bel_next B.out hb)
      clear hb
      go_wp2
      go_ret
      exact ⟨rfl, B.out⟩
  · have V := hide (fun w => r2_.Valid_no a0 len0 cap0 p x a w hval)
    clear hval hnil
    go_enter Try.func4, Try.ntmps4
    have b4 := hide (Bx.new4 w (.slice a0 len0 cap0) (.int .i64 p) (.int .i64 x) (.int .i64 a) 26)
    go_wp2_with fail
    refine (awake _).mono ?_
    rintro e w1 ⟨rfl, hb⟩
    have b4 := hide (b4.out.below hb)
    have B := hide (bel_next (bl_new _ _) hb)
    clear hb
    obtain ⟨b4a, b4b, b4c, b4d⟩ := b4.out.cells4
    have b4l := b4.out.lt
    go_wp2_with fail
    refine (V.out _).mono ?_
    rintro e w2 ⟨rfl, hb⟩
    have B := hide (bel_next B.out hb)
    clear hb b4a b4b b4c b4d b4l b4
    go_wp2_with fail
    refine (awake _).mono ?_
    rintro e w3 ⟨rfl, hb⟩
    have B := hide (bel_next B.out hb)
    clear hb
    go_wp2
    go_ret
    exact ⟨rfl, B.out⟩
end l2_
end Go.Proofs.Ytldkfmbcinmofaa
