/-
  THE WALKS OF THE LAWS OF LAYER 3 (zoneinfolaw03), SizesExact. No conditions.
-/
import Derived.Test.YteabkmaopbmknaaLaw3
namespace Go.Proofs.Yteabkmaopbmknaa
open Go.ChangeShapes Go.WideShapes Go.ChangeAt Go.RowKit
set_option linter.unusedVariables false
namespace l3_
set_option maxRecDepth 100000 in
set_option maxHeartbeats 4000000 in
theorem exact_ (a0 a1 a2 : Int) (w : World) (w0 : (Lit.int .u64 a0).wf = true) (w1 : (Lit.int .u64 a1).wf = true) (w2 : (Lit.int .u64 a2).wf = true) :
    Calls Try.prog 4 #[.int .u64 a0, .int .u64 a1, .int .u64 a2] w fun e w' => e = .returned (.bool true) ∧ Below w.heap.size w w' := by
  obtain ⟨p0, p1⟩ := wf_u64 w0
  obtain ⟨q0, q1⟩ := wf_u64 w1
  obtain ⟨l0, l1⟩ := wf_u64 w2
  clear w0 w1 w2
  obtain ⟨v1, ok1, g1⟩ := Sz.ex (a0 + a1) a2
  obtain ⟨v2, ok2, g2⟩ := Sz.ex (a0 * a1) a2
  have G1 := hide g1
  have G2 := hide g2
  have G1' := hide (show Sz v1 ok1 (a1 + a0) a2 by rw [Int.add_comm]; exact g1)
  have G2' := hide (show Sz v2 ok2 (a1 * a0) a2 by rw [Int.mul_comm]; exact g2)
  -- the cases of the sum: fits; fits 64 bits alone; wraps
  have c1 : (ok1 = true ∧ v1 = a0 + a1 ∧ v1 ≤ a2) ∨ (ok1 = false ∧ v1 = 0 ∧ a2 < a0 + a1 ∧ a0 + a1 < 18446744073709551616) ∨ (ok1 = false ∧ v1 = 0 ∧ 18446744073709551616 ≤ a0 + a1 ∧ IntKind.u64.wrap (a0 + a1) = a0 + a1 - 18446744073709551616) := by
    rcases g1 with ⟨h1, h2, h3⟩ | ⟨h1, h2, h3⟩
    · exact .inl ⟨h1, h2, by omega⟩
    · by_cases h : a0 + a1 < 18446744073709551616
      · exact .inr (.inl ⟨h1, h2, h3, h⟩)
      · exact .inr (.inr ⟨h1, h2, by omega, by rw [IntKind.wrap_u64]; omega⟩)
  have c2 : (a0 = 0 ∧ ok2 = true ∧ v2 = 0) ∨ (1 ≤ a0 ∧ ok2 = true ∧ v2 ≤ a2 ∧ v2 / a0 = a1 ∧ v2 % a0 = 0 ∧ 0 ≤ v2) ∨ (1 ≤ a0 ∧ ok2 = false ∧ v2 = 0 ∧ a2 / a0 < a1) := by
    have hm := mul_lo a0 a1 p0 q0
    have hd : a0 ≠ 0 → (a0 * a1) / a0 = a1 ∧ (a0 * a1) % a0 = 0 ∧ (a1 ≤ a2 / a0 ↔ a0 * a1 ≤ a2) := fun h =>
      ⟨Int.mul_ediv_cancel_left _ h, Int.mul_emod_right _ _, by rw [Int.le_ediv_iff_mul_le (by omega), Int.mul_comm]⟩
    have hz : a0 = 0 → a0 * a1 = 0 := fun h => by rw [h, Int.zero_mul]
    clear G2 G2'
    generalize a0 * a1 = p at *
    by_cases h0 : a0 = 0
    · have hp := hz h0
      obtain ⟨h1, h2⟩ := g2.yes (by omega)
      exact .inl ⟨h0, h2.symm, by omega⟩
    · obtain ⟨d1, d2, d3⟩ := hd h0
      rcases g2 with ⟨h1, h2, h3⟩ | ⟨h1, h2, h3⟩
      · subst h2
        exact .inr (.inl ⟨by omega, h1, h3, d1, d2, hm⟩)
      · refine .inr (.inr ⟨by omega, h1, h2, ?_⟩)
        omega
  clear g1 g2
  rcases c1 with ⟨rfl, e1, e2⟩ | ⟨rfl, rfl, e1, e2⟩ | ⟨rfl, rfl, e1, e2⟩ <;> rcases c2 with ⟨rfl, rfl, rfl⟩ | ⟨f0, rfl, f1, f2, f3, f4⟩ | ⟨f0, rfl, rfl, f1⟩
  all_goals
    go_enter Try.func4, Try.ntmps4
    go_wp2_with fail
    refine (awake _).mono ?_
    rintro e w1 ⟨rfl, hb1⟩
    have hb1 := hide hb1
    go_wp2_with fail
    refine (sz_.Add _ _ _ _ _ _ p0 p1 q0 q1 l0 l1 G1.out).mono ?_
    rintro e w2 ⟨rfl, rfl⟩
    go_wp2_with fail
    refine (sz_.Add _ _ _ _ _ _ q0 q1 p0 p1 l0 l1 G1'.out).mono ?_
    rintro e w2 ⟨rfl, rfl⟩
    go_wp2_with fail
    refine (sz_.Mul _ _ _ _ _ _ p0 p1 q0 q1 l0 l1 G2.out).mono ?_
    rintro e w2 ⟨rfl, rfl⟩
    go_wp2_with fail
    refine (sz_.Mul _ _ _ _ _ _ q0 q1 p0 p1 l0 l1 G2'.out).mono ?_
    rintro e w2 ⟨rfl, rfl⟩
    go_wp2
    all_goals go_ret
    all_goals first
      | exact ⟨rfl, hb1.out⟩
      | exact ⟨retb (by simp; omega), hb1.out⟩
end l3_
end Go.Proofs.Yteabkmaopbmknaa
