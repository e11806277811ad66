/-
  THE WALKS OF THE LAWS OF LAYER 3 (zoneinfolaw03), the second part: SizesLimitIsMonotone, SizesAssociate. No conditions.
-/
import Derived.Test.YteabkmaopbmknaaLaw3
namespace Go.Proofs.Yteabkmaopbmknaa
open Go.ChangeShapes Go.WideShapes Go.ChangeAt Go.RowKit
set_option linter.unusedVariables false
namespace l3_
set_option maxHeartbeats 4000000 in
theorem mono_ (a0 : Option Addr) (len0 cap0 : Nat) (z0 : List Int) (a1 : Option Addr) (len1 cap1 : Nat) (z1 : List Int) (a2 a3 : Int) (w : World) (w0 : IsRw .u64 w a0 len0 cap0 z0) (w1 : IsRw .u64 w a1 len1 cap1 z1) (w2 : (Lit.int .u64 a2).wf = true) (w3 : (Lit.int .u64 a3).wf = true) :
    Calls Try.prog 5 #[.slice a0 len0 cap0, .slice a1 len1 cap1, .int .u64 a2, .int .u64 a3] w fun e w' => e = .returned (.bool true) ∧ Below w.heap.size w w' := by
  obtain ⟨l0, l1⟩ := wf_u64 w2
  obtain ⟨m0, m1⟩ := wf_u64 w3
  obtain ⟨c1, c2⟩ := w0.cap
  obtain ⟨c3, c4⟩ := w1.cap
  have hx := wordsOf w0
  have hy := wordsOf w1
  have hr := w0.rd
  have hs := w1.rd
  clear w0 w1 w2 w3
  generalize z0.take len0 = xs at *
  generalize z1.take len1 = ys at *
  by_cases h3 : 100 < len0
  · go_enter Try.func5, Try.ntmps5
    go_wp2_with fail
    refine (awake _).mono ?_
    rintro e w1 ⟨rfl, hb1⟩
    go_wp2_with fail
    refine (awake _).mono ?_
    rintro e w2 ⟨rfl, hb2⟩
    go_wp2
    go_ret
    exact ⟨rfl, bel_next hb1 hb2⟩
  by_cases h4 : 100 < len1
  · go_enter Try.func5, Try.ntmps5
    go_wp2_with fail
    refine (awake _).mono ?_
    rintro e w1 ⟨rfl, hb1⟩
    go_wp2_with fail
    refine (awake _).mono ?_
    rintro e w2 ⟨rfl, hb2⟩
    go_wp2
    go_ret
    exact ⟨rfl, bel_next hb1 hb2⟩
  obtain ⟨s, hs0⟩ : ∃ s, s = tot xs ys (min len0 len1) := ⟨_, rfl⟩
  have s0 : 0 ≤ s := by rw [hs0]; exact tot_nonneg hx hy _
  have Hs := hide hs0
  clear hs0
  by_cases hfit : s ≤ a2
  · have hs2 : s < 18446744073709551616 := by omega
    have main : ∀ high : Int, (high = a2 + a3 ∧ a3 < 18446744073709551615 - a2) ∨ (high = a2 + a3 ∧ a3 = 18446744073709551615 - a2) ∨ (high = 18446744073709551615 ∧ 18446744073709551615 - a2 < a3) →
        Calls Try.prog 5 #[.slice a0 len0 cap0, .slice a1 len1 cap1, .int .u64 a2, .int .u64 a3] w fun e w' => e = .returned (.bool true) ∧ Below w.heap.size w w' := by
      intro high hh
      have hz : s = 0 ∨ 1 ≤ s := by omega
      rcases hh with ⟨rfl, h5⟩ | ⟨rfl, h5⟩ | ⟨rfl, h5⟩ <;> rcases hz with h6 | h6
      all_goals
        try subst h6
        try subst h5
        go_enter Try.func5, Try.ntmps5
        go_wp2_with fail
        refine (awake _).mono ?_
        rintro e w1 ⟨rfl, hb1⟩
        have hr1 := hr.below hb1
        have hs1 := hs.below hb1
        have hb1 := hide hb1
        go_wp2_with fail
        refine (sz_.Total _ _ _ _ _ _ xs ys _ _ _ _ (by omega) (by omega) hr1 hs1 hx hy l0 l1 (.y Hs.out.symm hfit)).mono ?_
        rintro e w2 ⟨rfl, hb2⟩
        have hr2 := hr1.below hb2
        have hs2 := hs1.below hb2
        have hb2 := hide (bel_next hb1.out hb2)
        go_wp2_with fail
        refine (sz_.Total _ _ _ _ _ _ xs ys _ _ _ _ (by omega) (by omega) hr2 hs2 hx hy (by omega) (by omega) (.y Hs.out.symm (by omega))).mono ?_
        rintro e w3 ⟨rfl, hb3⟩
        have hr3 := hr2.below hb3
        have hs3 := hs2.below hb3
        have hb3 := hide (bel_next hb2.out hb3)
        go_wp2_with fail
        refine (sz_.Total _ _ _ _ _ _ xs ys _ _ _ _ (by omega) (by omega) hr3 hs3 hx hy (by omega) (by omega) (.y Hs.out.symm (by omega))).mono ?_
        rintro e w4 ⟨rfl, hb4⟩
        have hr4 := hr3.below hb4
        have hs4 := hs3.below hb4
        have hb4 := hide (bel_next hb3.out hb4)
        first
          | (go_wp2_with fail
             go_ret
             exact ⟨rfl, hb4.out⟩)
          | (go_wp2_with fail
             refine (sz_.Total _ _ _ _ _ _ xs ys _ 0 false _ (by omega) (by omega) hr4 hs4 hx hy (by omega) (by omega) (.n (by have := Hs.out; omega))).mono ?_
             rintro e w5 ⟨rfl, hb5⟩
             have hb5 := hide (bel_next hb4.out hb5)
             go_wp2
             go_ret
             exact ⟨rfl, hb5.out⟩)
    rcases (show a3 < 18446744073709551615 - a2 ∨ a3 = 18446744073709551615 - a2 ∨ 18446744073709551615 - a2 < a3 by omega) with h | h | h
    · exact main _ (.inl ⟨rfl, h⟩)
    · exact main _ (.inr (.inl ⟨rfl, h⟩))
    · exact main _ (.inr (.inr ⟨rfl, h⟩))
  · go_enter Try.func5, Try.ntmps5
    go_wp2_with fail
    refine (awake _).mono ?_
    rintro e w1 ⟨rfl, hb1⟩
    have hr1 := hr.below hb1
    have hs1 := hs.below hb1
    have hb1 := hide hb1
    go_wp2_with fail
    refine (sz_.Total _ _ _ _ _ _ xs ys _ 0 false _ (by omega) (by omega) hr1 hs1 hx hy l0 l1 (.n (by have := Hs.out; omega))).mono ?_
    rintro e w2 ⟨rfl, hb2⟩
    have hb2 := hide (bel_next hb1.out hb2)
    go_wp2
    go_ret
    exact ⟨rfl, hb2.out⟩

set_option maxHeartbeats 4000000 in
theorem assoc_ (a0 a1 a2 : Int) (w : World) (w0 : (Lit.int .u32 a0).wf = true) (w1 : (Lit.int .u32 a1).wf = true) (w2 : (Lit.int .u32 a2).wf = true) :
    Calls Try.prog 7 #[.int .u32 a0, .int .u32 a1, .int .u32 a2] w fun e w' => e = .returned (.bool true) ∧ Below w.heap.size w w' := by
  have wf32 : ∀ {n : Int}, (Lit.int .u32 n).wf = true → 0 ≤ n ∧ n < 4294967296 := fun h => by simp [Lit.wf, IntKind.min, IntKind.max, IntKind.signed, IntKind.bits] at h; omega
  obtain ⟨p0, p1⟩ := wf32 w0
  obtain ⟨q0, q1⟩ := wf32 w1
  obtain ⟨r0, r1⟩ := wf32 w2
  clear w0 w1 w2 wf32
  have hq := mul_lo a0 a1 p0 q0
  have hr := mul_lo a0 a2 p0 r0
  have hm : ∀ b : Int, 0 ≤ b → b < 4294967296 → a0 * b ≤ 18446744065119617025 := fun b h1 h2 => by
    have h := Int.mul_le_mul (show a0 ≤ 4294967295 by omega) (show b ≤ 4294967295 by omega) h1 (by omega)
    omega
  have hq' := hm a1 q0 q1
  have hr' := hm a2 r0 r1
  have hd : a0 * (a1 + a2) = a0 * a1 + a0 * a2 := Int.mul_add _ _ _
  have Hd := hide hd
  clear hm hd
  obtain ⟨q, Hq⟩ : ∃ q, Hid (a0 * a1 = q) := ⟨_, rfl⟩
  obtain ⟨r, Hr⟩ : ∃ r, Hid (a0 * a2 = r) := ⟨_, rfl⟩
  rw [Hq.out] at hq hq' Hd
  rw [Hr.out] at hr hr' Hd
  obtain ⟨v, ok, g⟩ := Sz.ex (q + r) 18446744073709551615
  have G := hide g
  have G2 := hide (show Sz v ok (a0 * (a1 + a2)) 18446744073709551615 by rw [Hd.out]; exact g)
  rcases g with ⟨rfl, g1, g2⟩ | ⟨rfl, rfl, g2⟩
  all_goals
    go_enter Try.func7, Try.ntmps7
    go_wp2_with fail
    refine (awake _).mono ?_
    rintro e w1 ⟨rfl, hb1⟩
    have hb1 := hide hb1
    go_wp2_with fail
    refine (sz_.Add _ _ _ (a0 + a1) true _ p0 (by omega) q0 (by omega) (by omega) (by omega) (.y rfl (by omega))).mono ?_
    rintro e w2 ⟨rfl, rfl⟩
    go_wp2_with fail
    refine (sz_.Add _ _ _ (a0 + a1 + a2) true _ (by omega) (by omega) r0 (by omega) (by omega) (by omega) (.y rfl (by omega))).mono ?_
    rintro e w2 ⟨rfl, rfl⟩
    go_wp2_with fail
    refine (sz_.Add _ _ _ (a1 + a2) true _ q0 (by omega) r0 (by omega) (by omega) (by omega) (.y rfl (by omega))).mono ?_
    rintro e w2 ⟨rfl, rfl⟩
    go_wp2_with fail
    refine (sz_.Add _ _ _ (a0 + a1 + a2) true _ p0 (by omega) (by omega) (by omega) (by omega) (by omega) (.y (by omega) (by omega))).mono ?_
    rintro e w2 ⟨rfl, rfl⟩
    go_wp2_with fail
    refine (sz_.Mul _ _ _ _ _ _ p0 (by omega) (by omega) (by omega) (by omega) (by omega) G2.out).mono ?_
    rintro e w2 ⟨rfl, rfl⟩
    go_wp2_with fail
    refine (sz_.Mul _ _ _ q true _ p0 (by omega) q0 (by omega) (by omega) (by omega) (.y Hq.out (by omega))).mono ?_
    rintro e w2 ⟨rfl, rfl⟩
    go_wp2_with fail
    refine (sz_.Mul _ _ _ r true _ p0 (by omega) r0 (by omega) (by omega) (by omega) (.y Hr.out (by omega))).mono ?_
    rintro e w2 ⟨rfl, rfl⟩
    go_wp2_with fail
    refine (sz_.Add _ _ _ _ _ _ hq (by omega) hr (by omega) (by omega) (by omega) G.out).mono ?_
    rintro e w2 ⟨rfl, rfl⟩
    go_wp2
    go_ret
    exact ⟨rfl, hb1.out⟩
end l3_
end Go.Proofs.Yteabkmaopbmknaa
