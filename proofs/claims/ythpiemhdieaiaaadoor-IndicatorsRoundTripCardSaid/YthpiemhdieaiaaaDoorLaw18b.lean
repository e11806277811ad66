/-
  THE WALKS OF THE LAWS OF LAYER 18 (zoneinfolaw18): IndicatorsRoundTrip. No conditions.
-/
import Derived.Test.YthpiemhdieaiaaaDoorLaw18
namespace Go.Proofs.YthpiemhdieaiaaaDoor
open Go.ChangeShapes Go.WideShapes Go.ChangeAt Go.RowKit
set_option linter.unusedVariables false
set_option maxRecDepth 100000
namespace l18_
set_option maxHeartbeats 8000000 in
theorem roundTrip (A1 : Option Addr) (n1 c1' : Nat) (l : List Bool) (at_ c : Int) (w : World) (hT : Ti w) (h1 : IsBw w A1 n1 c1' l) (hat : (Lit.int .u16 at_).wf = true) (hcw : (Lit.int .u8 c).wf = true) :
    Calls Tryd.prog 4 #[.slice A1 n1 c1', .int .u16 at_, .int .u8 c] w fun e w' => e = .returned (.bool true) ∧ Below w.heap.size w w' := by
  have a0 : 0 ≤ at_ ∧ at_ < 65536 := by simp [Lit.wf, IntKind.min, IntKind.max, IntKind.signed, IntKind.bits] at hat; omega
  obtain ⟨a0, a1⟩ := a0
  obtain ⟨c0, c1⟩ := wf_u8 hcw
  clear hat hcw
  have l1 := h1.len
  obtain ⟨nil1, ca1, om1, r1⟩ := h1
  replace nil1 := hide nil1
  replace r1 := hide r1
  have HT := hide hT
  have hb := hide (Below.refl w.heap.size w)
  by_cases hn1 : 1000 < n1
  · have hn' : (1000 : Int) < n1 := by omega
    clear r1 l1
    go_enter Tryd.func4, Tryd.ntmps4
    go_wp2_with fail
    refine (awake _ (HT.out.below hb.out)).mono ?_
    rintro e w1 ⟨rfl, h1⟩
    replace hb := hide (bel_next hb.out h1)
    clear h1
    go_wp2_with fail
    refine (awake _ (HT.out.below hb.out)).mono ?_
    rintro e w9 ⟨rfl, h1⟩
    replace hb := hide (bel_next hb.out h1)
    clear h1
    go_wp2
    go_ret
    exact ⟨rfl, hb.out⟩
  have k1 : (n1 : Int) ≤ 1000 := by omega
  have E1 := hide (fun A c w hT hA hc hcm hr => in_.Encode A n1 c l w hT (by omega) hA hc hcm hr)
  have eb : ∀ x ∈ eI l, 0 ≤ x ∧ x < 256 := fun x hx => by have := eI_bd l x hx; omega
  have D1 := hide (fun A c w hT hA hc hcm hr => in_.Decode A n1 c (eI l) w hT (by omega) hA hc hcm hr eb)
  have fe := hide (fI_e l)
  rw [dI_e] at D1
  have S6 := hide (fun A A' c c' w hr hr' => r18_.Same A A' n1 n1 c c' l l w (by omega) (by omega) hr hr')
  simp only [decide_true] at S6
  by_cases hz : n1 = 0
  · have d0 : ((n1 : Int) == 0) = true := by simp; omega
    replace hz := hide hz
    clear l1 eb
    go_enter Tryd.func4, Tryd.ntmps4
    go_wp2_with fail
    refine (awake _ (HT.out.below hb.out)).mono ?_
    rintro e w1 ⟨rfl, h1⟩
    replace hb := hide (bel_next hb.out h1)
    replace r1 := hide (r1.out.below h1)
    clear h1
    go_wp2_with fail
    refine (E1.out _ _ _ (HT.out.below hb.out) nil1.out ca1 om1 r1.out).mono ?_
    rintro e w3 ⟨A3, c3, rfl, o3, h1⟩
    replace hb := hide (bel_next hb.out h1)
    replace r1 := hide (r1.out.below h1)
    clear h1
    have kc3 := o3.cap
    have om3 : c3 ≤ 9223372036854775807 := by have := o3.capMax; simp [maxLen] at this; omega
    have nil3 := hide o3.nilcap
    replace o3 := hide o3
    go_wp2_with fail
    refine (D1.out _ _ _ (HT.out.below hb.out) nil3.out kc3 om3 o3.out.rd).mono ?_
    rintro e w4 ⟨⟨-, A4, c4, rfl, o4⟩ | ⟨h, -⟩, h1⟩
    rotate_left
    · rw [fe.out] at h; cases h
    replace hb := hide (bel_next hb.out h1)
    replace r1 := hide (r1.out.below h1)
    replace o3 := hide (o3.out.below h1)
    clear h1
    replace o4 := hide o4
    go_wp2_with fail
    refine (S6.out _ _ _ _ _ o4.out.rd r1.out).mono ?_
    rintro e w5 ⟨rfl, h1⟩
    replace hb := hide (bel_next hb.out h1)
    replace r1 := hide (r1.out.below h1)
    replace o3 := hide (o3.out.below h1)
    replace o4 := hide (o4.out.below h1)
    clear h1
    clear o4
    go_wp2
    go_ret
    exact ⟨rfl, hb.out⟩
  have hp : 0 < n1 := by omega
  have d0 : ((n1 : Int) == 0) = false := by simp; omega
  obtain ⟨k, hk', hk⟩ : ∃ k : Nat, at_.tmod (n1 : Int) = (k : Int) ∧ k < n1 := ⟨(at_.tmod n1).toNat, by have := Int.tmod_nonneg (n1 : Int) a0; omega, by have := Int.tmod_nonneg (n1 : Int) a0; have := Int.tmod_lt_of_pos at_ (show (0 : Int) < n1 by omega); omega⟩
  have hkc : (k : Int) < (n1 : Int) := by omega
  have f2 := hide (fI_set (fI_e l) (k := k) (by rw [eI_len, l1]; exact hk) c)
  have eb2 : ∀ x ∈ (eI l).set k c, 0 ≤ x ∧ x < 256 := fun x hx => by rcases List.mem_or_eq_of_mem_set hx with h | rfl; exact eb x h; exact ⟨c0, c1⟩
  have D2 := hide (fun A c' w hT hA hc hcm hr => in_.Decode A n1 c' ((eI l).set k c) w hT (by omega) hA hc hcm hr eb2)
  have S8 := hide (fun A A' c' c'' w hr hr' => r1_.Same A A' n1 c' n1 c'' ((eI l).set k c) w (by omega) hr hr')
  by_cases hc1 : c ≤ 1
  · have dc : decide (c ≤ 1) = true := decide_eq_true hc1
    rw [dc] at f2
    have E2 := hide (fun A c' w hT hA hc hcm hr => in_.Encode A n1 c' (dI ((eI l).set k c)) w hT (by omega) hA hc hcm hr)
    rw [eI_d f2.out (fun x hx => (eb2 x hx).1)] at E2
    generalize he2 : (eI l).set k c = e2 at *
    replace he2 := hide he2
    generalize dI e2 = d2 at *
    clear l1 eb eb2
    go_enter Tryd.func4, Tryd.ntmps4
    go_wp2_with fail
    refine (awake _ (HT.out.below hb.out)).mono ?_
    rintro e w1 ⟨rfl, h1⟩
    replace hb := hide (bel_next hb.out h1)
    replace r1 := hide (r1.out.below h1)
    clear h1
    go_wp2_with fail
    refine (E1.out _ _ _ (HT.out.below hb.out) nil1.out ca1 om1 r1.out).mono ?_
    rintro e w3 ⟨A3, c3, rfl, o3, h1⟩
    have hw1 : w.heap.size ≤ w1.heap.size := hb.out.size
    replace hb := hide (bel_next hb.out h1)
    replace r1 := hide (r1.out.below h1)
    clear h1
    have kc3 := o3.cap
    have om3 : c3 ≤ 9223372036854775807 := by have := o3.capMax; simp [maxLen] at this; omega
    have nil3 := hide o3.nilcap
    replace o3 := hide o3
    go_wp2_with fail
    refine (D1.out _ _ _ (HT.out.below hb.out) nil3.out kc3 om3 o3.out.rd).mono ?_
    rintro e w4 ⟨⟨-, A4, c4, rfl, o4⟩ | ⟨h, -⟩, h1⟩
    rotate_left
    · rw [fe.out] at h; cases h
    replace hb := hide (bel_next hb.out h1)
    replace r1 := hide (r1.out.below h1)
    replace o3 := hide (o3.out.below h1)
    clear h1
    replace o4 := hide o4
    go_wp2_with fail
    refine (S6.out _ _ _ _ _ o4.out.rd r1.out).mono ?_
    rintro e w5 ⟨rfl, h1⟩
    replace hb := hide (bel_next hb.out h1)
    replace r1 := hide (r1.out.below h1)
    replace o3 := hide (o3.out.below h1)
    replace o4 := hide (o4.out.below h1)
    clear h1
    clear o4
    go_upto_region 9 with fail
    obtain ⟨g3, rfl, hg3, _⟩ := o3.out.form hp
    have hs3 := o3.out.set k (.int .u8 c)
    rw [← List.map_set] at hs3
    rw [he2.out] at hs3
    obtain ⟨v3, hc3⟩ : ∃ v, w5.cell? ⟨g3, k, none⟩ = some v := ⟨_, by rw [o3.out.cell k hk, List.getElem?_eq_getElem (by rw [o3.out.len]; exact hk)]⟩
    have hf3 := o3.out.frozen k
    have hb3 := hide (bl_set (o := k) hb.out (Nat.le_trans hw1 hg3) (.int .u8 c))
    replace hs3 := hide hs3
    go_upto_region 10 with fail
    clear hc3 hf3 o3 hb
    have o3 := hide hs3.out
    have hb := hide hb3.out
    clear hs3 hb3 r1
    generalize (w5.setCell ⟨g3, k, none⟩ (.int .u8 c)) = w6 at *
    go_wp2_with fail
    refine (D2.out _ _ _ (HT.out.below hb.out) nil3.out kc3 om3 o3.out.rd).mono ?_
    rintro e w7 ⟨⟨-, A7, c7, rfl, o7⟩ | ⟨h, -⟩, h1⟩
    rotate_left
    · rw [f2.out] at h; cases h
    replace hb := hide (bel_next hb.out h1)
    replace o3 := hide (o3.out.below h1)
    clear h1
    have kc7 := o7.cap
    have om7 : c7 ≤ 9223372036854775807 := by have := o7.capMax; simp [maxLen] at this; omega
    have nil7 := hide o7.nilcap
    replace o7 := hide o7
    go_wp2_with fail
    refine (E2.out _ _ _ (HT.out.below hb.out) nil7.out kc7 om7 o7.out.rd).mono ?_
    rintro e w8 ⟨A8, c8, rfl, o8, h1⟩
    replace hb := hide (bel_next hb.out h1)
    replace o3 := hide (o3.out.below h1)
    replace o7 := hide (o7.out.below h1)
    clear h1
    replace o8 := hide o8
    clear o7
    go_wp2_with fail
    refine (S8.out _ _ _ _ _ o8.out.rd o3.out.rd).mono ?_
    rintro e w9 ⟨rfl, h1⟩
    replace hb := hide (bel_next hb.out h1)
    replace o3 := hide (o3.out.below h1)
    replace o8 := hide (o8.out.below h1)
    clear h1
    go_wp2
    go_ret
    exact ⟨rfl, hb.out⟩
  · have dc : decide (c ≤ 1) = false := decide_eq_false hc1
    rw [dc] at f2
    clear l1 eb eb2
    go_enter Tryd.func4, Tryd.ntmps4
    go_wp2_with fail
    refine (awake _ (HT.out.below hb.out)).mono ?_
    rintro e w1 ⟨rfl, h1⟩
    replace hb := hide (bel_next hb.out h1)
    replace r1 := hide (r1.out.below h1)
    clear h1
    go_wp2_with fail
    refine (E1.out _ _ _ (HT.out.below hb.out) nil1.out ca1 om1 r1.out).mono ?_
    rintro e w3 ⟨A3, c3, rfl, o3, h1⟩
    have hw1 : w.heap.size ≤ w1.heap.size := hb.out.size
    replace hb := hide (bel_next hb.out h1)
    replace r1 := hide (r1.out.below h1)
    clear h1
    have kc3 := o3.cap
    have om3 : c3 ≤ 9223372036854775807 := by have := o3.capMax; simp [maxLen] at this; omega
    have nil3 := hide o3.nilcap
    replace o3 := hide o3
    go_wp2_with fail
    refine (D1.out _ _ _ (HT.out.below hb.out) nil3.out kc3 om3 o3.out.rd).mono ?_
    rintro e w4 ⟨⟨-, A4, c4, rfl, o4⟩ | ⟨h, -⟩, h1⟩
    rotate_left
    · rw [fe.out] at h; cases h
    replace hb := hide (bel_next hb.out h1)
    replace r1 := hide (r1.out.below h1)
    replace o3 := hide (o3.out.below h1)
    clear h1
    replace o4 := hide o4
    go_wp2_with fail
    refine (S6.out _ _ _ _ _ o4.out.rd r1.out).mono ?_
    rintro e w5 ⟨rfl, h1⟩
    replace hb := hide (bel_next hb.out h1)
    replace r1 := hide (r1.out.below h1)
    replace o3 := hide (o3.out.below h1)
    replace o4 := hide (o4.out.below h1)
    clear h1
    clear o4
    go_upto_region 9 with fail
    obtain ⟨g3, rfl, hg3, _⟩ := o3.out.form hp
    have hs3 := o3.out.set k (.int .u8 c)
    rw [← List.map_set] at hs3
    obtain ⟨v3, hc3⟩ : ∃ v, w5.cell? ⟨g3, k, none⟩ = some v := ⟨_, by rw [o3.out.cell k hk, List.getElem?_eq_getElem (by rw [o3.out.len]; exact hk)]⟩
    have hf3 := o3.out.frozen k
    have hb3 := hide (bl_set (o := k) hb.out (Nat.le_trans hw1 hg3) (.int .u8 c))
    replace hs3 := hide hs3
    go_upto_region 10 with fail
    clear hc3 hf3 o3 hb
    have o3 := hide hs3.out
    have hb := hide hb3.out
    clear hs3 hb3 r1
    generalize (w5.setCell ⟨g3, k, none⟩ (.int .u8 c)) = w6 at *
    go_wp2_with fail
    refine (D2.out _ _ _ (HT.out.below hb.out) nil3.out kc3 om3 o3.out.rd).mono ?_
    rintro e w7 ⟨⟨h, -⟩ | ⟨-, rfl⟩, h1⟩
    · rw [f2.out] at h; cases h
    replace hb := hide (bel_next hb.out h1)
    replace o3 := hide (o3.out.below h1)
    clear h1
    go_wp2
    go_ret
    exact ⟨rfl, hb.out⟩
end l18_
end Go.Proofs.YthpiemhdieaiaaaDoor
