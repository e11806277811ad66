/-
  THE WALKS OF THE LAWS OF LAYER 18 (zoneinfolaw18): IndicatorsMatchReference. No conditions.
-/
import Derived.Test.YthpiemhdieaiaaaDoorLaw18
namespace Go.Proofs.YthpiemhdieaiaaaDoor
open Go.ChangeShapes Go.WideShapes Go.ChangeAt Go.RowKit
set_option linter.unusedVariables false
set_option maxRecDepth 100000
namespace l18_
set_option maxHeartbeats 8000000 in
theorem mref (A1 : Option Addr) (n1 c1 : Nat) (z1 : List Int) (A2 : Option Addr) (n2 c2 : Nat) (s : List Bool) (A3 : Option Addr) (n3 c3 : Nat) (u : List Bool) (w : World) (hT : Ti w) (h1 : IsRw .u8 w A1 n1 c1 z1) (h2 : IsBw w A2 n2 c2 s) (h3 : IsBw w A3 n3 c3 u) :
    Calls Tryd.prog 3 #[.slice A1 n1 c1, .slice A2 n2 c2, .slice A3 n3 c3] w fun e w' => e = .returned (.bool true) ∧ Below w.heap.size w w' := by
  have nil1 := hide h1.nil
  have B1 : ∀ x ∈ z1.take n1, 0 ≤ x ∧ x < 256 := fun t ht => wf_u8 (h1.wf t ht)
  obtain ⟨ca1, om1⟩ := h1.cap
  have r1 := h1.rd
  clear h1
  obtain ⟨xs, hxs⟩ : ∃ xs, xs = z1.take n1 := ⟨_, rfl⟩
  rw [← hxs] at r1 B1
  replace r1 := hide r1
  clear hxs
  obtain ⟨nil2, ca2, om2, r2⟩ := h2
  replace nil2 := hide nil2
  replace r2 := hide r2
  obtain ⟨nil3, ca3, om3, r3⟩ := h3
  replace nil3 := hide nil3
  replace r3 := hide r3
  have HT := hide hT
  have hb := hide (Below.refl w.heap.size w)
  by_cases hn1 : 1000 < n1
  · have hn' : (1000 : Int) < n1 := by omega
    clear r1 r2 r3 B1
    go_enter Tryd.func3, Tryd.ntmps3
    go_wp2_with fail
    refine (awake _ (HT.out.below hb.out)).mono ?_
    rintro e w1 ⟨rfl, h1⟩
    replace hb := hide (bel_next hb.out h1)
    clear h1
    go_wp2_with fail
    refine (awake _ (HT.out.below hb.out)).mono ?_
    rintro e w9 ⟨rfl, h1⟩
    replace hb := hide (bel_next hb.out h1)
    clear h1
    go_wp2
    go_ret
    exact ⟨rfl, hb.out⟩
  have k1 : (n1 : Int) ≤ 1000 := by omega
  by_cases hn2 : 1000 < n2
  · have hn' : (1000 : Int) < n2 := by omega
    clear r1 r2 r3 B1
    go_enter Tryd.func3, Tryd.ntmps3
    go_wp2_with fail
    refine (awake _ (HT.out.below hb.out)).mono ?_
    rintro e w1 ⟨rfl, h1⟩
    replace hb := hide (bel_next hb.out h1)
    clear h1
    go_wp2_with fail
    refine (awake _ (HT.out.below hb.out)).mono ?_
    rintro e w9 ⟨rfl, h1⟩
    replace hb := hide (bel_next hb.out h1)
    clear h1
    go_wp2
    go_ret
    exact ⟨rfl, hb.out⟩
  have k2 : (n2 : Int) ≤ 1000 := by omega
  by_cases hn3 : 1000 < n3
  · have hn' : (1000 : Int) < n3 := by omega
    clear r1 r2 r3 B1
    go_enter Tryd.func3, Tryd.ntmps3
    go_wp2_with fail
    refine (awake _ (HT.out.below hb.out)).mono ?_
    rintro e w1 ⟨rfl, h1⟩
    replace hb := hide (bel_next hb.out h1)
    clear h1
    go_wp2_with fail
    refine (awake _ (HT.out.below hb.out)).mono ?_
    rintro e w9 ⟨rfl, h1⟩
    replace hb := hide (bel_next hb.out h1)
    clear h1
    go_wp2
    go_ret
    exact ⟨rfl, hb.out⟩
  have k3 : (n3 : Int) ≤ 1000 := by omega
  have D := hide (fun A c w hT hA hc hcm hr => in_.Decode A n1 c xs w hT (by omega) hA hc hcm hr B1)
  have D' := hide (fun A c w hr => r18_.Decode A n1 c xs w (by omega) hr B1)
  have E := hide (fun A c w hT hA hc hcm hr => in_.Encode A n2 c s w hT (by omega) hA hc hcm hr)
  have E' := hide (fun A c w hr => r18_.Encode A n2 c s w (by omega) hr)
  have X := hide (fun A A' c c' w hT hA hA' hc hc' hcm hcm' hr hr' => in_.Consistent A A' n2 n3 c c' s u w hT (by omega) (by omega) hA hA' hc hc' hcm hcm' hr hr')
  have X' := hide (fun A A' c c' w hr hr' => r18_.Consistent A A' n2 n3 c c' s u w (by omega) (by omega) hr hr')
  generalize cn s u = z at X X'
  generalize eI s = ee at E E'
  generalize dI xs = dd at D D'
  generalize fI xs = ff at D D'
  have S6 := hide (fun A A' c c' w hr hr' => r18_.Same A A' n1 n1 c c' dd dd w (by omega) (by omega) hr hr')
  simp only [decide_true] at S6
  have S0 := hide (fun w => r18_.Same none none 0 0 0 0 [] [] w (by omega) (by omega) (Rd.none_ w) (Rd.none_ w))
  simp only [decide_true] at S0
  have S8 := hide (fun A A' c c' w hr hr' => r1_.Same A A' n2 c n2 c' ee w (by omega) hr hr')
  clear B1
  go_enter Tryd.func3, Tryd.ntmps3
  go_wp2_with fail
  refine (awake _ (HT.out.below hb.out)).mono ?_
  rintro e w1 ⟨rfl, h1⟩
  replace hb := hide (bel_next hb.out h1)
  replace r1 := hide (r1.out.below h1)
  replace r2 := hide (r2.out.below h1)
  replace r3 := hide (r3.out.below h1)
  clear h1
  go_wp2_with fail
  refine (D.out _ _ _ (HT.out.below hb.out) nil1.out ca1 om1 r1.out).mono ?_
  rintro e w3 ⟨⟨hf, A3, c3, rfl, o3⟩ | ⟨hf, rfl⟩, h1⟩
  · replace hb := hide (bel_next hb.out h1)
    replace r1 := hide (r1.out.below h1)
    replace r2 := hide (r2.out.below h1)
    replace r3 := hide (r3.out.below h1)
    clear h1
    replace hf := hide hf
    replace o3 := hide o3
    go_wp2_with fail
    refine (D'.out _ _ _ r1.out).mono ?_
    rintro e w4 ⟨⟨-, A4, c4, rfl, o4⟩ | ⟨h, -⟩, h1⟩
    rotate_left
    · rw [hf.out] at h; cases h
    replace hb := hide (bel_next hb.out h1)
    replace r1 := hide (r1.out.below h1)
    replace r2 := hide (r2.out.below h1)
    replace r3 := hide (r3.out.below h1)
    replace o3 := hide (o3.out.below h1)
    clear h1
    replace o4 := hide o4
    go_wp2_with fail
    refine (S6.out _ _ _ _ _ o3.out.rd o4.out.rd).mono ?_
    rintro e w5 ⟨rfl, h1⟩
    replace hb := hide (bel_next hb.out h1)
    replace r1 := hide (r1.out.below h1)
    replace r2 := hide (r2.out.below h1)
    replace r3 := hide (r3.out.below h1)
    replace o3 := hide (o3.out.below h1)
    replace o4 := hide (o4.out.below h1)
    clear h1
    clear o3 o4
    go_wp2_with fail
    refine (E.out _ _ _ (HT.out.below hb.out) nil2.out ca2 om2 r2.out).mono ?_
    rintro e w6 ⟨A6, c6, rfl, o6, h1⟩
    replace hb := hide (bel_next hb.out h1)
    replace r1 := hide (r1.out.below h1)
    replace r2 := hide (r2.out.below h1)
    replace r3 := hide (r3.out.below h1)
    clear h1
    replace o6 := hide o6
    go_wp2_with fail
    refine (E'.out _ _ _ r2.out).mono ?_
    rintro e w7 ⟨A7, c7, rfl, o7, h1⟩
    replace hb := hide (bel_next hb.out h1)
    replace r1 := hide (r1.out.below h1)
    replace r2 := hide (r2.out.below h1)
    replace r3 := hide (r3.out.below h1)
    replace o6 := hide (o6.out.below h1)
    clear h1
    replace o7 := hide o7
    go_wp2_with fail
    refine (S8.out _ _ _ _ _ o6.out.rd o7.out.rd).mono ?_
    rintro e w8 ⟨rfl, h1⟩
    replace hb := hide (bel_next hb.out h1)
    replace r1 := hide (r1.out.below h1)
    replace r2 := hide (r2.out.below h1)
    replace r3 := hide (r3.out.below h1)
    replace o6 := hide (o6.out.below h1)
    replace o7 := hide (o7.out.below h1)
    clear h1
    clear o6 o7
    go_wp2_with fail
    refine (X.out _ _ _ _ _ (HT.out.below hb.out) nil2.out nil3.out ca2 ca3 om2 om3 r2.out r3.out).mono ?_
    rintro e w10 ⟨rfl, h1⟩
    replace hb := hide (bel_next hb.out h1)
    replace r1 := hide (r1.out.below h1)
    replace r2 := hide (r2.out.below h1)
    replace r3 := hide (r3.out.below h1)
    clear h1
    go_wp2_with fail
    refine (X'.out _ _ _ _ _ r2.out r3.out).mono ?_
    rintro e w11 ⟨rfl, rfl⟩
    cases z
    all_goals
      go_wp2
      go_ret
      exact ⟨rfl, hb.out⟩
  · replace hb := hide (bel_next hb.out h1)
    replace r1 := hide (r1.out.below h1)
    replace r2 := hide (r2.out.below h1)
    replace r3 := hide (r3.out.below h1)
    clear h1
    replace hf := hide hf
    go_wp2_with fail
    refine (D'.out _ _ _ r1.out).mono ?_
    rintro e w4 ⟨⟨h, -⟩ | ⟨-, rfl⟩, h1⟩
    · rw [hf.out] at h; cases h
    replace hb := hide (bel_next hb.out h1)
    replace r1 := hide (r1.out.below h1)
    replace r2 := hide (r2.out.below h1)
    replace r3 := hide (r3.out.below h1)
    clear h1
    go_wp2_with fail
    refine (S0.out _).mono ?_
    rintro e w5 ⟨rfl, h1⟩
    replace hb := hide (bel_next hb.out h1)
    replace r1 := hide (r1.out.below h1)
    replace r2 := hide (r2.out.below h1)
    replace r3 := hide (r3.out.below h1)
    clear h1
    go_wp2_with fail
    refine (E.out _ _ _ (HT.out.below hb.out) nil2.out ca2 om2 r2.out).mono ?_
    rintro e w6 ⟨A6, c6, rfl, o6, h1⟩
    replace hb := hide (bel_next hb.out h1)
    replace r1 := hide (r1.out.below h1)
    replace r2 := hide (r2.out.below h1)
    replace r3 := hide (r3.out.below h1)
    clear h1
    replace o6 := hide o6
    go_wp2_with fail
    refine (E'.out _ _ _ r2.out).mono ?_
    rintro e w7 ⟨A7, c7, rfl, o7, h1⟩
    replace hb := hide (bel_next hb.out h1)
    replace r1 := hide (r1.out.below h1)
    replace r2 := hide (r2.out.below h1)
    replace r3 := hide (r3.out.below h1)
    replace o6 := hide (o6.out.below h1)
    clear h1
    replace o7 := hide o7
    go_wp2_with fail
    refine (S8.out _ _ _ _ _ o6.out.rd o7.out.rd).mono ?_
    rintro e w8 ⟨rfl, h1⟩
    replace hb := hide (bel_next hb.out h1)
    replace r1 := hide (r1.out.below h1)
    replace r2 := hide (r2.out.below h1)
    replace r3 := hide (r3.out.below h1)
    replace o6 := hide (o6.out.below h1)
    replace o7 := hide (o7.out.below h1)
    clear h1
    clear o6 o7
    go_wp2_with fail
    refine (X.out _ _ _ _ _ (HT.out.below hb.out) nil2.out nil3.out ca2 ca3 om2 om3 r2.out r3.out).mono ?_
    rintro e w10 ⟨rfl, h1⟩
    replace hb := hide (bel_next hb.out h1)
    replace r1 := hide (r1.out.below h1)
    replace r2 := hide (r2.out.below h1)
    replace r3 := hide (r3.out.below h1)
    clear h1
    go_wp2_with fail
    refine (X'.out _ _ _ _ _ r2.out r3.out).mono ?_
    rintro e w11 ⟨rfl, rfl⟩
    cases z
    all_goals
      go_wp2
      go_ret
      exact ⟨rfl, hb.out⟩
end l18_
end Go.Proofs.YthpiemhdieaiaaaDoor
