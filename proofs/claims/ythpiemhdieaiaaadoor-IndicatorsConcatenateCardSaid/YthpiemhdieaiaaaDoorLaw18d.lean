/-
  THE WALKS OF THE LAWS OF LAYER 18 (zoneinfolaw18): IndicatorsConcatenate. No conditions.
-/
import Derived.Test.YthpiemhdieaiaaaDoorLaw18
namespace Go.Proofs.YthpiemhdieaiaaaDoor
open Go.ChangeShapes Go.WideShapes Go.ChangeAt Go.RowKit
set_option linter.unusedVariables false
set_option maxRecDepth 100000
namespace l18_
set_option maxHeartbeats 8000000 in
theorem concat (A1 : Option Addr) (n1 c1 : Nat) (s : List Bool) (A2 : Option Addr) (n2 c2 : Nat) (u : List Bool) (w : World) (hT : Ti w) (h1 : IsBw w A1 n1 c1 s) (h2 : IsBw w A2 n2 c2 u) :
    Calls Tryd.prog 6 #[.slice A1 n1 c1, .slice A2 n2 c2] w fun e w' => e = .returned (.bool true) ∧ Below w.heap.size w w' := by
  obtain ⟨nil1, ca1, om1, r1⟩ := h1
  replace nil1 := hide nil1
  replace r1 := hide r1
  obtain ⟨nil2, ca2, om2, r2⟩ := h2
  replace nil2 := hide nil2
  replace r2 := hide r2
  have HT := hide hT
  have hb := hide (Below.refl w.heap.size w)
  by_cases hn1 : 500 < n1
  · have hn' : (500 : Int) < n1 := by omega
    clear r1 r2
    go_enter Tryd.func6, Tryd.ntmps6
    go_wp2_with fail
    refine (awake _ (HT.out.below hb.out)).mono ?_
    rintro e w1 ⟨rfl, h1⟩
    replace hb := hide (bel_next hb.out h1)
    clear h1
    go_wp2_with fail
    refine (awake _ (HT.out.below hb.out)).mono ?_
    rintro e w9 ⟨rfl, h1⟩
    replace hb := hide (bel_next hb.out h1)
    clear h1
    go_wp2
    go_ret
    exact ⟨rfl, hb.out⟩
  have k1 : (n1 : Int) ≤ 500 := by omega
  by_cases hn2 : 500 < n2
  · have hn' : (500 : Int) < n2 := by omega
    clear r1 r2
    go_enter Tryd.func6, Tryd.ntmps6
    go_wp2_with fail
    refine (awake _ (HT.out.below hb.out)).mono ?_
    rintro e w1 ⟨rfl, h1⟩
    replace hb := hide (bel_next hb.out h1)
    clear h1
    go_wp2_with fail
    refine (awake _ (HT.out.below hb.out)).mono ?_
    rintro e w9 ⟨rfl, h1⟩
    replace hb := hide (bel_next hb.out h1)
    clear h1
    go_wp2
    go_ret
    exact ⟨rfl, hb.out⟩
  have k2 : (n2 : Int) ≤ 500 := by omega
  have E1 := hide (fun A c w hT hA hc hcm hr => in_.Encode A n1 c s w hT (by omega) hA hc hcm hr)
  have E2 := hide (fun A c w hT hA hc hcm hr => in_.Encode A n2 c u w hT (by omega) hA hc hcm hr)
  have E3 := hide (fun A c w hT hA hc hcm hr => in_.Encode A (n1 + n2) c (s ++ u) w hT (by omega) hA hc hcm hr)
  rw [eI_app] at E3
  have S8 := hide (fun A A' c c' w hr hr' => r1_.Same A A' (n1 + n2) c (n1 + n2) c' (eI s ++ eI u) w (by omega) hr hr')
  have S9 := hide (fun A A' c c' w hr hr' => r1_.SameG A A' n1 n2 c c' (eI s) (eI u) w (by omega) (by omega) hr hr')
  rw [show decide (eI s = eI u) = decide (s = u) by rw [decide_eq_decide]; exact eI_inj] at S9
  have SB := hide (fun A A' w c c' hr hr' => r18_.Same A A' n1 n2 c c' s u w (by omega) (by omega) hr hr')
  generalize decide (s = u) = z at S9 SB
  have m1 := hide (show ∀ v ∈ bls s, v.oneCell' = true by intro v hv; obtain ⟨b, _, rfl⟩ := List.mem_map.1 hv; rfl)
  have m2 := hide (show ∀ v ∈ bls u, v.oneCell' = true by intro v hv; obtain ⟨b, _, rfl⟩ := List.mem_map.1 hv; rfl)
  have m3 := hide (show ∀ v ∈ (eI s).map (Value.int .u8), v.oneCell' = true by intro v hv; obtain ⟨b, _, rfl⟩ := List.mem_map.1 hv; rfl)
  have m4 := hide (show ∀ v ∈ (eI u).map (Value.int .u8), v.oneCell' = true by intro v hv; obtain ⟨b, _, rfl⟩ := List.mem_map.1 hv; rfl)
  generalize eI s = es at *
  generalize eI u = eu at *
  have q1 := hide (show 0 + n1 ≤ maxLen by simp [maxLen]; omega)
  have q2 := hide (show (0 + n1) * 1 ≤ 140737488355328 by omega)
  have q3 := hide (show n1 + n2 ≤ maxLen by simp [maxLen]; omega)
  have q4 := hide (show (n1 + n2) * 1 ≤ 140737488355328 by omega)
  go_enter Tryd.func6, Tryd.ntmps6
  go_wp2_with fail
  refine (awake _ (HT.out.below hb.out)).mono ?_
  rintro e w1 ⟨rfl, h1⟩
  replace hb := hide (bel_next hb.out h1)
  replace r1 := hide (r1.out.below h1)
  replace r2 := hide (r2.out.below h1)
  clear h1
  have k0 := hide (show Ow (w1.alloc (.cells #[] 4)) w1.heap.size 4 (some ⟨w1.heap.size, 0, none⟩) 0 0 [] from Ow.lit w1 4 [] (by decide))
  have b0 := hide (bl_new w1 (.cells #[] 4))
  have s1 := hide (r1.out.alloc (.cells #[] 4))
  go_upto_region 4 with (first
    | (at_builtin; refine apA elBo_ k0.out b0.out (Nat.le_refl _) s1.out (.tmp 20) (.tmp 21) rfl rfl rfl rfl nil1.out m1.out q1.out q2.out ?_; intro A2' c2' w2 o2 hb2 _; rw [Nat.zero_add] at o2 ⊢; rw [List.nil_append] at o2; have s2 := hide (r2.out.below hb2); replace o2 := hide o2; replace hb2 := hide hb2)
    | (at_builtin; refine apA elBo_ o2.out hb2.out (Nat.le_refl _) s2.out (.tmp 22) (.tmp 23) rfl rfl rfl rfl nil2.out m2.out q3.out q4.out ?_; intro A3 c3 w3 o3 h1 _; clear o2 hb2 s2))
  clear k0 b0 s1
  replace hb := hide (bel_next hb.out h1)
  replace r1 := hide (r1.out.below h1)
  replace r2 := hide (r2.out.below h1)
  clear h1
  rw [← List.map_append] at o3
  have kc3 := o3.cap
  have om3 : c3 ≤ 9223372036854775807 := by have := o3.capMax; simp [maxLen] at this; omega
  have nil3 := hide o3.nilcap
  replace o3 := hide o3
  have hb3 := hide hb.out
  have r13 := hide r1.out
  have r23 := hide r2.out
  have o33 := hide o3.out
  have kE := hide (show Ow (w3.alloc (.cells #[] 5)) w3.heap.size 5 (some ⟨w3.heap.size, 0, none⟩) 0 0 [] from Ow.lit w3 5 [] (by decide))
  have bE := hide (bl_new w3 (.cells #[] 5))
  replace hb := hide (bl_alloc hb.out (.cells #[] 5))
  replace r1 := hide (r1.out.alloc (.cells #[] 5))
  replace r2 := hide (r2.out.alloc (.cells #[] 5))
  replace o3 := hide (o3.out.alloc (.cells #[] 5))
  go_wp2_with fail
  refine (E1.out _ _ _ (HT.out.below hb.out) nil1.out ca1 om1 r1.out).mono ?_
  rintro e w4 ⟨A4, c4, rfl, o4, h1⟩
  replace kE := hide (kE.out.below h1)
  replace bE := hide (bel_next bE.out h1)
  replace hb := hide (bel_next hb.out h1)
  replace r1 := hide (r1.out.below h1)
  replace r2 := hide (r2.out.below h1)
  replace o3 := hide (o3.out.below h1)
  clear h1
  have nil4 := hide o4.nilcap
  have s4 := hide o4.rd
  clear o4
  go_wp2_with (at_builtin; refine apA elBy_ kE.out bE.out (Nat.le_refl _) s4.out (.tmp 25) (.tmp 27) rfl rfl rfl rfl nil4.out m3.out q1.out q2.out ?_; intro A5 c5 w5 o5 b5 _; rw [Nat.zero_add] at o5 ⊢; rw [List.nil_append] at o5; replace o5 := hide o5; replace b5 := hide b5)
  clear kE bE s4 nil4
  have hb5 := hide (bel_next hb3.out b5.out)
  have r15 := hide (r13.out.below b5.out)
  have r25 := hide (r23.out.below b5.out)
  have o35 := hide (o33.out.below b5.out)
  clear hb r1 r2 o3
  go_wp2_with fail
  refine (E2.out _ _ _ (HT.out.below hb5.out) nil2.out ca2 om2 r25.out).mono ?_
  rintro e w6 ⟨A6, c6, rfl, o6, h1⟩
  clear hb5 r15 r25 o35
  replace o5 := hide (o5.out.below h1)
  replace b5 := hide (bel_next b5.out h1)
  clear h1
  have nil6 := hide o6.nilcap
  have s6 := hide o6.rd
  clear o6
  go_wp2_with (at_builtin; refine apA elBy_ o5.out b5.out (Nat.le_refl _) s6.out (.tmp 28) (.tmp 30) rfl rfl rfl rfl nil6.out m4.out q3.out q4.out ?_; intro A7 c7 w7 o7 h1 _; rw [← List.map_append] at o7; replace o7 := hide o7)
  clear o5 b5 s6 nil6
  have hb := hide (bel_next hb3.out h1)
  have r1 := hide (r13.out.below h1)
  have r2 := hide (r23.out.below h1)
  have o3 := hide (o33.out.below h1)
  clear h1 hb3 r13 r23 o33
  go_wp2_with fail
  refine (E3.out _ _ _ (HT.out.below hb.out) nil3.out kc3 om3 o3.out.rd).mono ?_
  rintro e w8 ⟨A8, c8, rfl, o8, h1⟩
  replace hb := hide (bel_next hb.out h1)
  replace r1 := hide (r1.out.below h1)
  replace r2 := hide (r2.out.below h1)
  replace o3 := hide (o3.out.below h1)
  replace o7 := hide (o7.out.below h1)
  clear h1
  replace o8 := hide o8
  go_wp2_with fail
  refine (S8.out _ _ _ _ _ o8.out.rd o7.out.rd).mono ?_
  rintro e w9 ⟨rfl, h1⟩
  replace hb := hide (bel_next hb.out h1)
  replace r1 := hide (r1.out.below h1)
  replace r2 := hide (r2.out.below h1)
  replace o3 := hide (o3.out.below h1)
  replace o7 := hide (o7.out.below h1)
  replace o8 := hide (o8.out.below h1)
  clear h1
  clear o8 o7 o3
  go_wp2_with fail
  refine (E1.out _ _ _ (HT.out.below hb.out) nil1.out ca1 om1 r1.out).mono ?_
  rintro e w10 ⟨A10, c10, rfl, o10, h1⟩
  replace hb := hide (bel_next hb.out h1)
  replace r1 := hide (r1.out.below h1)
  replace r2 := hide (r2.out.below h1)
  clear h1
  replace o10 := hide o10
  go_wp2_with fail
  refine (E2.out _ _ _ (HT.out.below hb.out) nil2.out ca2 om2 r2.out).mono ?_
  rintro e w11 ⟨A11, c11, rfl, o11, h1⟩
  replace hb := hide (bel_next hb.out h1)
  replace r1 := hide (r1.out.below h1)
  replace r2 := hide (r2.out.below h1)
  replace o10 := hide (o10.out.below h1)
  clear h1
  replace o11 := hide o11
  go_wp2_with fail
  refine (S9.out _ _ _ _ _ o10.out.rd o11.out.rd).mono ?_
  rintro e w12 ⟨rfl, h1⟩
  replace hb := hide (bel_next hb.out h1)
  replace r1 := hide (r1.out.below h1)
  replace r2 := hide (r2.out.below h1)
  replace o10 := hide (o10.out.below h1)
  replace o11 := hide (o11.out.below h1)
  clear h1
  clear o10 o11
  go_wp2_with fail
  refine (SB.out _ _ _ _ _ r1.out r2.out).mono ?_
  rintro e w13 ⟨rfl, h1⟩
  replace hb := hide (bel_next hb.out h1)
  replace r1 := hide (r1.out.below h1)
  replace r2 := hide (r2.out.below h1)
  clear h1
  cases z
  all_goals
    go_wp2
    go_ret
    exact ⟨rfl, hb.out⟩
end l18_
end Go.Proofs.YthpiemhdieaiaaaDoor
