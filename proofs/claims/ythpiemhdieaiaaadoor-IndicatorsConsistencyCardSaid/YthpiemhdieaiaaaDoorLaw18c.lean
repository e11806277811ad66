/-
  THE WALKS OF THE LAWS OF LAYER 18 (zoneinfolaw18): IndicatorsConsistency. No conditions.
-/
import Derived.Test.YthpiemhdieaiaaaDoorLaw18
namespace Go.Proofs.YthpiemhdieaiaaaDoor
open Go.ChangeShapes Go.WideShapes Go.ChangeAt Go.RowKit
set_option linter.unusedVariables false
set_option maxRecDepth 100000
namespace l18_
set_option maxHeartbeats 8000000 in
theorem consistency (A1 : Option Addr) (n1 c1 : Nat) (s : List Bool) (A2 : Option Addr) (n2 c2 : Nat) (u : List Bool) (at_ : Int) (w : World) (hT : Ti w) (h1 : IsBw w A1 n1 c1 s) (h2 : IsBw w A2 n2 c2 u) (hat : (Lit.int .u16 at_).wf = true) :
    Calls Tryd.prog 5 #[.slice A1 n1 c1, .slice A2 n2 c2, .int .u16 at_] w fun e w' => e = .returned (.bool true) ∧ Below w.heap.size w w' := by
  have a0 : 0 ≤ at_ ∧ at_ < 65536 := by simp [Lit.wf, IntKind.min, IntKind.max, IntKind.signed, IntKind.bits] at hat; omega
  obtain ⟨a0, a1⟩ := a0
  clear hat
  obtain ⟨nil1, ca1, om1, r1⟩ := h1
  replace nil1 := hide nil1
  replace r1 := hide r1
  obtain ⟨nil2, ca2, om2, r2⟩ := h2
  replace nil2 := hide nil2
  replace r2 := hide r2
  have HT := hide hT
  have hb := hide (Below.refl w.heap.size w)
  by_cases hn1 : 1000 < n1
  · have hn' : (1000 : Int) < n1 := by omega
    clear r1 r2
    go_enter Tryd.func5, Tryd.ntmps5
    go_wp2_with fail
    refine (awake _ (HT.out.below hb.out)).mono ?_
    rintro e w1 ⟨rfl, h1⟩
    replace hb := hide (bel_next hb.out h1)
    clear h1
    go_wp2_with fail
    refine (awake _ (HT.out.below hb.out)).mono ?_
    rintro e w9 ⟨rfl, h1⟩
    replace hb := hide (bel_next hb.out h1)
    clear h1
    go_wp2
    go_ret
    exact ⟨rfl, hb.out⟩
  have k1 : (n1 : Int) ≤ 1000 := by omega
  by_cases hn2 : 1000 < n2
  · have hn' : (1000 : Int) < n2 := by omega
    clear r1 r2
    go_enter Tryd.func5, Tryd.ntmps5
    go_wp2_with fail
    refine (awake _ (HT.out.below hb.out)).mono ?_
    rintro e w1 ⟨rfl, h1⟩
    replace hb := hide (bel_next hb.out h1)
    clear h1
    go_wp2_with fail
    refine (awake _ (HT.out.below hb.out)).mono ?_
    rintro e w9 ⟨rfl, h1⟩
    replace hb := hide (bel_next hb.out h1)
    clear h1
    go_wp2
    go_ret
    exact ⟨rfl, hb.out⟩
  have k2 : (n2 : Int) ≤ 1000 := by omega
  have C1 := hide (fun A A' c c' w hT hA hA' hc hc' hcm hcm' hr hr' => in_.Consistent A A' n2 n2 c c' u u w hT (by omega) (by omega) hA hA' hc hc' hcm hcm' hr hr')
  rw [cn_self] at C1
  have C2 := hide (fun A A' c c' w hT hA hA' hc hc' hcm hcm' hr hr' => in_.Consistent A A' n1 n2 c c' s (List.replicate n2 false) w hT (by omega) (by omega) hA hA' hc hc' hcm hcm' hr hr')
  rw [cn_none] at C2
  have C3 := hide (fun A c w hT hA hc hcm hr => in_.Consistent A none n1 0 c 0 s [] w hT (by omega) (by decide) hA (fun _ => ⟨rfl, rfl⟩) hc (by decide) hcm (by decide) hr (Rd.none_ w))
  rw [cn_nil] at C3
  have C4 := hide (fun A A' c c' w hT hA hA' hc hc' hcm hcm' hr hr' => in_.Consistent A A' n1 n2 c c' s u w hT (by omega) (by omega) hA hA' hc hc' hcm hcm' hr hr')
  have m1 := hide (show ∀ v ∈ bls s, v.oneCell' = true by intro v hv; obtain ⟨b, _, rfl⟩ := List.mem_map.1 hv; rfl)
  have m2 := hide (show ∀ v ∈ bls u, v.oneCell' = true by intro v hv; obtain ⟨b, _, rfl⟩ := List.mem_map.1 hv; rfl)
  have q1 := hide (show 0 + n1 ≤ maxLen by simp [maxLen]; omega)
  have q2 := hide (show (0 + n1) * 1 ≤ 140737488355328 by omega)
  have q3 := hide (show 0 + n2 ≤ maxLen by simp [maxLen]; omega)
  have q4 := hide (show (0 + n2) * 1 ≤ 140737488355328 by omega)
  have q5 := hide (show n1 + 1 ≤ maxLen by simp [maxLen]; omega)
  have q6 := hide (show (n1 + 1) * 1 ≤ 140737488355328 by omega)
  rcases hz : cn s u with _ | _
  · rw [hz] at C4
    clear hz
    go_enter Tryd.func5, Tryd.ntmps5
    go_wp2_with fail
    refine (awake _ (HT.out.below hb.out)).mono ?_
    rintro e w1 ⟨rfl, h1⟩
    replace hb := hide (bel_next hb.out h1)
    replace r1 := hide (r1.out.below h1)
    replace r2 := hide (r2.out.below h1)
    clear h1
    go_upto_region 4 with (refine mk elBo_ (b := w1.heap.size) (B := w1.heap.size) (w0 := w1) (bl_refl _) (Nat.le_refl _) (Nat.le_refl _) rfl (.tmp 24) (.tmp 24) rfl .i64 .i64 n2 n2 n2 n2 rfl rfl rfl rfl (Nat.le_refl _) (by omega) (by unfold maxLen; omega) ?_; intro w2 o2 h1)
    replace hb := hide (bel_next hb.out h1)
    replace r1 := hide (r1.out.below h1)
    replace r2 := hide (r2.out.below h1)
    clear h1
    rw [← List.map_replicate (f := Value.bool)] at o2
    replace o2 := hide o2
    go_wp2_with fail
    refine (C1.out _ _ _ _ _ (HT.out.below hb.out) nil2.out nil2.out ca2 ca2 om2 om2 r2.out r2.out).mono ?_
    rintro e w3 ⟨rfl, h1⟩
    replace hb := hide (bel_next hb.out h1)
    replace r1 := hide (r1.out.below h1)
    replace r2 := hide (r2.out.below h1)
    replace o2 := hide (o2.out.below h1)
    clear h1
    go_wp2_with fail
    refine (C2.out _ _ _ _ _ (HT.out.below hb.out) nil1.out (fun h => by cases h) ca1 (Nat.le_refl _) om1 (by omega) r1.out o2.out.rd).mono ?_
    rintro e w4 ⟨rfl, h1⟩
    replace hb := hide (bel_next hb.out h1)
    replace r1 := hide (r1.out.below h1)
    replace r2 := hide (r2.out.below h1)
    replace o2 := hide (o2.out.below h1)
    clear h1
    clear o2
    go_wp2_with fail
    refine (C3.out _ _ _ (HT.out.below hb.out) nil1.out ca1 om1 r1.out).mono ?_
    rintro e w5 ⟨rfl, h1⟩
    replace hb := hide (bel_next hb.out h1)
    replace r1 := hide (r1.out.below h1)
    replace r2 := hide (r2.out.below h1)
    clear h1
    go_wp2_with fail
    refine (C4.out _ _ _ _ _ (HT.out.below hb.out) nil1.out nil2.out ca1 ca2 om1 om2 r1.out r2.out).mono ?_
    rintro e w6 ⟨rfl, h1⟩
    replace hb := hide (bel_next hb.out h1)
    replace r1 := hide (r1.out.below h1)
    replace r2 := hide (r2.out.below h1)
    clear h1
    go_wp2
    go_ret
    exact ⟨rfl, hb.out⟩
  · rw [hz] at C4
    by_cases p1 : 0 < n1
    · by_cases p2 : 0 < n2
      · skip
        have d1 : decide ((0 : Int) < (n1 : Int)) = true := by simp; omega
        have dN1 : decide (0 < n1) = true := by simp; omega
        obtain ⟨k1, hk1', hk1⟩ : ∃ k : Nat, at_.tmod (n1 : Int) = (k : Int) ∧ k < n1 := ⟨(at_.tmod n1).toNat, by have := Int.tmod_nonneg (n1 : Int) a0; omega, by have := Int.tmod_nonneg (n1 : Int) a0; have := Int.tmod_lt_of_pos at_ (show (0 : Int) < n1 by omega); omega⟩
        have hk1c : (k1 : Int) < (n1 : Int) := by omega
        obtain ⟨sm, hsm⟩ : ∃ sm, s.set k1 true = sm := ⟨_, rfl⟩
        have hcm := cn_more hz k1
        rw [hsm] at hcm
        have d2 : decide ((0 : Int) < (n2 : Int)) = true := by simp; omega
        have dN2 : decide (0 < n2) = true := by simp; omega
        obtain ⟨k2, hk2', hk2⟩ : ∃ k : Nat, at_.tmod (n2 : Int) = (k : Int) ∧ k < n2 := ⟨(at_.tmod n2).toNat, by have := Int.tmod_nonneg (n2 : Int) a0; omega, by have := Int.tmod_nonneg (n2 : Int) a0; have := Int.tmod_lt_of_pos at_ (show (0 : Int) < n2 by omega); omega⟩
        have hk2c : (k2 : Int) < (n2 : Int) := by omega
        obtain ⟨ul, hul⟩ : ∃ ul, u.set k2 false = ul := ⟨_, rfl⟩
        have hcl := cn_less hz k2
        rw [hul] at hcl
        have M1 := hide (fun A A' c c' w hT hA hA' hc hc' hcm hcm' hr hr' => in_.Consistent A A' n1 n2 c c' sm u w hT (by omega) (by omega) hA hA' hc hc' hcm hcm' hr hr')
        rw [hcm] at M1
        have M2 := hide (fun A A' c c' w hT hA hA' hc hc' hcm hcm' hr hr' => in_.Consistent A A' n1 n2 c c' s ul w hT (by omega) (by omega) hA hA' hc hc' hcm hcm' hr hr')
        rw [hcl] at M2
        have M3 := hide (fun A A' c c' w hT hA hA' hc hc' hcm hcm' hr hr' => in_.Consistent A A' (n1 + 1) n2 c c' (sm ++ [false]) u w hT (by omega) (by omega) hA hA' hc hc' hcm hcm' hr hr')
        rw [cn_longer hcm false] at M3
        clear hz
        replace hsm := hide hsm
        replace hul := hide hul
        go_enter Tryd.func5, Tryd.ntmps5
        go_wp2_with fail
        refine (awake _ (HT.out.below hb.out)).mono ?_
        rintro e w1 ⟨rfl, h1⟩
        replace hb := hide (bel_next hb.out h1)
        replace r1 := hide (r1.out.below h1)
        replace r2 := hide (r2.out.below h1)
        clear h1
        go_upto_region 4 with (refine mk elBo_ (b := w1.heap.size) (B := w1.heap.size) (w0 := w1) (bl_refl _) (Nat.le_refl _) (Nat.le_refl _) rfl (.tmp 24) (.tmp 24) rfl .i64 .i64 n2 n2 n2 n2 rfl rfl rfl rfl (Nat.le_refl _) (by omega) (by unfold maxLen; omega) ?_; intro w2 o2 h1)
        replace hb := hide (bel_next hb.out h1)
        replace r1 := hide (r1.out.below h1)
        replace r2 := hide (r2.out.below h1)
        clear h1
        rw [← List.map_replicate (f := Value.bool)] at o2
        replace o2 := hide o2
        go_wp2_with fail
        refine (C1.out _ _ _ _ _ (HT.out.below hb.out) nil2.out nil2.out ca2 ca2 om2 om2 r2.out r2.out).mono ?_
        rintro e w3 ⟨rfl, h1⟩
        replace hb := hide (bel_next hb.out h1)
        replace r1 := hide (r1.out.below h1)
        replace r2 := hide (r2.out.below h1)
        replace o2 := hide (o2.out.below h1)
        clear h1
        go_wp2_with fail
        refine (C2.out _ _ _ _ _ (HT.out.below hb.out) nil1.out (fun h => by cases h) ca1 (Nat.le_refl _) om1 (by omega) r1.out o2.out.rd).mono ?_
        rintro e w4 ⟨rfl, h1⟩
        replace hb := hide (bel_next hb.out h1)
        replace r1 := hide (r1.out.below h1)
        replace r2 := hide (r2.out.below h1)
        replace o2 := hide (o2.out.below h1)
        clear h1
        clear o2
        go_wp2_with fail
        refine (C3.out _ _ _ (HT.out.below hb.out) nil1.out ca1 om1 r1.out).mono ?_
        rintro e w5 ⟨rfl, h1⟩
        replace hb := hide (bel_next hb.out h1)
        replace r1 := hide (r1.out.below h1)
        replace r2 := hide (r2.out.below h1)
        clear h1
        go_wp2_with fail
        refine (C4.out _ _ _ _ _ (HT.out.below hb.out) nil1.out nil2.out ca1 ca2 om1 om2 r1.out r2.out).mono ?_
        rintro e w6 ⟨rfl, h1⟩
        replace hb := hide (bel_next hb.out h1)
        replace r1 := hide (r1.out.below h1)
        replace r2 := hide (r2.out.below h1)
        clear h1
        have hbX := hide hb.out
        have r1X := hide r1.out
        have r2X := hide r2.out
        have k0 := hide (show Ow (w6.alloc (.cells #[] 4)) w6.heap.size 4 (some ⟨w6.heap.size, 0, none⟩) 0 0 [] from Ow.lit w6 4 [] (by decide))
        have b0 := hide (bl_new w6 (.cells #[] 4))
        have s1 := hide (r1.out.alloc (.cells #[] 4))
        go_upto_region 9 with (at_builtin; refine apA elBo_ k0.out b0.out (Nat.le_refl _) s1.out (.tmp 45) (.tmp 46) rfl rfl rfl rfl nil1.out m1.out q1.out q2.out ?_; intro A8 c8 w8 o8 bX _; rw [Nat.zero_add] at o8 ⊢; rw [List.nil_append] at o8; replace o8 := hide o8; replace bX := hide bX)
        clear k0 b0 s1 hb r1 r2
        obtain ⟨g8, rfl, hg8, _⟩ := o8.out.form p1
        have hs8 := o8.out.set k1 (.bool true)
        rw [← List.map_set, hsm.out] at hs8
        obtain ⟨v8, hc8⟩ : ∃ v, w8.cell? ⟨g8, k1, none⟩ = some v := ⟨_, by rw [o8.out.cell k1 hk1, List.getElem?_eq_getElem (by rw [o8.out.len]; exact hk1)]⟩
        have hf8 := o8.out.frozen k1
        have bX8 := hide (bl_set (o := k1) bX.out hg8 (.bool true))
        replace hs8 := hide hs8
        go_upto_region 11 with fail
        clear hc8 hf8 o8 bX
        have o8 := hide hs8.out
        have bX := hide bX8.out
        clear hs8 bX8
        generalize (w8.setCell ⟨g8, k1, none⟩ (.bool true)) = w10 at *
        have r1 := hide (r1X.out.below bX.out)
        have r2 := hide (r2X.out.below bX.out)
        have k0 := hide (show Ow (w10.alloc (.cells #[] 4)) w10.heap.size 4 (some ⟨w10.heap.size, 0, none⟩) 0 0 [] from Ow.lit w10 4 [] (by decide))
        have b0 := hide (bl_new w10 (.cells #[] 4))
        have s2 := hide (r2.out.alloc (.cells #[] 4))
        go_upto_region 12 with (at_builtin; refine apA elBo_ k0.out b0.out (Nat.le_refl _) s2.out (.tmp 58) (.tmp 59) rfl rfl rfl rfl nil2.out m2.out q3.out q4.out ?_; intro A9 c9 w11 o9 b9 _; rw [Nat.zero_add] at o9 ⊢; rw [List.nil_append] at o9; replace o9 := hide o9; replace b9 := hide b9)
        clear k0 b0 s2
        obtain ⟨g9, rfl, hg9, _⟩ := o9.out.form p2
        have hs9 := o9.out.set k2 (.bool false)
        rw [← List.map_set, hul.out] at hs9
        obtain ⟨v9, hc9⟩ : ∃ v, w11.cell? ⟨g9, k2, none⟩ = some v := ⟨_, by rw [o9.out.cell k2 hk2, List.getElem?_eq_getElem (by rw [o9.out.len]; exact hk2)]⟩
        have hf9 := o9.out.frozen k2
        have b99 := hide (bl_set (o := k2) b9.out hg9 (.bool false))
        replace hs9 := hide hs9
        go_upto_region 14 with fail
        clear hc9 hf9 o9 b9
        have o9 := hide hs9.out
        have b9 := hide b99.out
        clear hs9 b99
        generalize (w11.setCell ⟨g9, k2, none⟩ (.bool false)) = w12 at *
        replace o8 := hide (o8.out.below b9.out)
        replace bX := hide (bel_next bX.out b9.out)
        clear b9 r1 r2
        have r1 := hide (r1X.out.below bX.out)
        have r2 := hide (r2X.out.below bX.out)
        have hb := hide (bel_next hbX.out bX.out)
        have kc8 := o8.out.cap
        have om8 : c8 ≤ 9223372036854775807 := by have := o8.out.capMax; simp [maxLen] at this; omega
        have nil8 := hide o8.out.nilcap
        have kc9 := o9.out.cap
        have om9 : c9 ≤ 9223372036854775807 := by have := o9.out.capMax; simp [maxLen] at this; omega
        have nil9 := hide o9.out.nilcap
        go_wp2_with fail
        refine (M1.out _ _ _ _ _ (HT.out.below hb.out) nil8.out nil2.out kc8 ca2 om8 om2 o8.out.rd r2.out).mono ?_
        rintro e w13 ⟨rfl, h1⟩
        replace bX := hide (bel_next bX.out h1)
        replace hb := hide (bel_next hb.out h1)
        replace r1 := hide (r1.out.below h1)
        replace r2 := hide (r2.out.below h1)
        replace o8 := hide (o8.out.below h1)
        replace o9 := hide (o9.out.below h1)
        clear h1
        go_wp2_with fail
        refine (M2.out _ _ _ _ _ (HT.out.below hb.out) nil1.out nil9.out ca1 kc9 om1 om9 r1.out o9.out.rd).mono ?_
        rintro e w14 ⟨rfl, h1⟩
        replace bX := hide (bel_next bX.out h1)
        replace hb := hide (bel_next hb.out h1)
        replace r1 := hide (r1.out.below h1)
        replace r2 := hide (r2.out.below h1)
        replace o8 := hide (o8.out.below h1)
        replace o9 := hide (o9.out.below h1)
        clear h1
        go_wp2_with (at_builtin; refine ap1G elBo_ o8.out bX.out (Nat.le_refl _) (.tmp 80) (.tmp 81) (.bool false) rfl rfl rfl rfl rfl q5.out q6.out ?_; intro A15 c15 w15 o15 b15)
        rw [show bls sm ++ [Value.bool false] = bls (sm ++ [false]) by simp] at o15
        clear hb r1 r2
        have hb := hide (bel_next hbX.out b15)
        have r2 := hide (r2X.out.below b15)
        have kc15 := o15.cap
        have om15 : c15 ≤ 9223372036854775807 := by have := o15.capMax; simp [maxLen] at this; omega
        have nil15 := hide o15.nilcap
        replace o15 := hide o15
        clear bX b15 o8 o9
        go_wp2_with fail
        refine (M3.out _ _ _ _ _ (HT.out.below hb.out) nil15.out nil2.out kc15 ca2 om15 om2 o15.out.rd r2.out).mono ?_
        rintro e w16 ⟨rfl, h1⟩
        replace hb := hide (bel_next hb.out h1)
        clear h1
        go_wp2
        go_ret
        exact ⟨rfl, hb.out⟩
      · skip
        have d1 : decide ((0 : Int) < (n1 : Int)) = true := by simp; omega
        have dN1 : decide (0 < n1) = true := by simp; omega
        obtain ⟨k1, hk1', hk1⟩ : ∃ k : Nat, at_.tmod (n1 : Int) = (k : Int) ∧ k < n1 := ⟨(at_.tmod n1).toNat, by have := Int.tmod_nonneg (n1 : Int) a0; omega, by have := Int.tmod_nonneg (n1 : Int) a0; have := Int.tmod_lt_of_pos at_ (show (0 : Int) < n1 by omega); omega⟩
        have hk1c : (k1 : Int) < (n1 : Int) := by omega
        obtain ⟨sm, hsm⟩ : ∃ sm, s.set k1 true = sm := ⟨_, rfl⟩
        have hcm := cn_more hz k1
        rw [hsm] at hcm
        have d2 : decide ((0 : Int) < (n2 : Int)) = false := by simp; omega
        have dN2 : decide (0 < n2) = false := by simp; omega
        obtain ⟨ul, hul⟩ : ∃ ul, u = ul := ⟨_, rfl⟩
        have hcl0 : cn s ul = true := by rw [← hul]; exact hz
        have M1 := hide (fun A A' c c' w hT hA hA' hc hc' hcm hcm' hr hr' => in_.Consistent A A' n1 n2 c c' sm u w hT (by omega) (by omega) hA hA' hc hc' hcm hcm' hr hr')
        rw [hcm] at M1
        have M2 := hide (fun A A' c c' w hT hA hA' hc hc' hcm hcm' hr hr' => in_.Consistent A A' n1 n2 c c' s ul w hT (by omega) (by omega) hA hA' hc hc' hcm hcm' hr hr')
        rw [show cn s ul = true from hcl0] at M2
        have M3 := hide (fun A A' c c' w hT hA hA' hc hc' hcm hcm' hr hr' => in_.Consistent A A' (n1 + 1) n2 c c' (sm ++ [false]) u w hT (by omega) (by omega) hA hA' hc hc' hcm hcm' hr hr')
        rw [cn_longer hcm false] at M3
        clear hz
        replace hsm := hide hsm
        replace hul := hide hul
        go_enter Tryd.func5, Tryd.ntmps5
        go_wp2_with fail
        refine (awake _ (HT.out.below hb.out)).mono ?_
        rintro e w1 ⟨rfl, h1⟩
        replace hb := hide (bel_next hb.out h1)
        replace r1 := hide (r1.out.below h1)
        replace r2 := hide (r2.out.below h1)
        clear h1
        go_upto_region 4 with (refine mk elBo_ (b := w1.heap.size) (B := w1.heap.size) (w0 := w1) (bl_refl _) (Nat.le_refl _) (Nat.le_refl _) rfl (.tmp 24) (.tmp 24) rfl .i64 .i64 n2 n2 n2 n2 rfl rfl rfl rfl (Nat.le_refl _) (by omega) (by unfold maxLen; omega) ?_; intro w2 o2 h1)
        replace hb := hide (bel_next hb.out h1)
        replace r1 := hide (r1.out.below h1)
        replace r2 := hide (r2.out.below h1)
        clear h1
        rw [← List.map_replicate (f := Value.bool)] at o2
        replace o2 := hide o2
        go_wp2_with fail
        refine (C1.out _ _ _ _ _ (HT.out.below hb.out) nil2.out nil2.out ca2 ca2 om2 om2 r2.out r2.out).mono ?_
        rintro e w3 ⟨rfl, h1⟩
        replace hb := hide (bel_next hb.out h1)
        replace r1 := hide (r1.out.below h1)
        replace r2 := hide (r2.out.below h1)
        replace o2 := hide (o2.out.below h1)
        clear h1
        go_wp2_with fail
        refine (C2.out _ _ _ _ _ (HT.out.below hb.out) nil1.out (fun h => by cases h) ca1 (Nat.le_refl _) om1 (by omega) r1.out o2.out.rd).mono ?_
        rintro e w4 ⟨rfl, h1⟩
        replace hb := hide (bel_next hb.out h1)
        replace r1 := hide (r1.out.below h1)
        replace r2 := hide (r2.out.below h1)
        replace o2 := hide (o2.out.below h1)
        clear h1
        clear o2
        go_wp2_with fail
        refine (C3.out _ _ _ (HT.out.below hb.out) nil1.out ca1 om1 r1.out).mono ?_
        rintro e w5 ⟨rfl, h1⟩
        replace hb := hide (bel_next hb.out h1)
        replace r1 := hide (r1.out.below h1)
        replace r2 := hide (r2.out.below h1)
        clear h1
        go_wp2_with fail
        refine (C4.out _ _ _ _ _ (HT.out.below hb.out) nil1.out nil2.out ca1 ca2 om1 om2 r1.out r2.out).mono ?_
        rintro e w6 ⟨rfl, h1⟩
        replace hb := hide (bel_next hb.out h1)
        replace r1 := hide (r1.out.below h1)
        replace r2 := hide (r2.out.below h1)
        clear h1
        have hbX := hide hb.out
        have r1X := hide r1.out
        have r2X := hide r2.out
        have k0 := hide (show Ow (w6.alloc (.cells #[] 4)) w6.heap.size 4 (some ⟨w6.heap.size, 0, none⟩) 0 0 [] from Ow.lit w6 4 [] (by decide))
        have b0 := hide (bl_new w6 (.cells #[] 4))
        have s1 := hide (r1.out.alloc (.cells #[] 4))
        go_upto_region 9 with (at_builtin; refine apA elBo_ k0.out b0.out (Nat.le_refl _) s1.out (.tmp 45) (.tmp 46) rfl rfl rfl rfl nil1.out m1.out q1.out q2.out ?_; intro A8 c8 w8 o8 bX _; rw [Nat.zero_add] at o8 ⊢; rw [List.nil_append] at o8; replace o8 := hide o8; replace bX := hide bX)
        clear k0 b0 s1 hb r1 r2
        obtain ⟨g8, rfl, hg8, _⟩ := o8.out.form p1
        have hs8 := o8.out.set k1 (.bool true)
        rw [← List.map_set, hsm.out] at hs8
        obtain ⟨v8, hc8⟩ : ∃ v, w8.cell? ⟨g8, k1, none⟩ = some v := ⟨_, by rw [o8.out.cell k1 hk1, List.getElem?_eq_getElem (by rw [o8.out.len]; exact hk1)]⟩
        have hf8 := o8.out.frozen k1
        have bX8 := hide (bl_set (o := k1) bX.out hg8 (.bool true))
        replace hs8 := hide hs8
        go_upto_region 11 with fail
        clear hc8 hf8 o8 bX
        have o8 := hide hs8.out
        have bX := hide bX8.out
        clear hs8 bX8
        generalize (w8.setCell ⟨g8, k1, none⟩ (.bool true)) = w10 at *
        have r1 := hide (r1X.out.below bX.out)
        have r2 := hide (r2X.out.below bX.out)
        have k0 := hide (show Ow (w10.alloc (.cells #[] 4)) w10.heap.size 4 (some ⟨w10.heap.size, 0, none⟩) 0 0 [] from Ow.lit w10 4 [] (by decide))
        have b0 := hide (bl_new w10 (.cells #[] 4))
        have s2 := hide (r2.out.alloc (.cells #[] 4))
        go_upto_region 12 with (at_builtin; refine apA elBo_ k0.out b0.out (Nat.le_refl _) s2.out (.tmp 58) (.tmp 59) rfl rfl rfl rfl nil2.out m2.out q3.out q4.out ?_; intro A9 c9 w11 o9 b9 _; rw [Nat.zero_add] at o9 ⊢; rw [List.nil_append] at o9; replace o9 := hide o9; replace b9 := hide b9)
        clear k0 b0 s2
        go_upto_region 14 with fail
        rename World => w12
        replace o9 := hide (by rw [hul.out] at o9; exact o9.out)
        replace o8 := hide (o8.out.below b9.out)
        replace bX := hide (bel_next bX.out b9.out)
        clear b9 r1 r2
        have r1 := hide (r1X.out.below bX.out)
        have r2 := hide (r2X.out.below bX.out)
        have hb := hide (bel_next hbX.out bX.out)
        have kc8 := o8.out.cap
        have om8 : c8 ≤ 9223372036854775807 := by have := o8.out.capMax; simp [maxLen] at this; omega
        have nil8 := hide o8.out.nilcap
        have kc9 := o9.out.cap
        have om9 : c9 ≤ 9223372036854775807 := by have := o9.out.capMax; simp [maxLen] at this; omega
        have nil9 := hide o9.out.nilcap
        go_wp2_with fail
        refine (M1.out _ _ _ _ _ (HT.out.below hb.out) nil8.out nil2.out kc8 ca2 om8 om2 o8.out.rd r2.out).mono ?_
        rintro e w13 ⟨rfl, h1⟩
        replace bX := hide (bel_next bX.out h1)
        replace hb := hide (bel_next hb.out h1)
        replace r1 := hide (r1.out.below h1)
        replace r2 := hide (r2.out.below h1)
        replace o8 := hide (o8.out.below h1)
        replace o9 := hide (o9.out.below h1)
        clear h1
        go_wp2_with fail
        refine (M2.out _ _ _ _ _ (HT.out.below hb.out) nil1.out nil9.out ca1 kc9 om1 om9 r1.out o9.out.rd).mono ?_
        rintro e w14 ⟨rfl, h1⟩
        replace bX := hide (bel_next bX.out h1)
        replace hb := hide (bel_next hb.out h1)
        replace r1 := hide (r1.out.below h1)
        replace r2 := hide (r2.out.below h1)
        replace o8 := hide (o8.out.below h1)
        replace o9 := hide (o9.out.below h1)
        clear h1
        go_wp2_with (at_builtin; refine ap1G elBo_ o8.out bX.out (Nat.le_refl _) (.tmp 80) (.tmp 81) (.bool false) rfl rfl rfl rfl rfl q5.out q6.out ?_; intro A15 c15 w15 o15 b15)
        rw [show bls sm ++ [Value.bool false] = bls (sm ++ [false]) by simp] at o15
        clear hb r1 r2
        have hb := hide (bel_next hbX.out b15)
        have r2 := hide (r2X.out.below b15)
        have kc15 := o15.cap
        have om15 : c15 ≤ 9223372036854775807 := by have := o15.capMax; simp [maxLen] at this; omega
        have nil15 := hide o15.nilcap
        replace o15 := hide o15
        clear bX b15 o8 o9
        go_wp2_with fail
        refine (M3.out _ _ _ _ _ (HT.out.below hb.out) nil15.out nil2.out kc15 ca2 om15 om2 o15.out.rd r2.out).mono ?_
        rintro e w16 ⟨rfl, h1⟩
        replace hb := hide (bel_next hb.out h1)
        clear h1
        go_wp2
        go_ret
        exact ⟨rfl, hb.out⟩
    · by_cases p2 : 0 < n2
      · skip
        have d1 : decide ((0 : Int) < (n1 : Int)) = false := by simp; omega
        have dN1 : decide (0 < n1) = false := by simp; omega
        obtain ⟨sm, hsm⟩ : ∃ sm, s = sm := ⟨_, rfl⟩
        have hcm0 : cn sm u = true := by rw [← hsm]; exact hz
        have d2 : decide ((0 : Int) < (n2 : Int)) = true := by simp; omega
        have dN2 : decide (0 < n2) = true := by simp; omega
        obtain ⟨k2, hk2', hk2⟩ : ∃ k : Nat, at_.tmod (n2 : Int) = (k : Int) ∧ k < n2 := ⟨(at_.tmod n2).toNat, by have := Int.tmod_nonneg (n2 : Int) a0; omega, by have := Int.tmod_nonneg (n2 : Int) a0; have := Int.tmod_lt_of_pos at_ (show (0 : Int) < n2 by omega); omega⟩
        have hk2c : (k2 : Int) < (n2 : Int) := by omega
        obtain ⟨ul, hul⟩ : ∃ ul, u.set k2 false = ul := ⟨_, rfl⟩
        have hcl := cn_less hz k2
        rw [hul] at hcl
        have M1 := hide (fun A A' c c' w hT hA hA' hc hc' hcm hcm' hr hr' => in_.Consistent A A' n1 n2 c c' sm u w hT (by omega) (by omega) hA hA' hc hc' hcm hcm' hr hr')
        rw [show cn sm u = true from hcm0] at M1
        have M2 := hide (fun A A' c c' w hT hA hA' hc hc' hcm hcm' hr hr' => in_.Consistent A A' n1 n2 c c' s ul w hT (by omega) (by omega) hA hA' hc hc' hcm hcm' hr hr')
        rw [hcl] at M2
        have M3 := hide (fun A A' c c' w hT hA hA' hc hc' hcm hcm' hr hr' => in_.Consistent A A' (n1 + 1) n2 c c' (sm ++ [false]) u w hT (by omega) (by omega) hA hA' hc hc' hcm hcm' hr hr')
        rw [cn_longer hcm0 false] at M3
        clear hz
        replace hsm := hide hsm
        replace hul := hide hul
        go_enter Tryd.func5, Tryd.ntmps5
        go_wp2_with fail
        refine (awake _ (HT.out.below hb.out)).mono ?_
        rintro e w1 ⟨rfl, h1⟩
        replace hb := hide (bel_next hb.out h1)
        replace r1 := hide (r1.out.below h1)
        replace r2 := hide (r2.out.below h1)
        clear h1
        go_upto_region 4 with (refine mk elBo_ (b := w1.heap.size) (B := w1.heap.size) (w0 := w1) (bl_refl _) (Nat.le_refl _) (Nat.le_refl _) rfl (.tmp 24) (.tmp 24) rfl .i64 .i64 n2 n2 n2 n2 rfl rfl rfl rfl (Nat.le_refl _) (by omega) (by unfold maxLen; omega) ?_; intro w2 o2 h1)
        replace hb := hide (bel_next hb.out h1)
        replace r1 := hide (r1.out.below h1)
        replace r2 := hide (r2.out.below h1)
        clear h1
        rw [← List.map_replicate (f := Value.bool)] at o2
        replace o2 := hide o2
        go_wp2_with fail
        refine (C1.out _ _ _ _ _ (HT.out.below hb.out) nil2.out nil2.out ca2 ca2 om2 om2 r2.out r2.out).mono ?_
        rintro e w3 ⟨rfl, h1⟩
        replace hb := hide (bel_next hb.out h1)
        replace r1 := hide (r1.out.below h1)
        replace r2 := hide (r2.out.below h1)
        replace o2 := hide (o2.out.below h1)
        clear h1
        go_wp2_with fail
        refine (C2.out _ _ _ _ _ (HT.out.below hb.out) nil1.out (fun h => by cases h) ca1 (Nat.le_refl _) om1 (by omega) r1.out o2.out.rd).mono ?_
        rintro e w4 ⟨rfl, h1⟩
        replace hb := hide (bel_next hb.out h1)
        replace r1 := hide (r1.out.below h1)
        replace r2 := hide (r2.out.below h1)
        replace o2 := hide (o2.out.below h1)
        clear h1
        clear o2
        go_wp2_with fail
        refine (C3.out _ _ _ (HT.out.below hb.out) nil1.out ca1 om1 r1.out).mono ?_
        rintro e w5 ⟨rfl, h1⟩
        replace hb := hide (bel_next hb.out h1)
        replace r1 := hide (r1.out.below h1)
        replace r2 := hide (r2.out.below h1)
        clear h1
        go_wp2_with fail
        refine (C4.out _ _ _ _ _ (HT.out.below hb.out) nil1.out nil2.out ca1 ca2 om1 om2 r1.out r2.out).mono ?_
        rintro e w6 ⟨rfl, h1⟩
        replace hb := hide (bel_next hb.out h1)
        replace r1 := hide (r1.out.below h1)
        replace r2 := hide (r2.out.below h1)
        clear h1
        have hbX := hide hb.out
        have r1X := hide r1.out
        have r2X := hide r2.out
        have k0 := hide (show Ow (w6.alloc (.cells #[] 4)) w6.heap.size 4 (some ⟨w6.heap.size, 0, none⟩) 0 0 [] from Ow.lit w6 4 [] (by decide))
        have b0 := hide (bl_new w6 (.cells #[] 4))
        have s1 := hide (r1.out.alloc (.cells #[] 4))
        go_upto_region 9 with (at_builtin; refine apA elBo_ k0.out b0.out (Nat.le_refl _) s1.out (.tmp 45) (.tmp 46) rfl rfl rfl rfl nil1.out m1.out q1.out q2.out ?_; intro A8 c8 w8 o8 bX _; rw [Nat.zero_add] at o8 ⊢; rw [List.nil_append] at o8; replace o8 := hide o8; replace bX := hide bX)
        clear k0 b0 s1 hb r1 r2
        go_upto_region 11 with fail
        rename World => w10
        replace o8 := hide (by rw [hsm.out] at o8; exact o8.out)
        have r1 := hide (r1X.out.below bX.out)
        have r2 := hide (r2X.out.below bX.out)
        have k0 := hide (show Ow (w10.alloc (.cells #[] 4)) w10.heap.size 4 (some ⟨w10.heap.size, 0, none⟩) 0 0 [] from Ow.lit w10 4 [] (by decide))
        have b0 := hide (bl_new w10 (.cells #[] 4))
        have s2 := hide (r2.out.alloc (.cells #[] 4))
        go_upto_region 12 with (at_builtin; refine apA elBo_ k0.out b0.out (Nat.le_refl _) s2.out (.tmp 58) (.tmp 59) rfl rfl rfl rfl nil2.out m2.out q3.out q4.out ?_; intro A9 c9 w11 o9 b9 _; rw [Nat.zero_add] at o9 ⊢; rw [List.nil_append] at o9; replace o9 := hide o9; replace b9 := hide b9)
        clear k0 b0 s2
        obtain ⟨g9, rfl, hg9, _⟩ := o9.out.form p2
        have hs9 := o9.out.set k2 (.bool false)
        rw [← List.map_set, hul.out] at hs9
        obtain ⟨v9, hc9⟩ : ∃ v, w11.cell? ⟨g9, k2, none⟩ = some v := ⟨_, by rw [o9.out.cell k2 hk2, List.getElem?_eq_getElem (by rw [o9.out.len]; exact hk2)]⟩
        have hf9 := o9.out.frozen k2
        have b99 := hide (bl_set (o := k2) b9.out hg9 (.bool false))
        replace hs9 := hide hs9
        go_upto_region 14 with fail
        clear hc9 hf9 o9 b9
        have o9 := hide hs9.out
        have b9 := hide b99.out
        clear hs9 b99
        generalize (w11.setCell ⟨g9, k2, none⟩ (.bool false)) = w12 at *
        replace o8 := hide (o8.out.below b9.out)
        replace bX := hide (bel_next bX.out b9.out)
        clear b9 r1 r2
        have r1 := hide (r1X.out.below bX.out)
        have r2 := hide (r2X.out.below bX.out)
        have hb := hide (bel_next hbX.out bX.out)
        have kc8 := o8.out.cap
        have om8 : c8 ≤ 9223372036854775807 := by have := o8.out.capMax; simp [maxLen] at this; omega
        have nil8 := hide o8.out.nilcap
        have kc9 := o9.out.cap
        have om9 : c9 ≤ 9223372036854775807 := by have := o9.out.capMax; simp [maxLen] at this; omega
        have nil9 := hide o9.out.nilcap
        go_wp2_with fail
        refine (M1.out _ _ _ _ _ (HT.out.below hb.out) nil8.out nil2.out kc8 ca2 om8 om2 o8.out.rd r2.out).mono ?_
        rintro e w13 ⟨rfl, h1⟩
        replace bX := hide (bel_next bX.out h1)
        replace hb := hide (bel_next hb.out h1)
        replace r1 := hide (r1.out.below h1)
        replace r2 := hide (r2.out.below h1)
        replace o8 := hide (o8.out.below h1)
        replace o9 := hide (o9.out.below h1)
        clear h1
        go_wp2_with fail
        refine (M2.out _ _ _ _ _ (HT.out.below hb.out) nil1.out nil9.out ca1 kc9 om1 om9 r1.out o9.out.rd).mono ?_
        rintro e w14 ⟨rfl, h1⟩
        replace bX := hide (bel_next bX.out h1)
        replace hb := hide (bel_next hb.out h1)
        replace r1 := hide (r1.out.below h1)
        replace r2 := hide (r2.out.below h1)
        replace o8 := hide (o8.out.below h1)
        replace o9 := hide (o9.out.below h1)
        clear h1
        go_wp2_with (at_builtin; refine ap1G elBo_ o8.out bX.out (Nat.le_refl _) (.tmp 80) (.tmp 81) (.bool false) rfl rfl rfl rfl rfl q5.out q6.out ?_; intro A15 c15 w15 o15 b15)
        rw [show bls sm ++ [Value.bool false] = bls (sm ++ [false]) by simp] at o15
        clear hb r1 r2
        have hb := hide (bel_next hbX.out b15)
        have r2 := hide (r2X.out.below b15)
        have kc15 := o15.cap
        have om15 : c15 ≤ 9223372036854775807 := by have := o15.capMax; simp [maxLen] at this; omega
        have nil15 := hide o15.nilcap
        replace o15 := hide o15
        clear bX b15 o8 o9
        go_wp2_with fail
        refine (M3.out _ _ _ _ _ (HT.out.below hb.out) nil15.out nil2.out kc15 ca2 om15 om2 o15.out.rd r2.out).mono ?_
        rintro e w16 ⟨rfl, h1⟩
        replace hb := hide (bel_next hb.out h1)
        clear h1
        go_wp2
        go_ret
        exact ⟨rfl, hb.out⟩
      · skip
        have d1 : decide ((0 : Int) < (n1 : Int)) = false := by simp; omega
        have dN1 : decide (0 < n1) = false := by simp; omega
        obtain ⟨sm, hsm⟩ : ∃ sm, s = sm := ⟨_, rfl⟩
        have hcm0 : cn sm u = true := by rw [← hsm]; exact hz
        have d2 : decide ((0 : Int) < (n2 : Int)) = false := by simp; omega
        have dN2 : decide (0 < n2) = false := by simp; omega
        obtain ⟨ul, hul⟩ : ∃ ul, u = ul := ⟨_, rfl⟩
        have hcl0 : cn s ul = true := by rw [← hul]; exact hz
        have M1 := hide (fun A A' c c' w hT hA hA' hc hc' hcm hcm' hr hr' => in_.Consistent A A' n1 n2 c c' sm u w hT (by omega) (by omega) hA hA' hc hc' hcm hcm' hr hr')
        rw [show cn sm u = true from hcm0] at M1
        have M2 := hide (fun A A' c c' w hT hA hA' hc hc' hcm hcm' hr hr' => in_.Consistent A A' n1 n2 c c' s ul w hT (by omega) (by omega) hA hA' hc hc' hcm hcm' hr hr')
        rw [show cn s ul = true from hcl0] at M2
        have M3 := hide (fun A A' c c' w hT hA hA' hc hc' hcm hcm' hr hr' => in_.Consistent A A' (n1 + 1) n2 c c' (sm ++ [false]) u w hT (by omega) (by omega) hA hA' hc hc' hcm hcm' hr hr')
        rw [cn_longer hcm0 false] at M3
        clear hz
        replace hsm := hide hsm
        replace hul := hide hul
        go_enter Tryd.func5, Tryd.ntmps5
        go_wp2_with fail
        refine (awake _ (HT.out.below hb.out)).mono ?_
        rintro e w1 ⟨rfl, h1⟩
        replace hb := hide (bel_next hb.out h1)
        replace r1 := hide (r1.out.below h1)
        replace r2 := hide (r2.out.below h1)
        clear h1
        go_upto_region 4 with (refine mk elBo_ (b := w1.heap.size) (B := w1.heap.size) (w0 := w1) (bl_refl _) (Nat.le_refl _) (Nat.le_refl _) rfl (.tmp 24) (.tmp 24) rfl .i64 .i64 n2 n2 n2 n2 rfl rfl rfl rfl (Nat.le_refl _) (by omega) (by unfold maxLen; omega) ?_; intro w2 o2 h1)
        replace hb := hide (bel_next hb.out h1)
        replace r1 := hide (r1.out.below h1)
        replace r2 := hide (r2.out.below h1)
        clear h1
        rw [← List.map_replicate (f := Value.bool)] at o2
        replace o2 := hide o2
        go_wp2_with fail
        refine (C1.out _ _ _ _ _ (HT.out.below hb.out) nil2.out nil2.out ca2 ca2 om2 om2 r2.out r2.out).mono ?_
        rintro e w3 ⟨rfl, h1⟩
        replace hb := hide (bel_next hb.out h1)
        replace r1 := hide (r1.out.below h1)
        replace r2 := hide (r2.out.below h1)
        replace o2 := hide (o2.out.below h1)
        clear h1
        go_wp2_with fail
        refine (C2.out _ _ _ _ _ (HT.out.below hb.out) nil1.out (fun h => by cases h) ca1 (Nat.le_refl _) om1 (by omega) r1.out o2.out.rd).mono ?_
        rintro e w4 ⟨rfl, h1⟩
        replace hb := hide (bel_next hb.out h1)
        replace r1 := hide (r1.out.below h1)
        replace r2 := hide (r2.out.below h1)
        replace o2 := hide (o2.out.below h1)
        clear h1
        clear o2
        go_wp2_with fail
        refine (C3.out _ _ _ (HT.out.below hb.out) nil1.out ca1 om1 r1.out).mono ?_
        rintro e w5 ⟨rfl, h1⟩
        replace hb := hide (bel_next hb.out h1)
        replace r1 := hide (r1.out.below h1)
        replace r2 := hide (r2.out.below h1)
        clear h1
        go_wp2_with fail
        refine (C4.out _ _ _ _ _ (HT.out.below hb.out) nil1.out nil2.out ca1 ca2 om1 om2 r1.out r2.out).mono ?_
        rintro e w6 ⟨rfl, h1⟩
        replace hb := hide (bel_next hb.out h1)
        replace r1 := hide (r1.out.below h1)
        replace r2 := hide (r2.out.below h1)
        clear h1
        have hbX := hide hb.out
        have r1X := hide r1.out
        have r2X := hide r2.out
        have k0 := hide (show Ow (w6.alloc (.cells #[] 4)) w6.heap.size 4 (some ⟨w6.heap.size, 0, none⟩) 0 0 [] from Ow.lit w6 4 [] (by decide))
        have b0 := hide (bl_new w6 (.cells #[] 4))
        have s1 := hide (r1.out.alloc (.cells #[] 4))
        go_upto_region 9 with (at_builtin; refine apA elBo_ k0.out b0.out (Nat.le_refl _) s1.out (.tmp 45) (.tmp 46) rfl rfl rfl rfl nil1.out m1.out q1.out q2.out ?_; intro A8 c8 w8 o8 bX _; rw [Nat.zero_add] at o8 ⊢; rw [List.nil_append] at o8; replace o8 := hide o8; replace bX := hide bX)
        clear k0 b0 s1 hb r1 r2
        go_upto_region 11 with fail
        rename World => w10
        replace o8 := hide (by rw [hsm.out] at o8; exact o8.out)
        have r1 := hide (r1X.out.below bX.out)
        have r2 := hide (r2X.out.below bX.out)
        have k0 := hide (show Ow (w10.alloc (.cells #[] 4)) w10.heap.size 4 (some ⟨w10.heap.size, 0, none⟩) 0 0 [] from Ow.lit w10 4 [] (by decide))
        have b0 := hide (bl_new w10 (.cells #[] 4))
        have s2 := hide (r2.out.alloc (.cells #[] 4))
        go_upto_region 12 with (at_builtin; refine apA elBo_ k0.out b0.out (Nat.le_refl _) s2.out (.tmp 58) (.tmp 59) rfl rfl rfl rfl nil2.out m2.out q3.out q4.out ?_; intro A9 c9 w11 o9 b9 _; rw [Nat.zero_add] at o9 ⊢; rw [List.nil_append] at o9; replace o9 := hide o9; replace b9 := hide b9)
        clear k0 b0 s2
        go_upto_region 14 with fail
        rename World => w12
        replace o9 := hide (by rw [hul.out] at o9; exact o9.out)
        replace o8 := hide (o8.out.below b9.out)
        replace bX := hide (bel_next bX.out b9.out)
        clear b9 r1 r2
        have r1 := hide (r1X.out.below bX.out)
        have r2 := hide (r2X.out.below bX.out)
        have hb := hide (bel_next hbX.out bX.out)
        have kc8 := o8.out.cap
        have om8 : c8 ≤ 9223372036854775807 := by have := o8.out.capMax; simp [maxLen] at this; omega
        have nil8 := hide o8.out.nilcap
        have kc9 := o9.out.cap
        have om9 : c9 ≤ 9223372036854775807 := by have := o9.out.capMax; simp [maxLen] at this; omega
        have nil9 := hide o9.out.nilcap
        go_wp2_with fail
        refine (M1.out _ _ _ _ _ (HT.out.below hb.out) nil8.out nil2.out kc8 ca2 om8 om2 o8.out.rd r2.out).mono ?_
        rintro e w13 ⟨rfl, h1⟩
        replace bX := hide (bel_next bX.out h1)
        replace hb := hide (bel_next hb.out h1)
        replace r1 := hide (r1.out.below h1)
        replace r2 := hide (r2.out.below h1)
        replace o8 := hide (o8.out.below h1)
        replace o9 := hide (o9.out.below h1)
        clear h1
        go_wp2_with fail
        refine (M2.out _ _ _ _ _ (HT.out.below hb.out) nil1.out nil9.out ca1 kc9 om1 om9 r1.out o9.out.rd).mono ?_
        rintro e w14 ⟨rfl, h1⟩
        replace bX := hide (bel_next bX.out h1)
        replace hb := hide (bel_next hb.out h1)
        replace r1 := hide (r1.out.below h1)
        replace r2 := hide (r2.out.below h1)
        replace o8 := hide (o8.out.below h1)
        replace o9 := hide (o9.out.below h1)
        clear h1
        go_wp2_with (at_builtin; refine ap1G elBo_ o8.out bX.out (Nat.le_refl _) (.tmp 80) (.tmp 81) (.bool false) rfl rfl rfl rfl rfl q5.out q6.out ?_; intro A15 c15 w15 o15 b15)
        rw [show bls sm ++ [Value.bool false] = bls (sm ++ [false]) by simp] at o15
        clear hb r1 r2
        have hb := hide (bel_next hbX.out b15)
        have r2 := hide (r2X.out.below b15)
        have kc15 := o15.cap
        have om15 : c15 ≤ 9223372036854775807 := by have := o15.capMax; simp [maxLen] at this; omega
        have nil15 := hide o15.nilcap
        replace o15 := hide o15
        clear bX b15 o8 o9
        go_wp2_with fail
        refine (M3.out _ _ _ _ _ (HT.out.below hb.out) nil15.out nil2.out kc15 ca2 om15 om2 o15.out.rd r2.out).mono ?_
        rintro e w16 ⟨rfl, h1⟩
        replace hb := hide (bel_next hb.out h1)
        clear h1
        go_wp2
        go_ret
        exact ⟨rfl, hb.out⟩
end l18_
end Go.Proofs.YthpiemhdieaiaaaDoor
