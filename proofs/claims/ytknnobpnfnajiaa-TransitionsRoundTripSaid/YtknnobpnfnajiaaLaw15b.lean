/-
  THE WALKS OF THE LAWS OF LAYER 15 (zoneinfolaw15): TransitionsRoundTrip. No conditions.
-/
import Derived.Test.YtknnobpnfnajiaaLaw15
namespace Go.Proofs.Ytknnobpnfnajiaa
open Go.ChangeShapes Go.WideShapes Go.ChangeAt Go.RowKit
set_option linter.unusedVariables false
set_option maxRecDepth 100000
namespace l15_
set_option maxHeartbeats 8000000 in
theorem roundTrip (A2 : Option Addr) (n2 c2 : Nat) (z2 : List Int) (A1 : Option Addr) (n1 c1 : Nat) (z1 : List Int) (wide : Bool) (w : World) (h2 : IsRw .i64 w A2 n2 c2 z2) (h1 : IsRw .u8 w A1 n1 c1 z1) :
    Calls Try.prog 4 #[.slice A2 n2 c2, .slice A1 n1 c1, .bool wide] w fun e w' => e = .returned (.bool true) ∧ Below w.heap.size w w' := by
  have r1 := h1.rd
  have r2 := h2.rd
  have nil1 := h1.nil
  have nil2 := hide h2.nil
  have B1 : Bytes (z1.take n1) := bytes_of_mem fun t ht => wf_u8 (h1.wf t ht)
  have B2 : ∀ v ∈ z2.take n2, -9223372036854775808 ≤ v ∧ v < 9223372036854775808 := fun t ht => wf_i64 (h2.wf t ht)
  obtain ⟨ca1, om1⟩ := h1.cap
  clear h1 h2
  obtain ⟨xs, hxs⟩ : ∃ xs, xs = z1.take n1 := ⟨_, rfl⟩
  obtain ⟨ys, hys⟩ : ∃ ys, ys = z2.take n2 := ⟨_, rfl⟩
  rw [← hxs] at r1 B1
  rw [← hys] at r2 B2
  clear hxs hys
  have l1 : xs.length = n1 := by have := r1.len; simpa using this
  have l2 : ys.length = n2 := by have := r2.len; simpa using this
  have hb := hide (Below.refl w.heap.size w)
  have Z := fun b w => r14_.Size b w
  by_cases hn : 1000 < n1
  · have hn' : (1000 : Int) < n1 := by omega
    clear r1 r2 B1 B2 l1 l2
    go_enter Try.func4, Try.ntmps4
    go_wp2_with fail
    refine (awake _).mono ?_
    rintro e w1 ⟨rfl, h1⟩
    replace hb := hide (bel_next hb.out h1)
    clear h1
    go_wp2_with fail
    refine (awake _).mono ?_
    rintro e w9 ⟨rfl, h1⟩
    replace hb := hide (bel_next hb.out h1)
    clear h1
    go_wp2
    go_ret
    exact ⟨rfl, hb.out⟩
  by_cases hn2 : 200 < n2
  · have hn' : (200 : Int) < n2 := by omega
    clear r1 r2 B1 B2 l1 l2
    go_enter Try.func4, Try.ntmps4
    go_wp2_with fail
    refine (awake _).mono ?_
    rintro e w1 ⟨rfl, h1⟩
    replace hb := hide (bel_next hb.out h1)
    clear h1
    go_wp2_with fail
    refine (awake _).mono ?_
    rintro e w9 ⟨rfl, h1⟩
    replace hb := hide (bel_next hb.out h1)
    clear h1
    go_wp2
    go_ret
    exact ⟨rfl, hb.out⟩
  have k1 : (n1 : Int) ≤ 1000 := by omega
  have k2 : (n2 : Int) ≤ 200 := by omega
  have key : ∀ m N : Nat, N ≤ n1 → Rd w A1 N ((xs.take N).map (Value.int .u8)) := fun m N h => by rw [List.map_take]; exact r1.take h
  replace r2 := hide r2
  clear r1
  cases wide with
  | false =>
    have Z1 := Z false
    rw [show (if (false : Bool) = true then (8 : Int) else 4) = 4 from rfl] at Z1
    clear Z
    obtain ⟨m, hm⟩ : ∃ m : Nat, m = n1 / 4 := ⟨_, rfl⟩
    obtain ⟨N, hN⟩ : ∃ N : Nat, N = m * 4 := ⟨_, rfl⟩
    have hNn : N ≤ n1 := by omega
    have r1 := hide (key m N hNn)
    have oc1 : N ≤ c1 := by omega
    replace nil1 := hide (show A1 = none → N = 0 ∧ c1 = 0 from fun h => by have := nil1 h; omega)
    have el : (eT 4 ys).length = 4 * n2 := by rw [eT_len, l2]
    have E := hide (fun A c w hA hr => tr_.Encode A n2 c (4 * n2) ys 4 4 w rfl (.inl rfl) (by omega) rfl hA hr B2)
    have D := hide (fun A c w hA hc hcm hr => tr_.Decode A (4 * n2) c n2 (eT 4 ys) 4 4 w rfl (.inl rfl) (by omega) (by omega) hA hc hcm hr (eT_bytes _ _))
    have S6 := hide (fun A A' c c' w hr hr' => r15_.Same A A' n2 n2 c c' (dT 4 (eT 4 ys) n2) ys w (by omega) (by omega) hr hr')
    rw [show decide (dT 4 (eT 4 ys) n2 = ys) = fT 4 ys by rw [Bool.eq_iff_iff, decide_eq_true_iff, ← l2]; exact dT_eT (.inl rfl) ys B2] at S6
    have Y := hide (fun A c w hA hr => tr_.Fit A n2 c ys 4 4 w rfl (.inl rfl) (by omega) hA hr B2)
    have Y8 := hide (fun A c w hA hr => tr_.Fit A n2 c ys 8 8 w rfl (.inr rfl) (by omega) hA hr B2)
    rw [fT_8] at Y8
    generalize dT 4 (eT 4 ys) n2 = dd at D S6
    generalize eT 4 ys = ee at E D
    generalize fT 4 ys = fi at S6 Y
    have lN : (xs.take N).length = N := by rw [List.length_take, l1]; omega
    have bd := dT_bd (.inl rfl) (xs.take N) (B1.take N) m (by omega)
    have ed := (eT_dT (.inl rfl) (xs.take N) (B1.take N) m (by omega)).trans (show (xs.take N).take (m * 4) = xs.take N from List.take_of_length_le (by omega))
    have D2 := hide (fun A c w hA hc hcm hr => tr_.Decode A N c m (xs.take N) 4 4 w rfl (.inl rfl) (by omega) hN hA hc hcm hr (B1.take N))
    have E2 := hide (fun A c w hA hr => tr_.Encode A m c N (dT 4 (xs.take N) m) 4 4 w rfl (.inl rfl) (by omega) (by omega) hA hr bd.2)
    rw [ed] at E2
    have Y2 := hide (fun A c w hA hr => tr_.Fit A m c (dT 4 (xs.take N) m) 4 4 w rfl (.inl rfl) (by omega) hA hr bd.2)
    rw [bd.1] at Y2
    generalize dT 4 (xs.take N) m = d2 at D2 E2 Y2
    have S8 := hide (fun A A' c c' w hr hr' => r1_.Same A A' N c N c' (xs.take N) w (by omega) hr hr')
    have q1 : ((N : Int) / 4) = (m : Int) := by omega
    have q2 : n1 / 4 = m := by omega
    have q3 : N / 4 = m := by omega
    clear key B1 B2 l1 l2 lN bd ed el
    replace hm := hide hm
    replace hN := hide hN
    replace q2 := hide q2
    go_enter Try.func4, Try.ntmps4
    go_wp2_with fail
    refine (awake _).mono ?_
    rintro e w1 ⟨rfl, h1⟩
    replace hb := hide (bel_next hb.out h1)
    replace r1 := hide (r1.out.below h1)
    replace r2 := hide (r2.out.below h1)
    clear h1
    go_wp2_with fail
    refine (Z1 _).mono ?_
    rintro e w2 ⟨rfl, rfl⟩
    go_wp2_with fail
    refine (E.out _ _ _ nil2.out r2.out).mono ?_
    rintro e w3 ⟨A3, c3, rfl, o3, h1⟩
    replace hb := hide (bel_next hb.out h1)
    replace r1 := hide (r1.out.below h1)
    replace r2 := hide (r2.out.below h1)
    clear h1
    have oc3 := o3.cap
    have om3 : c3 ≤ 9223372036854775807 := by have := o3.capMax; simp [maxLen] at this; omega
    have nil3 := hide o3.nilcap
    replace o3 := hide o3
    go_wp2_with fail
    refine (D.out _ _ _ nil3.out oc3 om3 o3.out.rd).mono ?_
    rintro e w4 ⟨A4, c4, rfl, o4, h1⟩
    replace hb := hide (bel_next hb.out h1)
    replace r1 := hide (r1.out.below h1)
    replace r2 := hide (r2.out.below h1)
    replace o3 := hide (o3.out.below h1)
    clear h1
    replace o4 := hide o4
    clear o3
    go_wp2_with fail
    refine (S6.out _ _ _ _ _ o4.out.rd r2.out).mono ?_
    rintro e w5 ⟨rfl, h1⟩
    replace hb := hide (bel_next hb.out h1)
    replace r1 := hide (r1.out.below h1)
    replace r2 := hide (r2.out.below h1)
    replace o4 := hide (o4.out.below h1)
    clear h1
    clear o4
    go_wp2_with fail
    refine (Y.out _ _ _ nil2.out r2.out).mono ?_
    rintro e w6 ⟨rfl, h1⟩
    replace hb := hide (bel_next hb.out h1)
    replace r1 := hide (r1.out.below h1)
    replace r2 := hide (r2.out.below h1)
    clear h1
    go_wp2_with fail
    refine (Y8.out _ _ _ nil2.out r2.out).mono ?_
    rintro e w7 ⟨rfl, h1⟩
    replace hb := hide (bel_next hb.out h1)
    replace r1 := hide (r1.out.below h1)
    replace r2 := hide (r2.out.below h1)
    clear h1
    go_wp2_with fail
    rw [show n1 / 4 * 4 = N by rw [hN.out, hm.out]]
    refine (D2.out _ _ _ nil1.out oc1 om1 r1.out).mono ?_
    rintro e w8 ⟨A8, c8, rfl, o8, h1⟩
    replace hb := hide (bel_next hb.out h1)
    replace r1 := hide (r1.out.below h1)
    replace r2 := hide (r2.out.below h1)
    clear h1
    have nil8 := hide o8.nilcap
    replace o8 := hide o8
    go_wp2_with fail
    refine (E2.out _ _ _ nil8.out o8.out.rd).mono ?_
    rintro e w10 ⟨A10, c10, rfl, o10, h1⟩
    replace hb := hide (bel_next hb.out h1)
    replace r1 := hide (r1.out.below h1)
    replace r2 := hide (r2.out.below h1)
    replace o8 := hide (o8.out.below h1)
    clear h1
    replace o10 := hide o10
    go_wp2_with fail
    refine (S8.out _ _ _ _ _ o10.out.rd r1.out).mono ?_
    rintro e w11 ⟨rfl, h1⟩
    replace hb := hide (bel_next hb.out h1)
    replace r1 := hide (r1.out.below h1)
    replace r2 := hide (r2.out.below h1)
    replace o8 := hide (o8.out.below h1)
    replace o10 := hide (o10.out.below h1)
    clear h1
    clear o10
    go_wp2_with fail
    refine (Y2.out _ _ _ nil8.out o8.out.rd).mono ?_
    rintro e w12 ⟨rfl, h1⟩
    replace hb := hide (bel_next hb.out h1)
    replace r1 := hide (r1.out.below h1)
    replace r2 := hide (r2.out.below h1)
    replace o8 := hide (o8.out.below h1)
    clear h1
    go_wp2
    go_ret
    exact ⟨rfl, hb.out⟩
  | true =>
    have Z1 := Z true
    rw [show (if (true : Bool) = true then (8 : Int) else 4) = 8 from rfl] at Z1
    clear Z
    obtain ⟨m, hm⟩ : ∃ m : Nat, m = n1 / 8 := ⟨_, rfl⟩
    obtain ⟨N, hN⟩ : ∃ N : Nat, N = m * 8 := ⟨_, rfl⟩
    have hNn : N ≤ n1 := by omega
    have r1 := hide (key m N hNn)
    have oc1 : N ≤ c1 := by omega
    replace nil1 := hide (show A1 = none → N = 0 ∧ c1 = 0 from fun h => by have := nil1 h; omega)
    have el : (eT 8 ys).length = 8 * n2 := by rw [eT_len, l2]
    have E := hide (fun A c w hA hr => tr_.Encode A n2 c (8 * n2) ys 8 8 w rfl (.inr rfl) (by omega) rfl hA hr B2)
    have D := hide (fun A c w hA hc hcm hr => tr_.Decode A (8 * n2) c n2 (eT 8 ys) 8 8 w rfl (.inr rfl) (by omega) (by omega) hA hc hcm hr (eT_bytes _ _))
    have S6 := hide (fun A A' c c' w hr hr' => r15_.Same A A' n2 n2 c c' (dT 8 (eT 8 ys) n2) ys w (by omega) (by omega) hr hr')
    rw [show decide (dT 8 (eT 8 ys) n2 = ys) = fT 8 ys by rw [Bool.eq_iff_iff, decide_eq_true_iff, ← l2]; exact dT_eT (.inr rfl) ys B2] at S6
    have Y := hide (fun A c w hA hr => tr_.Fit A n2 c ys 8 8 w rfl (.inr rfl) (by omega) hA hr B2)
    have Y8 := hide (fun A c w hA hr => tr_.Fit A n2 c ys 8 8 w rfl (.inr rfl) (by omega) hA hr B2)
    rw [fT_8] at Y8
    generalize dT 8 (eT 8 ys) n2 = dd at D S6
    generalize eT 8 ys = ee at E D
    generalize fT 8 ys = fi at S6 Y
    have lN : (xs.take N).length = N := by rw [List.length_take, l1]; omega
    have bd := dT_bd (.inr rfl) (xs.take N) (B1.take N) m (by omega)
    have ed := (eT_dT (.inr rfl) (xs.take N) (B1.take N) m (by omega)).trans (show (xs.take N).take (m * 8) = xs.take N from List.take_of_length_le (by omega))
    have D2 := hide (fun A c w hA hc hcm hr => tr_.Decode A N c m (xs.take N) 8 8 w rfl (.inr rfl) (by omega) hN hA hc hcm hr (B1.take N))
    have E2 := hide (fun A c w hA hr => tr_.Encode A m c N (dT 8 (xs.take N) m) 8 8 w rfl (.inr rfl) (by omega) (by omega) hA hr bd.2)
    rw [ed] at E2
    have Y2 := hide (fun A c w hA hr => tr_.Fit A m c (dT 8 (xs.take N) m) 8 8 w rfl (.inr rfl) (by omega) hA hr bd.2)
    rw [bd.1] at Y2
    generalize dT 8 (xs.take N) m = d2 at D2 E2 Y2
    have S8 := hide (fun A A' c c' w hr hr' => r1_.Same A A' N c N c' (xs.take N) w (by omega) hr hr')
    have q1 : ((N : Int) / 8) = (m : Int) := by omega
    have q2 : n1 / 8 = m := by omega
    have q3 : N / 8 = m := by omega
    clear key B1 B2 l1 l2 lN bd ed el
    replace hm := hide hm
    replace hN := hide hN
    replace q2 := hide q2
    go_enter Try.func4, Try.ntmps4
    go_wp2_with fail
    refine (awake _).mono ?_
    rintro e w1 ⟨rfl, h1⟩
    replace hb := hide (bel_next hb.out h1)
    replace r1 := hide (r1.out.below h1)
    replace r2 := hide (r2.out.below h1)
    clear h1
    go_wp2_with fail
    refine (Z1 _).mono ?_
    rintro e w2 ⟨rfl, rfl⟩
    go_wp2_with fail
    refine (E.out _ _ _ nil2.out r2.out).mono ?_
    rintro e w3 ⟨A3, c3, rfl, o3, h1⟩
    replace hb := hide (bel_next hb.out h1)
    replace r1 := hide (r1.out.below h1)
    replace r2 := hide (r2.out.below h1)
    clear h1
    have oc3 := o3.cap
    have om3 : c3 ≤ 9223372036854775807 := by have := o3.capMax; simp [maxLen] at this; omega
    have nil3 := hide o3.nilcap
    replace o3 := hide o3
    go_wp2_with fail
    refine (D.out _ _ _ nil3.out oc3 om3 o3.out.rd).mono ?_
    rintro e w4 ⟨A4, c4, rfl, o4, h1⟩
    replace hb := hide (bel_next hb.out h1)
    replace r1 := hide (r1.out.below h1)
    replace r2 := hide (r2.out.below h1)
    replace o3 := hide (o3.out.below h1)
    clear h1
    replace o4 := hide o4
    clear o3
    go_wp2_with fail
    refine (S6.out _ _ _ _ _ o4.out.rd r2.out).mono ?_
    rintro e w5 ⟨rfl, h1⟩
    replace hb := hide (bel_next hb.out h1)
    replace r1 := hide (r1.out.below h1)
    replace r2 := hide (r2.out.below h1)
    replace o4 := hide (o4.out.below h1)
    clear h1
    clear o4
    go_wp2_with fail
    refine (Y.out _ _ _ nil2.out r2.out).mono ?_
    rintro e w6 ⟨rfl, h1⟩
    replace hb := hide (bel_next hb.out h1)
    replace r1 := hide (r1.out.below h1)
    replace r2 := hide (r2.out.below h1)
    clear h1
    go_wp2_with fail
    refine (Y8.out _ _ _ nil2.out r2.out).mono ?_
    rintro e w7 ⟨rfl, h1⟩
    replace hb := hide (bel_next hb.out h1)
    replace r1 := hide (r1.out.below h1)
    replace r2 := hide (r2.out.below h1)
    clear h1
    go_wp2_with fail
    rw [show n1 / 8 * 8 = N by rw [hN.out, hm.out]]
    refine (D2.out _ _ _ nil1.out oc1 om1 r1.out).mono ?_
    rintro e w8 ⟨A8, c8, rfl, o8, h1⟩
    replace hb := hide (bel_next hb.out h1)
    replace r1 := hide (r1.out.below h1)
    replace r2 := hide (r2.out.below h1)
    clear h1
    have nil8 := hide o8.nilcap
    replace o8 := hide o8
    go_wp2_with fail
    refine (E2.out _ _ _ nil8.out o8.out.rd).mono ?_
    rintro e w10 ⟨A10, c10, rfl, o10, h1⟩
    replace hb := hide (bel_next hb.out h1)
    replace r1 := hide (r1.out.below h1)
    replace r2 := hide (r2.out.below h1)
    replace o8 := hide (o8.out.below h1)
    clear h1
    replace o10 := hide o10
    go_wp2_with fail
    refine (S8.out _ _ _ _ _ o10.out.rd r1.out).mono ?_
    rintro e w11 ⟨rfl, h1⟩
    replace hb := hide (bel_next hb.out h1)
    replace r1 := hide (r1.out.below h1)
    replace r2 := hide (r2.out.below h1)
    replace o8 := hide (o8.out.below h1)
    replace o10 := hide (o10.out.below h1)
    clear h1
    clear o10
    go_wp2_with fail
    refine (Y2.out _ _ _ nil8.out o8.out.rd).mono ?_
    rintro e w12 ⟨rfl, h1⟩
    replace hb := hide (bel_next hb.out h1)
    replace r1 := hide (r1.out.below h1)
    replace r2 := hide (r2.out.below h1)
    replace o8 := hide (o8.out.below h1)
    clear h1
    go_wp2
    go_ret
    exact ⟨rfl, hb.out⟩
end l15_
end Go.Proofs.Ytknnobpnfnajiaa
