/-
  THE WALKS OF THE LAWS OF LAYER 15 (zoneinfolaw15): TransitionsMatchReference. No conditions.
-/
import Derived.Test.YtknnobpnfnajiaaLaw15
namespace Go.Proofs.Ytknnobpnfnajiaa
open Go.ChangeShapes Go.WideShapes Go.ChangeAt Go.RowKit
set_option linter.unusedVariables false
set_option maxRecDepth 100000
namespace l15_
set_option maxHeartbeats 8000000 in
theorem mref (A1 : Option Addr) (n1 c1 : Nat) (z1 : List Int) (A2 : Option Addr) (n2 c2 : Nat) (z2 : List Int) (wide : Bool) (w : World) (h1 : IsRw .u8 w A1 n1 c1 z1) (h2 : IsRw .i64 w A2 n2 c2 z2) :
    Calls Try.prog 3 #[.slice A1 n1 c1, .slice A2 n2 c2, .bool wide] w fun e w' => e = .returned (.bool true) ∧ Below w.heap.size w w' := by
  have r1 := h1.rd
  have r2 := h2.rd
  have nil1 := h1.nil
  have nil2 := hide h2.nil
  have B1 : Bytes (z1.take n1) := bytes_of_mem fun t ht => wf_u8 (h1.wf t ht)
  have B2 : ∀ v ∈ z2.take n2, -9223372036854775808 ≤ v ∧ v < 9223372036854775808 := fun t ht => wf_i64 (h2.wf t ht)
  obtain ⟨ca1, om1⟩ := h1.cap
  clear h1 h2
  obtain ⟨xs, hxs⟩ : ∃ xs, xs = z1.take n1 := ⟨_, rfl⟩
  obtain ⟨ys, hys⟩ : ∃ ys, ys = z2.take n2 := ⟨_, rfl⟩
  rw [← hxs] at r1 B1
  rw [← hys] at r2 B2
  clear hxs hys
  have hb := hide (Below.refl w.heap.size w)
  have Z := fun b w => r14_.Size b w
  by_cases hn : 1000 < n1
  · have hn' : (1000 : Int) < n1 := by omega
    clear r1 r2 B1 B2
    go_enter Try.func3, Try.ntmps3
    go_wp2_with fail
    refine (awake _).mono ?_
    rintro e w1 ⟨rfl, h1⟩
    replace hb := hide (bel_next hb.out h1)
    clear h1
    go_wp2_with fail
    refine (awake _).mono ?_
    rintro e w9 ⟨rfl, h1⟩
    replace hb := hide (bel_next hb.out h1)
    clear h1
    go_wp2
    go_ret
    exact ⟨rfl, hb.out⟩
  by_cases hn2 : 200 < n2
  · have hn' : (200 : Int) < n2 := by omega
    clear r1 r2 B1 B2
    go_enter Try.func3, Try.ntmps3
    go_wp2_with fail
    refine (awake _).mono ?_
    rintro e w1 ⟨rfl, h1⟩
    replace hb := hide (bel_next hb.out h1)
    clear h1
    go_wp2_with fail
    refine (awake _).mono ?_
    rintro e w9 ⟨rfl, h1⟩
    replace hb := hide (bel_next hb.out h1)
    clear h1
    go_wp2
    go_ret
    exact ⟨rfl, hb.out⟩
  have k1 : (n1 : Int) ≤ 1000 := by omega
  have k2 : (n2 : Int) ≤ 200 := by omega
  have key : ∀ m N : Nat, N ≤ n1 → Rd w A1 N ((xs.take N).map (Value.int .u8)) := fun m N h => by rw [List.map_take]; exact r1.take h
  replace r2 := hide r2
  clear r1
  cases wide with
  | false =>
    have Z1 := Z false
    rw [show (if (false : Bool) = true then (8 : Int) else 4) = 4 from rfl] at Z1
    clear Z
    obtain ⟨m, hm⟩ : ∃ m : Nat, m = n1 / 4 := ⟨_, rfl⟩
    obtain ⟨N, hN⟩ : ∃ N : Nat, N = m * 4 := ⟨_, rfl⟩
    have hNn : N ≤ n1 := by omega
    have r1 := hide (key m N hNn)
    have oc1 : N ≤ c1 := by omega
    replace nil1 := hide (show A1 = none → N = 0 ∧ c1 = 0 from fun h => by have := nil1 h; omega)
    have D := hide (fun A c w hA hc hcm hr => tr_.Decode A N c m (xs.take N) 4 4 w rfl (.inl rfl) (by omega) hN hA hc hcm hr (B1.take N))
    have D' := hide (fun A c w hA hc hcm hr => r15_.DecodeK A N c m (xs.take N) 4 4 w rfl (.inl rfl) (by omega) hN hA hc hcm hr (B1.take N))
    have E := hide (fun A c w hA hr => tr_.Encode A n2 c (4 * n2) ys 4 4 w rfl (.inl rfl) (by omega) rfl hA hr B2)
    have E' := hide (fun A c w hA hr => r15_.EncodeK A n2 c (4 * n2) ys 4 4 w rfl (.inl rfl) (by omega) rfl hA hr B2)
    have X := hide (fun A c w hA hr => tr_.Descent A n2 c ys w (by omega) hA hr)
    have X' := hide (fun A c w hA hr => r15_.DescentK A n2 c ys w (by omega) hA hr)
    have Y := hide (fun A c w hA hr => tr_.Fit A n2 c ys 4 4 w rfl (.inl rfl) (by omega) hA hr B2)
    have Y' := hide (fun A c w hA hr => r15_.FitK A n2 c ys 4 4 w rfl (.inl rfl) (by omega) hA hr B2)
    generalize dT 4 (xs.take N) m = dd at D D'
    generalize eT 4 ys = ee at E E'
    generalize desc ys = de at X X'
    generalize fT 4 ys = fi at Y Y'
    have S6 := hide (fun A A' c c' w hr hr' => r15_.Same A A' m m c c' dd dd w (by omega) (by omega) hr hr')
    simp only [decide_true] at S6
    have S8 := hide (fun A A' c c' w hr hr' => r1_.Same A A' (4 * n2) c (4 * n2) c' ee w (by omega) hr hr')
    clear key B1 B2
    replace hm := hide hm
    replace hN := hide hN
    go_enter Try.func3, Try.ntmps3
    go_wp2_with fail
    refine (awake _).mono ?_
    rintro e w1 ⟨rfl, h1⟩
    replace hb := hide (bel_next hb.out h1)
    replace r1 := hide (r1.out.below h1)
    replace r2 := hide (r2.out.below h1)
    clear h1
    go_wp2_with fail
    refine (Z1 _).mono ?_
    rintro e w2 ⟨rfl, rfl⟩
    go_wp2_with fail
    rw [show n1 / 4 * 4 = N by rw [hN.out, hm.out]]
    refine (D.out _ _ _ nil1.out oc1 om1 r1.out).mono ?_
    rintro e w3 ⟨A3, c3, rfl, o3, h1⟩
    replace hb := hide (bel_next hb.out h1)
    replace r1 := hide (r1.out.below h1)
    replace r2 := hide (r2.out.below h1)
    clear h1
    replace o3 := hide o3
    go_wp2_with fail
    refine (D'.out _ _ _ nil1.out oc1 om1 r1.out).mono ?_
    rintro e w4 ⟨A4, c4, rfl, o4, h1⟩
    replace hb := hide (bel_next hb.out h1)
    replace r1 := hide (r1.out.below h1)
    replace r2 := hide (r2.out.below h1)
    replace o3 := hide (o3.out.below h1)
    clear h1
    replace o4 := hide o4
    go_wp2_with fail
    refine (S6.out _ _ _ _ _ o3.out.rd o4.out.rd).mono ?_
    rintro e w5 ⟨rfl, h1⟩
    replace hb := hide (bel_next hb.out h1)
    replace r1 := hide (r1.out.below h1)
    replace r2 := hide (r2.out.below h1)
    replace o3 := hide (o3.out.below h1)
    replace o4 := hide (o4.out.below h1)
    clear h1
    clear o3 o4
    go_wp2_with fail
    refine (E.out _ _ _ nil2.out r2.out).mono ?_
    rintro e w6 ⟨A6, c6, rfl, o6, h1⟩
    replace hb := hide (bel_next hb.out h1)
    replace r1 := hide (r1.out.below h1)
    replace r2 := hide (r2.out.below h1)
    clear h1
    replace o6 := hide o6
    go_wp2_with fail
    refine (E'.out _ _ _ nil2.out r2.out).mono ?_
    rintro e w7 ⟨A7, c7, rfl, o7, h1⟩
    replace hb := hide (bel_next hb.out h1)
    replace r1 := hide (r1.out.below h1)
    replace r2 := hide (r2.out.below h1)
    replace o6 := hide (o6.out.below h1)
    clear h1
    replace o7 := hide o7
    go_wp2_with fail
    refine (S8.out _ _ _ _ _ o6.out.rd o7.out.rd).mono ?_
    rintro e w8 ⟨rfl, h1⟩
    replace hb := hide (bel_next hb.out h1)
    replace r1 := hide (r1.out.below h1)
    replace r2 := hide (r2.out.below h1)
    replace o6 := hide (o6.out.below h1)
    replace o7 := hide (o7.out.below h1)
    clear h1
    clear o6 o7
    go_wp2_with fail
    refine (X.out _ _ _ nil2.out r2.out).mono ?_
    rintro e w10 ⟨rfl, h1⟩
    replace hb := hide (bel_next hb.out h1)
    replace r1 := hide (r1.out.below h1)
    replace r2 := hide (r2.out.below h1)
    clear h1
    go_wp2_with fail
    refine (X'.out _ _ _ nil2.out r2.out).mono ?_
    rintro e w11 ⟨rfl, h1⟩
    replace hb := hide (bel_next hb.out h1)
    replace r1 := hide (r1.out.below h1)
    replace r2 := hide (r2.out.below h1)
    clear h1
    go_wp2_with fail
    refine (Y.out _ _ _ nil2.out r2.out).mono ?_
    rintro e w12 ⟨rfl, h1⟩
    replace hb := hide (bel_next hb.out h1)
    replace r1 := hide (r1.out.below h1)
    replace r2 := hide (r2.out.below h1)
    clear h1
    go_wp2_with fail
    refine (Y'.out _ _ _ nil2.out r2.out).mono ?_
    rintro e w13 ⟨rfl, h1⟩
    replace hb := hide (bel_next hb.out h1)
    replace r1 := hide (r1.out.below h1)
    replace r2 := hide (r2.out.below h1)
    clear h1
    go_wp2
    go_ret
    exact ⟨rfl, hb.out⟩
  | true =>
    have Z1 := Z true
    rw [show (if (true : Bool) = true then (8 : Int) else 4) = 8 from rfl] at Z1
    clear Z
    obtain ⟨m, hm⟩ : ∃ m : Nat, m = n1 / 8 := ⟨_, rfl⟩
    obtain ⟨N, hN⟩ : ∃ N : Nat, N = m * 8 := ⟨_, rfl⟩
    have hNn : N ≤ n1 := by omega
    have r1 := hide (key m N hNn)
    have oc1 : N ≤ c1 := by omega
    replace nil1 := hide (show A1 = none → N = 0 ∧ c1 = 0 from fun h => by have := nil1 h; omega)
    have D := hide (fun A c w hA hc hcm hr => tr_.Decode A N c m (xs.take N) 8 8 w rfl (.inr rfl) (by omega) hN hA hc hcm hr (B1.take N))
    have D' := hide (fun A c w hA hc hcm hr => r15_.DecodeK A N c m (xs.take N) 8 8 w rfl (.inr rfl) (by omega) hN hA hc hcm hr (B1.take N))
    have E := hide (fun A c w hA hr => tr_.Encode A n2 c (8 * n2) ys 8 8 w rfl (.inr rfl) (by omega) rfl hA hr B2)
    have E' := hide (fun A c w hA hr => r15_.EncodeK A n2 c (8 * n2) ys 8 8 w rfl (.inr rfl) (by omega) rfl hA hr B2)
    have X := hide (fun A c w hA hr => tr_.Descent A n2 c ys w (by omega) hA hr)
    have X' := hide (fun A c w hA hr => r15_.DescentK A n2 c ys w (by omega) hA hr)
    have Y := hide (fun A c w hA hr => tr_.Fit A n2 c ys 8 8 w rfl (.inr rfl) (by omega) hA hr B2)
    have Y' := hide (fun A c w hA hr => r15_.FitK A n2 c ys 8 8 w rfl (.inr rfl) (by omega) hA hr B2)
    generalize dT 8 (xs.take N) m = dd at D D'
    generalize eT 8 ys = ee at E E'
    generalize desc ys = de at X X'
    generalize fT 8 ys = fi at Y Y'
    have S6 := hide (fun A A' c c' w hr hr' => r15_.Same A A' m m c c' dd dd w (by omega) (by omega) hr hr')
    simp only [decide_true] at S6
    have S8 := hide (fun A A' c c' w hr hr' => r1_.Same A A' (8 * n2) c (8 * n2) c' ee w (by omega) hr hr')
    clear key B1 B2
    replace hm := hide hm
    replace hN := hide hN
    go_enter Try.func3, Try.ntmps3
    go_wp2_with fail
    refine (awake _).mono ?_
    rintro e w1 ⟨rfl, h1⟩
    replace hb := hide (bel_next hb.out h1)
    replace r1 := hide (r1.out.below h1)
    replace r2 := hide (r2.out.below h1)
    clear h1
    go_wp2_with fail
    refine (Z1 _).mono ?_
    rintro e w2 ⟨rfl, rfl⟩
    go_wp2_with fail
    rw [show n1 / 8 * 8 = N by rw [hN.out, hm.out]]
    refine (D.out _ _ _ nil1.out oc1 om1 r1.out).mono ?_
    rintro e w3 ⟨A3, c3, rfl, o3, h1⟩
    replace hb := hide (bel_next hb.out h1)
    replace r1 := hide (r1.out.below h1)
    replace r2 := hide (r2.out.below h1)
    clear h1
    replace o3 := hide o3
    go_wp2_with fail
    refine (D'.out _ _ _ nil1.out oc1 om1 r1.out).mono ?_
    rintro e w4 ⟨A4, c4, rfl, o4, h1⟩
    replace hb := hide (bel_next hb.out h1)
    replace r1 := hide (r1.out.below h1)
    replace r2 := hide (r2.out.below h1)
    replace o3 := hide (o3.out.below h1)
    clear h1
    replace o4 := hide o4
    go_wp2_with fail
    refine (S6.out _ _ _ _ _ o3.out.rd o4.out.rd).mono ?_
    rintro e w5 ⟨rfl, h1⟩
    replace hb := hide (bel_next hb.out h1)
    replace r1 := hide (r1.out.below h1)
    replace r2 := hide (r2.out.below h1)
    replace o3 := hide (o3.out.below h1)
    replace o4 := hide (o4.out.below h1)
    clear h1
    clear o3 o4
    go_wp2_with fail
    refine (E.out _ _ _ nil2.out r2.out).mono ?_
    rintro e w6 ⟨A6, c6, rfl, o6, h1⟩
    replace hb := hide (bel_next hb.out h1)
    replace r1 := hide (r1.out.below h1)
    replace r2 := hide (r2.out.below h1)
    clear h1
    replace o6 := hide o6
    go_wp2_with fail
    refine (E'.out _ _ _ nil2.out r2.out).mono ?_
    rintro e w7 ⟨A7, c7, rfl, o7, h1⟩
    replace hb := hide (bel_next hb.out h1)
    replace r1 := hide (r1.out.below h1)
    replace r2 := hide (r2.out.below h1)
    replace o6 := hide (o6.out.below h1)
    clear h1
    replace o7 := hide o7
    go_wp2_with fail
    refine (S8.out _ _ _ _ _ o6.out.rd o7.out.rd).mono ?_
    rintro e w8 ⟨rfl, h1⟩
    replace hb := hide (bel_next hb.out h1)
    replace r1 := hide (r1.out.below h1)
    replace r2 := hide (r2.out.below h1)
    replace o6 := hide (o6.out.below h1)
    replace o7 := hide (o7.out.below h1)
    clear h1
    clear o6 o7
    go_wp2_with fail
    refine (X.out _ _ _ nil2.out r2.out).mono ?_
    rintro e w10 ⟨rfl, h1⟩
    replace hb := hide (bel_next hb.out h1)
    replace r1 := hide (r1.out.below h1)
    replace r2 := hide (r2.out.below h1)
    clear h1
    go_wp2_with fail
    refine (X'.out _ _ _ nil2.out r2.out).mono ?_
    rintro e w11 ⟨rfl, h1⟩
    replace hb := hide (bel_next hb.out h1)
    replace r1 := hide (r1.out.below h1)
    replace r2 := hide (r2.out.below h1)
    clear h1
    go_wp2_with fail
    refine (Y.out _ _ _ nil2.out r2.out).mono ?_
    rintro e w12 ⟨rfl, h1⟩
    replace hb := hide (bel_next hb.out h1)
    replace r1 := hide (r1.out.below h1)
    replace r2 := hide (r2.out.below h1)
    clear h1
    go_wp2_with fail
    refine (Y'.out _ _ _ nil2.out r2.out).mono ?_
    rintro e w13 ⟨rfl, h1⟩
    replace hb := hide (bel_next hb.out h1)
    replace r1 := hide (r1.out.below h1)
    replace r2 := hide (r2.out.below h1)
    clear h1
    go_wp2
    go_ret
    exact ⟨rfl, hb.out⟩
end l15_
end Go.Proofs.Ytknnobpnfnajiaa
