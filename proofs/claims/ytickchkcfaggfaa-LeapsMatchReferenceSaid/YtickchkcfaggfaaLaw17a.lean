/-
  THE WALKS OF THE LAWS OF LAYER 17 (zoneinfolaw17): LeapsMatchReference. No conditions.
-/
import Derived.Test.YtickchkcfaggfaaLaw17
import Derived.Test.YtickchkcfaggfaaLw
namespace Go.Proofs.Ytickchkcfaggfaa
open Go.ChangeShapes Go.WideShapes Go.ChangeAt Go.RowKit
set_option linter.unusedVariables false
set_option maxRecDepth 100000
namespace l17_
set_option maxHeartbeats 8000000 in
theorem mref (A1 : Option Addr) (n1 c1 : Nat) (z1 : List Int) (A2 : Option Addr) (n2 c2 : Nat) (ts : List LP) (wide : Bool) (v t : Int) (w : World) (h1 : IsRw .u8 w A1 n1 c1 z1) (h2 : IsLw w A2 n2 c2 ts) (hv : (Lit.int .u8 v).wf = true) (ht : (Lit.int .i64 t).wf = true) :
    Calls Try.prog 3 #[.slice A1 n1 c1, .slice A2 n2 c2, .bool wide, .int .u8 v, .int .i64 t] w fun e w' => e = .returned (.bool true) ∧ Below w.heap.size w w' := by
  obtain ⟨v0, v1⟩ := wf_u8 hv
  obtain ⟨t0, t1⟩ := wf_i64 ht
  have r1 := h1.rd
  have nil1 := h1.nil
  have B1 : Bytes (z1.take n1) := bytes_of_mem fun t ht => wf_u8 (h1.wf t ht)
  obtain ⟨ca1, om1⟩ := h1.cap
  obtain ⟨nil2, ca2, om2, r2, B2⟩ := h2
  replace nil2 := hide nil2
  have nc2 := hide (And.intro nil2.out ca2)
  clear h1 hv ht
  obtain ⟨xs, hxs⟩ : ∃ xs, xs = z1.take n1 := ⟨_, rfl⟩
  rw [← hxs] at r1 B1
  clear hxs
  have hb := hide (Below.refl w.heap.size w)
  have Z := fun b w => r17_.Size14 b w
  by_cases hn : 1000 < n1
  · have hn' : (1000 : Int) < n1 := by omega
    clear r1 r2 B1 B2
    go_enter Try.func3, Try.ntmps3
    go_wp2_with fail
    refine (awake _).mono ?_
    rintro e w1 ⟨rfl, h1⟩
    replace hb := hide (bel_next hb.out h1)
    clear h1
    go_wp2_with fail
    refine (awake _).mono ?_
    rintro e w9 ⟨rfl, h1⟩
    replace hb := hide (bel_next hb.out h1)
    clear h1
    go_wp2
    go_ret
    exact ⟨rfl, hb.out⟩
  by_cases hn2 : 100 < n2
  · have hn' : (100 : Int) < n2 := by omega
    clear r1 r2 B1 B2
    go_enter Try.func3, Try.ntmps3
    go_wp2_with fail
    refine (awake _).mono ?_
    rintro e w1 ⟨rfl, h1⟩
    replace hb := hide (bel_next hb.out h1)
    clear h1
    go_wp2_with fail
    refine (awake _).mono ?_
    rintro e w9 ⟨rfl, h1⟩
    replace hb := hide (bel_next hb.out h1)
    clear h1
    go_wp2
    go_ret
    exact ⟨rfl, hb.out⟩
  have k1 : (n1 : Int) ≤ 1000 := by omega
  have k2 : (n2 : Int) ≤ 100 := by omega
  have key : ∀ m N : Nat, N ≤ n1 → Rd w A1 N ((xs.take N).map (Value.int .u8)) := fun m N h => by rw [List.map_take]; exact r1.take h
  replace r2 := hide r2
  clear r1
  obtain ⟨q, hq⟩ : ∃ q : Int, v.tmod 4 = q := ⟨_, rfl⟩
  have q0 : 0 ≤ q := by rw [← hq]; exact Int.tmod_nonneg _ v0
  have q1 : q < 4 := by rw [← hq]; exact Int.tmod_lt_of_pos _ (by decide)
  have q2 : 1 + q ≤ 4 := by omega
  have q3 : IntKind.i64.wrap (1 + q) = 1 + q := by rw [IntKind.wrap_i64]; omega
  obtain ⟨four, hf⟩ : ∃ four, decide (1 + q = 4) = four := ⟨_, rfl⟩
  have X := hide (fun A c w hA hr => lp_.Valid A n2 c ts (1 + q) four w (by omega) (by omega) hf (by omega) hA hr B2)
  have X' := hide (fun A c w hr => r17_.Valid A n2 c ts (1 + q) four w (by omega) (by omega) hf (by omega) hr B2)
  have Y := hide (fun A c w hA hr => lp_.NeedsV4 A n2 c ts w (by omega) hA hr B2)
  have Y' := hide (fun A c w hr => r17_.NeedsV4 A n2 c ts w (by omega) hr B2)
  have VF := hide (fun A c w hr => r17_.Valid A n2 c ts 4 true w (by decide) (by decide) rfl (by omega) hr B2)
  have Q := hide (fun (h : vL ts true = true) A c w hA hr => lp_.Expiry A n2 c ts w h (by omega) hA hr B2)
  have Q' := hide (fun A c w hr => r17_.Expiry A n2 c ts w (by omega) hr)
  have C := hide (fun (h : vL ts true = true) A c w hA hr => lp_.Correction A n2 c ts t w h (by omega) hA hr B2 t0 t1)
  have C' := hide (fun A c w hr => r17_.Correction A n2 c ts t w (by omega) hr B2)
  generalize vL ts four = xv at X X'
  generalize (!vL ts false && vL ts true) = yv at Y Y'
  generalize vL ts true = z at VF Q C
  generalize (if exL ts then la ts (ts.length - 1) else 0) = ev at Q Q'
  generalize exL ts = eb at Q Q'
  generalize cr ts t = cv at C C'
  clear hf
  cases wide with
  | false =>
    have Z1 := Z false
    rw [show (if (false : Bool) = true then (8 : Int) else 4) = 4 from rfl] at Z1
    clear Z
    obtain ⟨m, hm⟩ : ∃ m : Nat, m = n1 / 8 := ⟨_, rfl⟩
    obtain ⟨N, hN⟩ : ∃ N : Nat, N = m * 8 := ⟨_, rfl⟩
    have hNn : N ≤ n1 := by omega
    have r1 := hide (key m N hNn)
    have oc1 : N ≤ c1 := by omega
    replace nil1 := hide (show A1 = none → N = 0 ∧ c1 = 0 from fun h => by have := nil1 h; omega)
    have D := hide (fun A c w hA hc hcm hr => lp_.Decode A N c m (xs.take N) 4 4 w rfl (.inl rfl) (by omega) hN hA hc hcm hr (B1.take N))
    have D' := hide (fun A c w hA hc hcm hr => r17_.DecodeK A N c m (xs.take N) 4 4 w rfl (.inl rfl) (by omega) hN hA hc hcm hr (B1.take N))
    have E := hide (fun A c w hA hr => lp_.Encode A n2 c (n2 * 8) ts 4 4 w rfl (.inl rfl) (by omega) rfl hA hr B2)
    have E' := hide (fun A c w hr => r17_.EncodeK A n2 c (n2 * 8) ts 4 4 w rfl (.inl rfl) (by omega) rfl hr B2)
    generalize dLP 4 (xs.take N) m = dd at D D'
    generalize eLP 4 ts = ee at E E'
    have S6 := hide (fun A A' c c' w hr hr' => r17_.Same A A' m m c c' dd dd w (by omega) (by omega) hr hr')
    simp only [decide_true] at S6
    have S8 := hide (fun A A' c c' w hr hr' => r1_.Same A A' (n2 * 8) c (n2 * 8) c' ee w (by omega) hr hr')
    clear key B1 B2
    replace hm := hide hm
    replace hN := hide hN
    go_enter Try.func3, Try.ntmps3
    go_wp2_with fail
    refine (awake _).mono ?_
    rintro e w1 ⟨rfl, h1⟩
    replace hb := hide (bel_next hb.out h1)
    replace r1 := hide (r1.out.below h1)
    replace r2 := hide (r2.out.below h1)
    clear h1
    go_wp2_with fail
    refine (Z1 _).mono ?_
    rintro e w2 ⟨rfl, rfl⟩
    go_wp2_with fail
    rw [show n1 / 8 * 8 = N by rw [hN.out, hm.out]]
    refine (D.out _ _ _ nil1.out oc1 om1 r1.out).mono ?_
    rintro e w3 ⟨A3, c3, rfl, o3, h1⟩
    replace hb := hide (bel_next hb.out h1)
    replace r1 := hide (r1.out.below h1)
    replace r2 := hide (r2.out.below h1)
    clear h1
    replace o3 := hide o3
    go_wp2_with fail
    refine (D'.out _ _ _ nil1.out oc1 om1 r1.out).mono ?_
    rintro e w4 ⟨A4, c4, rfl, o4, h1⟩
    replace hb := hide (bel_next hb.out h1)
    replace r1 := hide (r1.out.below h1)
    replace r2 := hide (r2.out.below h1)
    replace o3 := hide (o3.out.below h1)
    clear h1
    replace o4 := hide o4
    go_wp2_with fail
    refine (S6.out _ _ _ _ _ o3.out.rd o4.out.rd).mono ?_
    rintro e w5 ⟨rfl, h1⟩
    replace hb := hide (bel_next hb.out h1)
    replace r1 := hide (r1.out.below h1)
    replace r2 := hide (r2.out.below h1)
    replace o3 := hide (o3.out.below h1)
    replace o4 := hide (o4.out.below h1)
    clear h1
    clear o3 o4
    go_wp2_with fail
    refine (E.out _ _ _ nil2.out r2.out).mono ?_
    rintro e w6 ⟨A6, c6, rfl, o6, h1⟩
    replace hb := hide (bel_next hb.out h1)
    replace r1 := hide (r1.out.below h1)
    replace r2 := hide (r2.out.below h1)
    clear h1
    replace o6 := hide o6
    go_wp2_with fail
    refine (E'.out _ _ _ r2.out).mono ?_
    rintro e w7 ⟨A7, c7, rfl, o7, h1⟩
    replace hb := hide (bel_next hb.out h1)
    replace r1 := hide (r1.out.below h1)
    replace r2 := hide (r2.out.below h1)
    replace o6 := hide (o6.out.below h1)
    clear h1
    replace o7 := hide o7
    go_wp2_with fail
    refine (S8.out _ _ _ _ _ o6.out.rd o7.out.rd).mono ?_
    rintro e w8 ⟨rfl, h1⟩
    replace hb := hide (bel_next hb.out h1)
    replace r1 := hide (r1.out.below h1)
    replace r2 := hide (r2.out.below h1)
    replace o6 := hide (o6.out.below h1)
    replace o7 := hide (o7.out.below h1)
    clear h1
    clear o6 o7
    go_wp2_with fail
    refine (X.out _ _ _ nc2.out r2.out).mono ?_
    rintro e w10 ⟨rfl, h1⟩
    replace hb := hide (bel_next hb.out h1)
    replace r1 := hide (r1.out.below h1)
    replace r2 := hide (r2.out.below h1)
    clear h1
    go_wp2_with fail
    refine (X'.out _ _ _ r2.out).mono ?_
    rintro e w11 ⟨rfl, h1⟩
    replace hb := hide (bel_next hb.out h1)
    replace r1 := hide (r1.out.below h1)
    replace r2 := hide (r2.out.below h1)
    clear h1
    go_wp2_with fail
    refine (Y.out _ _ _ nc2.out r2.out).mono ?_
    rintro e w12 ⟨rfl, h1⟩
    replace hb := hide (bel_next hb.out h1)
    replace r1 := hide (r1.out.below h1)
    replace r2 := hide (r2.out.below h1)
    clear h1
    go_wp2_with fail
    refine (Y'.out _ _ _ r2.out).mono ?_
    rintro e w13 ⟨rfl, h1⟩
    replace hb := hide (bel_next hb.out h1)
    replace r1 := hide (r1.out.below h1)
    replace r2 := hide (r2.out.below h1)
    clear h1
    go_wp2_with fail
    refine (VF.out _ _ _ r2.out).mono ?_
    rintro e w14 ⟨rfl, h1⟩
    replace hb := hide (bel_next hb.out h1)
    replace r1 := hide (r1.out.below h1)
    replace r2 := hide (r2.out.below h1)
    clear h1
    cases z
    case false =>
      go_wp2
      go_ret
      exact ⟨rfl, hb.out⟩
    replace C := hide (C.out rfl)
    replace Q := hide (Q.out rfl)
    go_wp2_with fail
    refine (Q.out _ _ _ nil2.out r2.out).mono ?_
    rintro e w15 ⟨rfl, h1⟩
    replace hb := hide (bel_next hb.out h1)
    replace r1 := hide (r1.out.below h1)
    replace r2 := hide (r2.out.below h1)
    clear h1
    go_wp2_with fail
    refine (Q'.out _ _ _ r2.out).mono ?_
    rintro e w16 ⟨rfl, h1⟩
    replace hb := hide (bel_next hb.out h1)
    replace r1 := hide (r1.out.below h1)
    replace r2 := hide (r2.out.below h1)
    clear h1
    go_wp2_with fail
    refine (C.out _ _ _ nil2.out r2.out).mono ?_
    rintro e w17 ⟨rfl, h1⟩
    replace hb := hide (bel_next hb.out h1)
    replace r1 := hide (r1.out.below h1)
    replace r2 := hide (r2.out.below h1)
    clear h1
    go_wp2_with fail
    refine (C'.out _ _ _ r2.out).mono ?_
    rintro e w18 ⟨rfl, h1⟩
    replace hb := hide (bel_next hb.out h1)
    replace r1 := hide (r1.out.below h1)
    replace r2 := hide (r2.out.below h1)
    clear h1
    go_wp2
    go_ret
    exact ⟨rfl, hb.out⟩
  | true =>
    have Z1 := Z true
    rw [show (if (true : Bool) = true then (8 : Int) else 4) = 8 from rfl] at Z1
    clear Z
    obtain ⟨m, hm⟩ : ∃ m : Nat, m = n1 / 12 := ⟨_, rfl⟩
    obtain ⟨N, hN⟩ : ∃ N : Nat, N = m * 12 := ⟨_, rfl⟩
    have hNn : N ≤ n1 := by omega
    have r1 := hide (key m N hNn)
    have oc1 : N ≤ c1 := by omega
    replace nil1 := hide (show A1 = none → N = 0 ∧ c1 = 0 from fun h => by have := nil1 h; omega)
    have D := hide (fun A c w hA hc hcm hr => lp_.Decode A N c m (xs.take N) 8 8 w rfl (.inr rfl) (by omega) hN hA hc hcm hr (B1.take N))
    have D' := hide (fun A c w hA hc hcm hr => r17_.DecodeK A N c m (xs.take N) 8 8 w rfl (.inr rfl) (by omega) hN hA hc hcm hr (B1.take N))
    have E := hide (fun A c w hA hr => lp_.Encode A n2 c (n2 * 12) ts 8 8 w rfl (.inr rfl) (by omega) rfl hA hr B2)
    have E' := hide (fun A c w hr => r17_.EncodeK A n2 c (n2 * 12) ts 8 8 w rfl (.inr rfl) (by omega) rfl hr B2)
    generalize dLP 8 (xs.take N) m = dd at D D'
    generalize eLP 8 ts = ee at E E'
    have S6 := hide (fun A A' c c' w hr hr' => r17_.Same A A' m m c c' dd dd w (by omega) (by omega) hr hr')
    simp only [decide_true] at S6
    have S8 := hide (fun A A' c c' w hr hr' => r1_.Same A A' (n2 * 12) c (n2 * 12) c' ee w (by omega) hr hr')
    clear key B1 B2
    replace hm := hide hm
    replace hN := hide hN
    go_enter Try.func3, Try.ntmps3
    go_wp2_with fail
    refine (awake _).mono ?_
    rintro e w1 ⟨rfl, h1⟩
    replace hb := hide (bel_next hb.out h1)
    replace r1 := hide (r1.out.below h1)
    replace r2 := hide (r2.out.below h1)
    clear h1
    go_wp2_with fail
    refine (Z1 _).mono ?_
    rintro e w2 ⟨rfl, rfl⟩
    go_wp2_with fail
    rw [show n1 / 12 * 12 = N by rw [hN.out, hm.out]]
    refine (D.out _ _ _ nil1.out oc1 om1 r1.out).mono ?_
    rintro e w3 ⟨A3, c3, rfl, o3, h1⟩
    replace hb := hide (bel_next hb.out h1)
    replace r1 := hide (r1.out.below h1)
    replace r2 := hide (r2.out.below h1)
    clear h1
    replace o3 := hide o3
    go_wp2_with fail
    refine (D'.out _ _ _ nil1.out oc1 om1 r1.out).mono ?_
    rintro e w4 ⟨A4, c4, rfl, o4, h1⟩
    replace hb := hide (bel_next hb.out h1)
    replace r1 := hide (r1.out.below h1)
    replace r2 := hide (r2.out.below h1)
    replace o3 := hide (o3.out.below h1)
    clear h1
    replace o4 := hide o4
    go_wp2_with fail
    refine (S6.out _ _ _ _ _ o3.out.rd o4.out.rd).mono ?_
    rintro e w5 ⟨rfl, h1⟩
    replace hb := hide (bel_next hb.out h1)
    replace r1 := hide (r1.out.below h1)
    replace r2 := hide (r2.out.below h1)
    replace o3 := hide (o3.out.below h1)
    replace o4 := hide (o4.out.below h1)
    clear h1
    clear o3 o4
    go_wp2_with fail
    refine (E.out _ _ _ nil2.out r2.out).mono ?_
    rintro e w6 ⟨A6, c6, rfl, o6, h1⟩
    replace hb := hide (bel_next hb.out h1)
    replace r1 := hide (r1.out.below h1)
    replace r2 := hide (r2.out.below h1)
    clear h1
    replace o6 := hide o6
    go_wp2_with fail
    refine (E'.out _ _ _ r2.out).mono ?_
    rintro e w7 ⟨A7, c7, rfl, o7, h1⟩
    replace hb := hide (bel_next hb.out h1)
    replace r1 := hide (r1.out.below h1)
    replace r2 := hide (r2.out.below h1)
    replace o6 := hide (o6.out.below h1)
    clear h1
    replace o7 := hide o7
    go_wp2_with fail
    refine (S8.out _ _ _ _ _ o6.out.rd o7.out.rd).mono ?_
    rintro e w8 ⟨rfl, h1⟩
    replace hb := hide (bel_next hb.out h1)
    replace r1 := hide (r1.out.below h1)
    replace r2 := hide (r2.out.below h1)
    replace o6 := hide (o6.out.below h1)
    replace o7 := hide (o7.out.below h1)
    clear h1
    clear o6 o7
    go_wp2_with fail
    refine (X.out _ _ _ nc2.out r2.out).mono ?_
    rintro e w10 ⟨rfl, h1⟩
    replace hb := hide (bel_next hb.out h1)
    replace r1 := hide (r1.out.below h1)
    replace r2 := hide (r2.out.below h1)
    clear h1
    go_wp2_with fail
    refine (X'.out _ _ _ r2.out).mono ?_
    rintro e w11 ⟨rfl, h1⟩
    replace hb := hide (bel_next hb.out h1)
    replace r1 := hide (r1.out.below h1)
    replace r2 := hide (r2.out.below h1)
    clear h1
    go_wp2_with fail
    refine (Y.out _ _ _ nc2.out r2.out).mono ?_
    rintro e w12 ⟨rfl, h1⟩
    replace hb := hide (bel_next hb.out h1)
    replace r1 := hide (r1.out.below h1)
    replace r2 := hide (r2.out.below h1)
    clear h1
    go_wp2_with fail
    refine (Y'.out _ _ _ r2.out).mono ?_
    rintro e w13 ⟨rfl, h1⟩
    replace hb := hide (bel_next hb.out h1)
    replace r1 := hide (r1.out.below h1)
    replace r2 := hide (r2.out.below h1)
    clear h1
    go_wp2_with fail
    refine (VF.out _ _ _ r2.out).mono ?_
    rintro e w14 ⟨rfl, h1⟩
    replace hb := hide (bel_next hb.out h1)
    replace r1 := hide (r1.out.below h1)
    replace r2 := hide (r2.out.below h1)
    clear h1
    cases z
    case false =>
      go_wp2
      go_ret
      exact ⟨rfl, hb.out⟩
    replace C := hide (C.out rfl)
    replace Q := hide (Q.out rfl)
    go_wp2_with fail
    refine (Q.out _ _ _ nil2.out r2.out).mono ?_
    rintro e w15 ⟨rfl, h1⟩
    replace hb := hide (bel_next hb.out h1)
    replace r1 := hide (r1.out.below h1)
    replace r2 := hide (r2.out.below h1)
    clear h1
    go_wp2_with fail
    refine (Q'.out _ _ _ r2.out).mono ?_
    rintro e w16 ⟨rfl, h1⟩
    replace hb := hide (bel_next hb.out h1)
    replace r1 := hide (r1.out.below h1)
    replace r2 := hide (r2.out.below h1)
    clear h1
    go_wp2_with fail
    refine (C.out _ _ _ nil2.out r2.out).mono ?_
    rintro e w17 ⟨rfl, h1⟩
    replace hb := hide (bel_next hb.out h1)
    replace r1 := hide (r1.out.below h1)
    replace r2 := hide (r2.out.below h1)
    clear h1
    go_wp2_with fail
    refine (C'.out _ _ _ r2.out).mono ?_
    rintro e w18 ⟨rfl, h1⟩
    replace hb := hide (bel_next hb.out h1)
    replace r1 := hide (r1.out.below h1)
    replace r2 := hide (r2.out.below h1)
    clear h1
    go_wp2
    go_ret
    exact ⟨rfl, hb.out⟩
end l17_
end Go.Proofs.Ytickchkcfaggfaa
