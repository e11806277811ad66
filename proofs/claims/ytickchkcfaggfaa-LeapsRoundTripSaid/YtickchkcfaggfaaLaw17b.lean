/-
  THE WALKS OF THE LAWS OF LAYER 17 (zoneinfolaw17): LeapsRoundTrip. No conditions.
-/
import Derived.Test.YtickchkcfaggfaaLaw17
import Derived.Test.YtickchkcfaggfaaLw
namespace Go.Proofs.Ytickchkcfaggfaa
open Go.ChangeShapes Go.WideShapes Go.ChangeAt Go.RowKit
set_option linter.unusedVariables false
set_option maxRecDepth 100000
theorem lfit_step (k : Nat) (ts : List LP) (i : Nat) (t : LP) (h : ts[i]? = some t) : lfit k (ts.take (i + 1)) = (lfit k (ts.take i) && fitsB k t.1) := by
  unfold lfit
  rw [List.take_add_one, h, List.all_append]
  simp
namespace l17_
set_option maxHeartbeats 8000000 in
theorem roundTrip (A2 : Option Addr) (n2 c2 : Nat) (ts : List LP) (A1 : Option Addr) (n1 c1 : Nat) (z1 : List Int) (wide : Bool) (w : World) (h2 : IsLw w A2 n2 c2 ts) (h1 : IsRw .u8 w A1 n1 c1 z1) :
    Calls Try.prog 4 #[.slice A2 n2 c2, .slice A1 n1 c1, .bool wide] w fun e w' => e = .returned (.bool true) ∧ Below w.heap.size w w' := by
  have r1 := h1.rd
  have nil1 := h1.nil
  have B1 : Bytes (z1.take n1) := bytes_of_mem fun t ht => wf_u8 (h1.wf t ht)
  obtain ⟨ca1, om1⟩ := h1.cap
  have l2 := hide h2.len
  obtain ⟨nil2, ca2, om2, r2, B2⟩ := h2
  replace nil2 := hide nil2
  clear h1
  obtain ⟨xs, hxs⟩ : ∃ xs, xs = z1.take n1 := ⟨_, rfl⟩
  rw [← hxs] at r1 B1
  clear hxs
  have l1 : xs.length = n1 := by have := r1.len; simpa using this
  have hb := hide (Below.refl w.heap.size w)
  have Z := fun b w => r17_.Size14 b w
  by_cases hn : 1000 < n1
  · have hn' : (1000 : Int) < n1 := by omega
    clear r1 r2 B1 B2 l1 l2
    go_enter Try.func4, Try.ntmps4
    go_wp2_with fail
    refine (awake _).mono ?_
    rintro e w1 ⟨rfl, h1⟩
    replace hb := hide (bel_next hb.out h1)
    clear h1
    go_wp2_with fail
    refine (awake _).mono ?_
    rintro e w9 ⟨rfl, h1⟩
    replace hb := hide (bel_next hb.out h1)
    clear h1
    go_wp2
    go_ret
    exact ⟨rfl, hb.out⟩
  by_cases hn2 : 100 < n2
  · have hn' : (100 : Int) < n2 := by omega
    clear r1 r2 B1 B2 l1 l2
    go_enter Try.func4, Try.ntmps4
    go_wp2_with fail
    refine (awake _).mono ?_
    rintro e w1 ⟨rfl, h1⟩
    replace hb := hide (bel_next hb.out h1)
    clear h1
    go_wp2_with fail
    refine (awake _).mono ?_
    rintro e w9 ⟨rfl, h1⟩
    replace hb := hide (bel_next hb.out h1)
    clear h1
    go_wp2
    go_ret
    exact ⟨rfl, hb.out⟩
  have k1 : (n1 : Int) ≤ 1000 := by omega
  have k2 : (n2 : Int) ≤ 100 := by omega
  have key : ∀ m N : Nat, N ≤ n1 → Rd w A1 N ((xs.take N).map (Value.int .u8)) := fun m N h => by rw [List.map_take]; exact r1.take h
  replace r2 := hide r2
  clear r1
  cases wide with
  | false =>
    have Z1 := Z false
    rw [show (if (false : Bool) = true then (8 : Int) else 4) = 4 from rfl] at Z1
    clear Z
    obtain ⟨m, hm⟩ : ∃ m : Nat, m = n1 / 8 := ⟨_, rfl⟩
    obtain ⟨N, hN⟩ : ∃ N : Nat, N = m * 8 := ⟨_, rfl⟩
    have hNn : N ≤ n1 := by omega
    have r1 := hide (key m N hNn)
    have oc1 : N ≤ c1 := by omega
    replace nil1 := hide (show A1 = none → N = 0 ∧ c1 = 0 from fun h => by have := nil1 h; omega)
    have el : (eLP 4 ts).length = n2 * 8 := by rw [eLP_len, l2.out]
    have E := hide (fun A c w hA hr => lp_.Encode A n2 c (n2 * 8) ts 4 4 w rfl (.inl rfl) (by omega) rfl hA hr B2)
    have D := hide (fun A c w hA hc hcm hr => lp_.Decode A (n2 * 8) c n2 (eLP 4 ts) 4 4 w rfl (.inl rfl) (by omega) rfl hA hc hcm hr (eLP_bytes 4 ts))
    have S6 := hide (fun A A' c c' w hr hr' => r17_.Same A A' n2 n2 c c' (dLP 4 (eLP 4 ts) n2) ts w (by omega) (by omega) hr hr')
    rw [show decide (dLP 4 (eLP 4 ts) n2 = ts) = lfit 4 ts by rw [Bool.eq_iff_iff, decide_eq_true_iff, ← l2.out]; exact dLP_e (.inl rfl) B2] at S6
    have FI := hide (rfl : lfit 4 ts = lfit 4 ts)
    generalize dLP 4 (eLP 4 ts) n2 = dd at D S6
    generalize eLP 4 ts = ee at E D el
    have FT := hide (fun (i : Nat) (t : LP) (ht : ts[i]? = some t) w => r1_.Fits t.1 4 w (.inr (.inl rfl)) (B2 t (List.mem_of_getElem? ht)).1 (B2 t (List.mem_of_getElem? ht)).2.1)
    have lN : (xs.take N).length = N := by rw [List.length_take, l1]; omega
    have bd := dLP_ok (k := 4) (.inl rfl) (xs.take N) (B1.take N) m (by omega)
    have ed := (eLP_d (k := 4) (.inl rfl) (xs.take N) (B1.take N) m (by omega)).trans (show (xs.take N).take (m * 8) = xs.take N from List.take_of_length_le (by omega))
    have D2 := hide (fun A c w hA hc hcm hr => lp_.Decode A N c m (xs.take N) 4 4 w rfl (.inl rfl) (by omega) hN hA hc hcm hr (B1.take N))
    have E2 := hide (fun A c w hA hr => lp_.Encode A m c N (dLP 4 (xs.take N) m) 4 4 w rfl (.inl rfl) (by omega) hN hA hr (fun t h => (bd t h).1))
    rw [ed] at E2
    generalize dLP 4 (xs.take N) m = d2 at D2 E2 ed bd
    have S8 := hide (fun A A' c c' w hr hr' => r1_.Same A A' N c N c' (xs.take N) w (by omega) hr hr')
    have q5 : (8 : Int) * (n2 : Int) = ((n2 * 8 : Nat) : Int) := by omega
    clear key B1 B2 l1 lN bd ed el
    replace hm := hide hm
    replace hN := hide hN
    go_enter Try.func4, Try.ntmps4
    go_wp2_with fail
    refine (awake _).mono ?_
    rintro e w1 ⟨rfl, h1⟩
    replace hb := hide (bel_next hb.out h1)
    replace r1 := hide (r1.out.below h1)
    replace r2 := hide (r2.out.below h1)
    clear h1
    go_wp2_with fail
    refine (Z1 _).mono ?_
    rintro e w2 ⟨rfl, rfl⟩
    go_wp2_with fail
    go_loopw [8, 9] (fun fl iv wr => ∃ i : Nat, i ≤ n2 ∧ iv = .int .i64 (i : Nat) ∧ fl = .bool (lfit 4 (ts.take i)) ∧ Hid (Below w1.heap.size w1 wr)) (fun _ i _ => n2 - (intOf i).toNat)
    case atStart => exact ⟨0, by omega, rfl, rfl, hide (bl_refl _)⟩
    case round =>
      obtain ⟨i, hi, rfl, rfl, hw⟩ := hrel
      by_cases hlt : i < n2
      · have hir : (i : Int) < (n2 : Int) := by omega
        obtain ⟨ad, t, e1, ht, f0, _⟩ := (r2.out.below hw.out).lp hlt
        subst e1
        have hst := hide (lfit_step 4 ts i t ht)
        have HF := hide (fun w => FT.out i t ht w)
        clear ht
        rcases hf : lfit 4 (ts.take i) with _ | _
        · rw [hf] at hst
          clear hf HF
          go_wp2_with fail
          go_roundw
          case rel => exact ⟨i + 1, by omega, by go_num, by rw [hst.out]; rfl, hw⟩
          case measure => simp [intOf]; omega
        · rw [hf, Bool.true_and] at hst
          clear hf
          go_wp2_with fail
          refine (HF.out _).mono ?_
          rintro e w' ⟨rfl, rfl⟩
          go_wp2_with fail
          go_roundw
          case rel => exact ⟨i + 1, by omega, by go_num, by rw [hst.out]; rfl, hw⟩
          case measure => simp [intOf]; omega
      · obtain rfl : i = n2 := by omega
        have hts : ts.take i = ts := List.take_of_length_le (by rw [l2.out]; exact Nat.le_refl _)
        rw [hts]
        clear hts
        have h1 := hw.out
        replace hb := hide (bel_next hb.out h1)
        replace r1 := hide (r1.out.below h1)
        replace r2 := hide (r2.out.below h1)
        clear h1 hw
        go_wp2_with fail
        refine (E.out _ _ _ nil2.out r2.out).mono ?_
        rintro e w3 ⟨A3, c3, rfl, o3, h1⟩
        replace hb := hide (bel_next hb.out h1)
        replace r1 := hide (r1.out.below h1)
        replace r2 := hide (r2.out.below h1)
        clear h1
        have oc3 := o3.cap
        have om3 : c3 ≤ 9223372036854775807 := by have := o3.capMax; simp [maxLen] at this; omega
        have nil3 := hide o3.nilcap
        replace o3 := hide o3
        go_wp2_with fail
        refine (D.out _ _ _ nil3.out oc3 om3 o3.out.rd).mono ?_
        rintro e w4 ⟨A4, c4, rfl, o4, h1⟩
        replace hb := hide (bel_next hb.out h1)
        replace r1 := hide (r1.out.below h1)
        replace r2 := hide (r2.out.below h1)
        replace o3 := hide (o3.out.below h1)
        clear h1
        replace o4 := hide o4
        clear o3
        go_wp2_with fail
        refine (S6.out _ _ _ _ _ o4.out.rd r2.out).mono ?_
        rintro e w5 ⟨rfl, h1⟩
        replace hb := hide (bel_next hb.out h1)
        replace r1 := hide (r1.out.below h1)
        replace r2 := hide (r2.out.below h1)
        replace o4 := hide (o4.out.below h1)
        clear h1
        clear o4
        replace FI := FI.out
        generalize lfit 4 ts = fi at *
        cases fi
        · go_wp2_with fail
          rw [show n1 / 8 * 8 = N by rw [hN.out, hm.out]]
          refine (D2.out _ _ _ nil1.out oc1 om1 r1.out).mono ?_
          rintro e w8 ⟨A8, c8, rfl, o8, h1⟩
          replace hb := hide (bel_next hb.out h1)
          replace r1 := hide (r1.out.below h1)
          clear h1
          have nil8 := hide o8.nilcap
          replace o8 := hide o8
          go_wp2_with fail
          refine (E2.out _ _ _ nil8.out o8.out.rd).mono ?_
          rintro e w10 ⟨A10, c10, rfl, o10, h1⟩
          replace hb := hide (bel_next hb.out h1)
          replace r1 := hide (r1.out.below h1)
          replace o8 := hide (o8.out.below h1)
          clear h1
          replace o10 := hide o10
          go_wp2_with fail
          refine (S8.out _ _ _ _ _ o10.out.rd r1.out).mono ?_
          rintro e w11 ⟨rfl, h1⟩
          replace hb := hide (bel_next hb.out h1)
          replace r1 := hide (r1.out.below h1)
          replace o8 := hide (o8.out.below h1)
          replace o10 := hide (o10.out.below h1)
          clear h1
          go_wp2
          go_ret
          exact ⟨rfl, hb.out⟩
        · go_wp2_with fail
          rw [show n1 / 8 * 8 = N by rw [hN.out, hm.out]]
          refine (D2.out _ _ _ nil1.out oc1 om1 r1.out).mono ?_
          rintro e w8 ⟨A8, c8, rfl, o8, h1⟩
          replace hb := hide (bel_next hb.out h1)
          replace r1 := hide (r1.out.below h1)
          clear h1
          have nil8 := hide o8.nilcap
          replace o8 := hide o8
          go_wp2_with fail
          refine (E2.out _ _ _ nil8.out o8.out.rd).mono ?_
          rintro e w10 ⟨A10, c10, rfl, o10, h1⟩
          replace hb := hide (bel_next hb.out h1)
          replace r1 := hide (r1.out.below h1)
          replace o8 := hide (o8.out.below h1)
          clear h1
          replace o10 := hide o10
          go_wp2_with fail
          refine (S8.out _ _ _ _ _ o10.out.rd r1.out).mono ?_
          rintro e w11 ⟨rfl, h1⟩
          replace hb := hide (bel_next hb.out h1)
          replace r1 := hide (r1.out.below h1)
          replace o8 := hide (o8.out.below h1)
          replace o10 := hide (o10.out.below h1)
          clear h1
          go_wp2
          go_ret
          exact ⟨rfl, hb.out⟩
  | true =>
    have Z1 := Z true
    rw [show (if (true : Bool) = true then (8 : Int) else 4) = 8 from rfl] at Z1
    clear Z
    obtain ⟨m, hm⟩ : ∃ m : Nat, m = n1 / 12 := ⟨_, rfl⟩
    obtain ⟨N, hN⟩ : ∃ N : Nat, N = m * 12 := ⟨_, rfl⟩
    have hNn : N ≤ n1 := by omega
    have r1 := hide (key m N hNn)
    have oc1 : N ≤ c1 := by omega
    replace nil1 := hide (show A1 = none → N = 0 ∧ c1 = 0 from fun h => by have := nil1 h; omega)
    have el : (eLP 8 ts).length = n2 * 12 := by rw [eLP_len, l2.out]
    have E := hide (fun A c w hA hr => lp_.Encode A n2 c (n2 * 12) ts 8 8 w rfl (.inr rfl) (by omega) rfl hA hr B2)
    have D := hide (fun A c w hA hc hcm hr => lp_.Decode A (n2 * 12) c n2 (eLP 8 ts) 8 8 w rfl (.inr rfl) (by omega) rfl hA hc hcm hr (eLP_bytes 8 ts))
    have S6 := hide (fun A A' c c' w hr hr' => r17_.Same A A' n2 n2 c c' (dLP 8 (eLP 8 ts) n2) ts w (by omega) (by omega) hr hr')
    rw [show decide (dLP 8 (eLP 8 ts) n2 = ts) = lfit 8 ts by rw [Bool.eq_iff_iff, decide_eq_true_iff, ← l2.out]; exact dLP_e (.inr rfl) B2] at S6
    have FI := hide (rfl : lfit 8 ts = lfit 8 ts)
    generalize dLP 8 (eLP 8 ts) n2 = dd at D S6
    generalize eLP 8 ts = ee at E D el
    have FT := hide (fun (i : Nat) (t : LP) (ht : ts[i]? = some t) w => r1_.Fits t.1 8 w (.inr (.inr rfl)) (B2 t (List.mem_of_getElem? ht)).1 (B2 t (List.mem_of_getElem? ht)).2.1)
    have lN : (xs.take N).length = N := by rw [List.length_take, l1]; omega
    have bd := dLP_ok (k := 8) (.inr rfl) (xs.take N) (B1.take N) m (by omega)
    have ed := (eLP_d (k := 8) (.inr rfl) (xs.take N) (B1.take N) m (by omega)).trans (show (xs.take N).take (m * 12) = xs.take N from List.take_of_length_le (by omega))
    have D2 := hide (fun A c w hA hc hcm hr => lp_.Decode A N c m (xs.take N) 8 8 w rfl (.inr rfl) (by omega) hN hA hc hcm hr (B1.take N))
    have E2 := hide (fun A c w hA hr => lp_.Encode A m c N (dLP 8 (xs.take N) m) 8 8 w rfl (.inr rfl) (by omega) hN hA hr (fun t h => (bd t h).1))
    rw [ed] at E2
    generalize dLP 8 (xs.take N) m = d2 at D2 E2 ed bd
    have S8 := hide (fun A A' c c' w hr hr' => r1_.Same A A' N c N c' (xs.take N) w (by omega) hr hr')
    have q5 : (12 : Int) * (n2 : Int) = ((n2 * 12 : Nat) : Int) := by omega
    clear key B1 B2 l1 lN bd ed el
    replace hm := hide hm
    replace hN := hide hN
    go_enter Try.func4, Try.ntmps4
    go_wp2_with fail
    refine (awake _).mono ?_
    rintro e w1 ⟨rfl, h1⟩
    replace hb := hide (bel_next hb.out h1)
    replace r1 := hide (r1.out.below h1)
    replace r2 := hide (r2.out.below h1)
    clear h1
    go_wp2_with fail
    refine (Z1 _).mono ?_
    rintro e w2 ⟨rfl, rfl⟩
    go_wp2_with fail
    go_loopw [8, 9] (fun fl iv wr => ∃ i : Nat, i ≤ n2 ∧ iv = .int .i64 (i : Nat) ∧ fl = .bool (lfit 8 (ts.take i)) ∧ Hid (Below w1.heap.size w1 wr)) (fun _ i _ => n2 - (intOf i).toNat)
    case atStart => exact ⟨0, by omega, rfl, rfl, hide (bl_refl _)⟩
    case round =>
      obtain ⟨i, hi, rfl, rfl, hw⟩ := hrel
      by_cases hlt : i < n2
      · have hir : (i : Int) < (n2 : Int) := by omega
        obtain ⟨ad, t, e1, ht, f0, _⟩ := (r2.out.below hw.out).lp hlt
        subst e1
        have hst := hide (lfit_step 8 ts i t ht)
        have HF := hide (fun w => FT.out i t ht w)
        clear ht
        rcases hf : lfit 8 (ts.take i) with _ | _
        · rw [hf] at hst
          clear hf HF
          go_wp2_with fail
          go_roundw
          case rel => exact ⟨i + 1, by omega, by go_num, by rw [hst.out]; rfl, hw⟩
          case measure => simp [intOf]; omega
        · rw [hf, Bool.true_and] at hst
          clear hf
          go_wp2_with fail
          refine (HF.out _).mono ?_
          rintro e w' ⟨rfl, rfl⟩
          go_wp2_with fail
          go_roundw
          case rel => exact ⟨i + 1, by omega, by go_num, by rw [hst.out]; rfl, hw⟩
          case measure => simp [intOf]; omega
      · obtain rfl : i = n2 := by omega
        have hts : ts.take i = ts := List.take_of_length_le (by rw [l2.out]; exact Nat.le_refl _)
        rw [hts]
        clear hts
        have h1 := hw.out
        replace hb := hide (bel_next hb.out h1)
        replace r1 := hide (r1.out.below h1)
        replace r2 := hide (r2.out.below h1)
        clear h1 hw
        go_wp2_with fail
        refine (E.out _ _ _ nil2.out r2.out).mono ?_
        rintro e w3 ⟨A3, c3, rfl, o3, h1⟩
        replace hb := hide (bel_next hb.out h1)
        replace r1 := hide (r1.out.below h1)
        replace r2 := hide (r2.out.below h1)
        clear h1
        have oc3 := o3.cap
        have om3 : c3 ≤ 9223372036854775807 := by have := o3.capMax; simp [maxLen] at this; omega
        have nil3 := hide o3.nilcap
        replace o3 := hide o3
        go_wp2_with fail
        refine (D.out _ _ _ nil3.out oc3 om3 o3.out.rd).mono ?_
        rintro e w4 ⟨A4, c4, rfl, o4, h1⟩
        replace hb := hide (bel_next hb.out h1)
        replace r1 := hide (r1.out.below h1)
        replace r2 := hide (r2.out.below h1)
        replace o3 := hide (o3.out.below h1)
        clear h1
        replace o4 := hide o4
        clear o3
        go_wp2_with fail
        refine (S6.out _ _ _ _ _ o4.out.rd r2.out).mono ?_
        rintro e w5 ⟨rfl, h1⟩
        replace hb := hide (bel_next hb.out h1)
        replace r1 := hide (r1.out.below h1)
        replace r2 := hide (r2.out.below h1)
        replace o4 := hide (o4.out.below h1)
        clear h1
        clear o4
        replace FI := FI.out
        generalize lfit 8 ts = fi at *
        cases fi
        · go_wp2_with fail
          rw [show n1 / 12 * 12 = N by rw [hN.out, hm.out]]
          refine (D2.out _ _ _ nil1.out oc1 om1 r1.out).mono ?_
          rintro e w8 ⟨A8, c8, rfl, o8, h1⟩
          replace hb := hide (bel_next hb.out h1)
          replace r1 := hide (r1.out.below h1)
          clear h1
          have nil8 := hide o8.nilcap
          replace o8 := hide o8
          go_wp2_with fail
          refine (E2.out _ _ _ nil8.out o8.out.rd).mono ?_
          rintro e w10 ⟨A10, c10, rfl, o10, h1⟩
          replace hb := hide (bel_next hb.out h1)
          replace r1 := hide (r1.out.below h1)
          replace o8 := hide (o8.out.below h1)
          clear h1
          replace o10 := hide o10
          go_wp2_with fail
          refine (S8.out _ _ _ _ _ o10.out.rd r1.out).mono ?_
          rintro e w11 ⟨rfl, h1⟩
          replace hb := hide (bel_next hb.out h1)
          replace r1 := hide (r1.out.below h1)
          replace o8 := hide (o8.out.below h1)
          replace o10 := hide (o10.out.below h1)
          clear h1
          go_wp2
          go_ret
          exact ⟨rfl, hb.out⟩
        · go_wp2_with fail
          rw [show n1 / 12 * 12 = N by rw [hN.out, hm.out]]
          refine (D2.out _ _ _ nil1.out oc1 om1 r1.out).mono ?_
          rintro e w8 ⟨A8, c8, rfl, o8, h1⟩
          replace hb := hide (bel_next hb.out h1)
          replace r1 := hide (r1.out.below h1)
          clear h1
          have nil8 := hide o8.nilcap
          replace o8 := hide o8
          go_wp2_with fail
          refine (E2.out _ _ _ nil8.out o8.out.rd).mono ?_
          rintro e w10 ⟨A10, c10, rfl, o10, h1⟩
          replace hb := hide (bel_next hb.out h1)
          replace r1 := hide (r1.out.below h1)
          replace o8 := hide (o8.out.below h1)
          clear h1
          replace o10 := hide o10
          go_wp2_with fail
          refine (S8.out _ _ _ _ _ o10.out.rd r1.out).mono ?_
          rintro e w11 ⟨rfl, h1⟩
          replace hb := hide (bel_next hb.out h1)
          replace r1 := hide (r1.out.below h1)
          replace o8 := hide (o8.out.below h1)
          replace o10 := hide (o10.out.below h1)
          clear h1
          go_wp2
          go_ret
          exact ⟨rfl, hb.out⟩
end l17_
end Go.Proofs.Ytickchkcfaggfaa
