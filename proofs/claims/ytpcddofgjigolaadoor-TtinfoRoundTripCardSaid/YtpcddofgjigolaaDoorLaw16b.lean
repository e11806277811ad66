/-
  THE WALKS OF THE LAWS OF LAYER 16 (zoneinfolaw16): TtinfoRoundTrip. No conditions.
-/
import Derived.Test.YtpcddofgjigolaaDoorLaw16
import Derived.Test.YtpcddofgjigolaaDoorTw
namespace Go.Proofs.YtpcddofgjigolaaDoor
open Go.ChangeShapes Go.WideShapes Go.ChangeAt Go.RowKit
set_option linter.unusedVariables false
set_option maxRecDepth 100000
namespace l16_
set_option maxHeartbeats 8000000 in
theorem roundTrip (A2 : Option Addr) (n2 c2 : Nat) (ts : List TT) (A1 : Option Addr) (n1 c1 : Nat) (z1 : List Int) (w : World) (hT : Tt w) (h2 : IsTw w A2 n2 c2 ts) (h1 : IsRw .u8 w A1 n1 c1 z1) :
    Calls Tryd.prog 4 #[.slice A2 n2 c2, .slice A1 n1 c1] w fun e w' => e = .returned (.bool true) ∧ Below w.heap.size w w' := by
  have HT := hide hT
  clear hT
  have r1 := h1.rd
  have nil1 := h1.nil
  have B1 : Bytes (z1.take n1) := bytes_of_mem fun t ht => wf_u8 (h1.wf t ht)
  obtain ⟨ca1, om1⟩ := h1.cap
  have l2 := h2.len
  obtain ⟨nil2, ca2, om2, r2, B2⟩ := h2
  replace nil2 := hide nil2
  clear h1
  obtain ⟨xs0, hxs⟩ : ∃ xs, xs = z1.take n1 := ⟨_, rfl⟩
  rw [← hxs] at r1 B1
  clear hxs
  have l1 : xs0.length = n1 := by have := r1.len; simpa using this
  have hb := hide (Below.refl w.heap.size w)
  by_cases hn : 1000 < n1
  · have hn' : (1000 : Int) < n1 := by omega
    clear r1 r2 B1 B2 l1 l2
    go_enter Tryd.func4, Tryd.ntmps4
    go_wp2_with fail
    refine (awake _ (HT.out.below hb.out)).mono ?_
    rintro e w1 ⟨rfl, h1⟩
    replace hb := hide (bel_next hb.out h1)
    clear h1
    go_wp2_with fail
    refine (awake _ (HT.out.below hb.out)).mono ?_
    rintro e w9 ⟨rfl, h1⟩
    replace hb := hide (bel_next hb.out h1)
    clear h1
    go_wp2
    go_ret
    exact ⟨rfl, hb.out⟩
  by_cases hn2 : 100 < n2
  · have hn' : (100 : Int) < n2 := by omega
    clear r1 r2 B1 B2 l1 l2
    go_enter Tryd.func4, Tryd.ntmps4
    go_wp2_with fail
    refine (awake _ (HT.out.below hb.out)).mono ?_
    rintro e w1 ⟨rfl, h1⟩
    replace hb := hide (bel_next hb.out h1)
    clear h1
    go_wp2_with fail
    refine (awake _ (HT.out.below hb.out)).mono ?_
    rintro e w9 ⟨rfl, h1⟩
    replace hb := hide (bel_next hb.out h1)
    clear h1
    go_wp2
    go_ret
    exact ⟨rfl, hb.out⟩
  have k1 : (n1 : Int) ≤ 1000 := by omega
  have k2 : (n2 : Int) ≤ 100 := by omega
  replace r2 := hide r2
  obtain ⟨m, hm⟩ : ∃ m : Nat, m = n1 / 6 := ⟨_, rfl⟩
  obtain ⟨N, hN⟩ : ∃ N : Nat, N = m * 6 := ⟨_, rfl⟩
  have hNn : N ≤ n1 := by omega
  have r1 := hide (show Rd w A1 N ((xs0.take N).map (Value.int .u8)) by rw [List.map_take]; exact r1.take hNn)
  have oc1 : N ≤ c1 := by omega
  replace nil1 := hide (show A1 = none → N = 0 ∧ c1 = 0 from fun h => by have := nil1 h; omega)
  replace B1 := B1.take N
  have lx : (xs0.take N).length = N := by rw [List.length_take, l1]; omega
  generalize xs0.take N = xs at *
  have el : (eTT ts).length = n2 * 6 := by rw [eTT_len, l2]
  have de := dTT_e B2
  rw [l2] at de
  have E := hide (fun A c w hA hr => tt_.Encode A n2 c (n2 * 6) ts w (by omega) rfl hA hr B2)
  have D := hide (fun A c w hT hA hc hcm hr => tt_.Decode A (n2 * 6) c n2 (eTT ts) w hT (by omega) rfl hA hc hcm hr (eTT_bytes B2))
  rw [de.1, de.2] at D
  generalize eTT ts = ee at E D
  have S6 := hide (fun A A' c c' w hr hr' => r16_.Same A A' n2 n2 c c' ts ts w (by omega) (by omega) hr hr')
  simp only [decide_true] at S6
  have D2 := hide (fun A c w hT hA hc hcm hr => tt_.Decode A N c m xs w hT (by omega) hN hA hc hcm hr B1)
  have E2 := hide (fun (hf : fl6 xs m = true) A c w hA hr => tt_.Encode A m c N (dTT xs m) w (by omega) hN hA hr (dTT_ok xs B1 m (by omega)))
  have eq2 : fl6 xs m = true → eTT (dTT xs m) = xs := fun h => by rw [eTT_d xs B1 m (by omega) h]; exact List.take_of_length_le (by omega)
  have E2 := hide (fun (hf : fl6 xs m = true) => by have := E2.out hf; rw [eq2 hf] at this; exact this)
  have S8 := hide (fun A A' c c' w hr hr' => r1_.Same A A' N c N c' xs w (by omega) hr hr')
  clear B1 B2 l1 l2 el de eq2 lx
  replace hm := hide hm
  replace hN := hide hN
  go_enter Tryd.func4, Tryd.ntmps4
  go_wp2_with fail
  refine (awake _ (HT.out.below hb.out)).mono ?_
  rintro e w1 ⟨rfl, h1⟩
  replace hb := hide (bel_next hb.out h1)
  replace r1 := hide (r1.out.below h1)
  replace r2 := hide (r2.out.below h1)
  clear h1
  go_wp2_with fail
  refine (E.out _ _ _ nil2.out r2.out).mono ?_
  rintro e w2 ⟨A2', c2', rfl, o2, h1⟩
  replace hb := hide (bel_next hb.out h1)
  replace r1 := hide (r1.out.below h1)
  replace r2 := hide (r2.out.below h1)
  clear h1
  have oc2 := o2.cap
  have om2' : c2' ≤ 9223372036854775807 := by have := o2.capMax; simp [maxLen] at this; omega
  have nil2' := hide o2.nilcap
  replace o2 := hide o2
  go_wp2_with fail
  refine (D.out _ _ _ (HT.out.below hb.out) nil2'.out oc2 om2' o2.out.rd).mono ?_
  rintro e w3 ⟨⟨-, A3, c3, rfl, o3⟩ | ⟨h, -⟩, h1⟩
  rotate_left
  · cases h
  replace hb := hide (bel_next hb.out h1)
  replace r1 := hide (r1.out.below h1)
  replace r2 := hide (r2.out.below h1)
  replace o2 := hide (o2.out.below h1)
  clear h1
  replace o3 := hide o3
  clear o2
  go_wp2_with fail
  refine (S6.out _ _ _ _ _ o3.out.rd r2.out).mono ?_
  rintro e w4 ⟨rfl, h1⟩
  replace hb := hide (bel_next hb.out h1)
  replace r1 := hide (r1.out.below h1)
  replace r2 := hide (r2.out.below h1)
  replace o3 := hide (o3.out.below h1)
  clear h1
  clear o3 r2
  go_upto_region 8 with fail
  rw [show n1 / 6 * 6 = N by rw [hN.out, hm.out]]
  go_wp2_with fail
  go_loopw [9, 10] (fun fl i wr => ∃ (q P : Nat), q ≤ m ∧ Hid (P = q * 6 + 4) ∧ i = .int .i64 (P : Int) ∧ fl = .bool (fl6 xs q) ∧ Hid (Below w4.heap.size w4 wr)) (fun _ i _ => m * 6 + 5 - (intOf i).toNat)
  case atStart => exact ⟨0, 4, by omega, hide rfl, rfl, rfl, hide (bl_refl _)⟩
  case round =>
    obtain ⟨q, P, hq, hP, rfl, rfl, hw⟩ := hrel
    by_cases hlt : q < m
    · have hPN : P < N := by rw [hN.out, hP.out]; omega
      obtain ⟨ad, e1, hc⟩ := (r1.out.below hw.out).int hPN
      subst e1
      have hst := fl6_step xs q
      rw [← hP.out] at hst
      have hP6 := hide (show P + 6 = (q + 1) * 6 + 4 by rw [hP.out]; omega)
      generalize xs[P]?.getD 0 = x at *
      rcases hf : fl6 xs q with _ | _
      · rw [hf, Bool.false_and] at hst
        have hs := hide hst
        clear hst hf
        go_wp2
        go_roundw
        case rel => exact ⟨q + 1, P + 6, by omega, hP6, by go_num, by rw [hs.out], hw⟩
        case measure => simp [intOf]; have := hP.out; omega
      · rw [hf, Bool.true_and] at hst
        have hs := hide hst
        clear hst hf
        go_wp2
        go_roundw
        case rel => exact ⟨q + 1, P + 6, by omega, hP6, by go_num, by rw [hs.out], hw⟩
        case measure => simp [intOf]; have := hP.out; omega
    · obtain rfl : q = m := by omega
      have hPN : ¬ P < N := by rw [hN.out, hP.out]; omega
      have h1 := hw.out
      replace hb := hide (bel_next hb.out h1)
      replace r1 := hide (r1.out.below h1)
      clear h1 hw
      rcases hf : fl6 xs q with _ | _
      · have hf' := hide hf
        clear hf
        go_wp2_with fail
        refine (D2.out _ _ _ (HT.out.below hb.out) nil1.out oc1 om1 r1.out).mono ?_
        rintro e w6 ⟨⟨h, -⟩ | ⟨-, rfl⟩, h1⟩
        · rw [hf'.out] at h; cases h
        replace hb := hide (bel_next hb.out h1)
        replace r1 := hide (r1.out.below h1)
        clear h1
        go_wp2
        go_ret
        exact ⟨rfl, hb.out⟩
      · have hf' := hide hf
        clear hf
        go_wp2_with fail
        refine (D2.out _ _ _ (HT.out.below hb.out) nil1.out oc1 om1 r1.out).mono ?_
        rintro e w6 ⟨⟨-, A6, c6, rfl, o6⟩ | ⟨h, -⟩, h1⟩
        rotate_left
        · rw [hf'.out] at h; cases h
        replace hb := hide (bel_next hb.out h1)
        replace r1 := hide (r1.out.below h1)
        clear h1
        have nil6 := hide o6.nilcap
        replace o6 := hide o6
        go_wp2_with fail
        refine (E2.out hf'.out _ _ _ nil6.out o6.out.rd).mono ?_
        rintro e w7 ⟨A7, c7, rfl, o7, h1⟩
        replace hb := hide (bel_next hb.out h1)
        replace r1 := hide (r1.out.below h1)
        replace o6 := hide (o6.out.below h1)
        clear h1
        replace o7 := hide o7
        clear o6
        go_wp2_with fail
        refine (S8.out _ _ _ _ _ o7.out.rd r1.out).mono ?_
        rintro e w8 ⟨rfl, h1⟩
        replace hb := hide (bel_next hb.out h1)
        replace r1 := hide (r1.out.below h1)
        replace o7 := hide (o7.out.below h1)
        clear h1
        go_wp2
        go_ret
        exact ⟨rfl, hb.out⟩
end l16_
end Go.Proofs.YtpcddofgjigolaaDoor
