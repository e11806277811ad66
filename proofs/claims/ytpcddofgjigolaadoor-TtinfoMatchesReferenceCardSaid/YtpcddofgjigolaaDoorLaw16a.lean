/-
  THE WALKS OF THE LAWS OF LAYER 16 (zoneinfolaw16): TtinfoMatchesReference. No conditions.
-/
import Derived.Test.YtpcddofgjigolaaDoorLaw16
import Derived.Test.YtpcddofgjigolaaDoorTw
namespace Go.Proofs.YtpcddofgjigolaaDoor
open Go.ChangeShapes Go.WideShapes Go.ChangeAt Go.RowKit
set_option linter.unusedVariables false
set_option maxRecDepth 100000
namespace l16_
set_option maxHeartbeats 8000000 in
theorem mref (A1 : Option Addr) (n1 c1 : Nat) (z1 : List Int) (A2 : Option Addr) (n2 c2 : Nat) (ts : List TT) (v : Int) (str : ByteArray) (w : World) (hT : Tt w) (h1 : IsRw .u8 w A1 n1 c1 z1) (h2 : IsTw w A2 n2 c2 ts) (hv : (Lit.int .i64 v).wf = true) (hs : str.size ≤ maxLen) :
    Calls Tryd.prog 3 #[.slice A1 n1 c1, .slice A2 n2 c2, .int .i64 v, .string str] w fun e w' => e = .returned (.bool true) ∧ Below w.heap.size w w' := by
  have HT := hide hT
  clear hT
  obtain ⟨v0, v1⟩ := wf_i64 hv
  clear hv hs
  have r1 := h1.rd
  have nil1 := h1.nil
  have B1 : Bytes (z1.take n1) := bytes_of_mem fun t ht => wf_u8 (h1.wf t ht)
  obtain ⟨ca1, om1⟩ := h1.cap
  obtain ⟨nil2, ca2, om2, r2, B2⟩ := h2
  replace nil2 := hide nil2
  clear h1
  obtain ⟨xs, hxs⟩ : ∃ xs, xs = z1.take n1 := ⟨_, rfl⟩
  rw [← hxs] at r1 B1
  clear hxs
  have hb := hide (Below.refl w.heap.size w)
  by_cases hn : 1000 < n1
  · have hn' : (1000 : Int) < n1 := by omega
    clear r1 r2 B1 B2
    go_enter Tryd.func3, Tryd.ntmps3
    go_wp2_with fail
    refine (awake _ (HT.out.below hb.out)).mono ?_
    rintro e w1 ⟨rfl, h1⟩
    replace hb := hide (bel_next hb.out h1)
    clear h1
    go_wp2_with fail
    refine (awake _ (HT.out.below hb.out)).mono ?_
    rintro e w9 ⟨rfl, h1⟩
    replace hb := hide (bel_next hb.out h1)
    clear h1
    go_wp2
    go_ret
    exact ⟨rfl, hb.out⟩
  by_cases hn2 : 100 < n2
  · have hn' : (100 : Int) < n2 := by omega
    clear r1 r2 B1 B2
    go_enter Tryd.func3, Tryd.ntmps3
    go_wp2_with fail
    refine (awake _ (HT.out.below hb.out)).mono ?_
    rintro e w1 ⟨rfl, h1⟩
    replace hb := hide (bel_next hb.out h1)
    clear h1
    go_wp2_with fail
    refine (awake _ (HT.out.below hb.out)).mono ?_
    rintro e w9 ⟨rfl, h1⟩
    replace hb := hide (bel_next hb.out h1)
    clear h1
    go_wp2
    go_ret
    exact ⟨rfl, hb.out⟩
  have k1 : (n1 : Int) ≤ 1000 := by omega
  have k2 : (n2 : Int) ≤ 100 := by omega
  replace r2 := hide r2
  obtain ⟨m, hm⟩ : ∃ m : Nat, m = n1 / 6 := ⟨_, rfl⟩
  obtain ⟨N, hN⟩ : ∃ N : Nat, N = m * 6 := ⟨_, rfl⟩
  have hNn : N ≤ n1 := by omega
  replace r1 := hide (show Rd w A1 N ((xs.take N).map (Value.int .u8)) by rw [List.map_take]; exact r1.take hNn)
  have oc1 : N ≤ c1 := by omega
  replace nil1 := hide (show A1 = none → N = 0 ∧ c1 = 0 from fun h => by have := nil1 h; omega)
  have D := hide (fun A c w hT hA hc hcm hr => tt_.Decode A N c m (xs.take N) w hT (by omega) hN hA hc hcm hr (B1.take N))
  have D' := hide (fun A c w hA hc hcm hr => r16_.Decode A N c m (xs.take N) w (by omega) hN hA hc hcm hr (B1.take N))
  have E := hide (fun A c w hA hr => tt_.Encode A n2 c (n2 * 6) ts w (by omega) rfl hA hr B2)
  have E' := hide (fun A c w hA hr => r16_.Encode A n2 c (n2 * 6) ts w (by omega) rfl hA hr B2)
  have X := hide (fun A c w hA hr => tt_.Check A n2 c ts v w (by omega) hA hr B2 v0 v1)
  have X' := hide (fun A c w hr => r16_.Check A n2 c ts v w (by omega) hr B2)
  have P := hide (fun o d x w => tt_.Placeholder o d x str w)
  have P' := hide (fun o d x w => r16_.Placeholder o d x str w)
  generalize dTT (xs.take N) m = dd at D D'
  generalize fl6 (xs.take N) m = ff at D D'
  generalize eTT ts = ee at E E'
  generalize chk ts v = cv at X X'
  have S6 := hide (fun A A' c c' w hr hr' => r16_.Same A A' m m c c' dd dd w (by omega) (by omega) hr hr')
  simp only [decide_true] at S6
  have S0 := hide (fun w => r16_.Same none none 0 0 0 0 [] [] w (by omega) (by omega) (Rk.none_ 3 w) (Rk.none_ 3 w))
  simp only [decide_true] at S0
  have S8 := hide (fun A A' c c' w hr hr' => r1_.Same A A' (n2 * 6) c (n2 * 6) c' ee w (by omega) hr hr')
  clear B1 B2
  replace hm := hide hm
  replace hN := hide hN
  go_enter Tryd.func3, Tryd.ntmps3
  go_wp2_with fail
  refine (awake _ (HT.out.below hb.out)).mono ?_
  rintro e w1 ⟨rfl, h1⟩
  replace hb := hide (bel_next hb.out h1)
  replace r1 := hide (r1.out.below h1)
  replace r2 := hide (r2.out.below h1)
  clear h1
  go_wp2_with fail
  rw [show n1 / 6 * 6 = N by rw [hN.out, hm.out]]
  refine (D.out _ _ _ (HT.out.below hb.out) nil1.out oc1 om1 r1.out).mono ?_
  rintro e w3 ⟨⟨hf, A3, c3, rfl, o3⟩ | ⟨hf, rfl⟩, h1⟩
  · replace hb := hide (bel_next hb.out h1)
    replace r1 := hide (r1.out.below h1)
    replace r2 := hide (r2.out.below h1)
    clear h1
    replace hf := hide hf
    replace o3 := hide o3
    go_wp2_with fail
    refine (D'.out _ _ _ nil1.out oc1 om1 r1.out).mono ?_
    rintro e w4 ⟨⟨-, A4, c4, rfl, o4⟩ | ⟨h, -⟩, h1⟩
    rotate_left
    · rw [hf.out] at h; cases h
    replace hb := hide (bel_next hb.out h1)
    replace r1 := hide (r1.out.below h1)
    replace r2 := hide (r2.out.below h1)
    replace o3 := hide (o3.out.below h1)
    clear h1
    replace o4 := hide o4
    go_wp2_with fail
    refine (S6.out _ _ _ _ _ o3.out.rd o4.out.rd).mono ?_
    rintro e w5 ⟨rfl, h1⟩
    replace hb := hide (bel_next hb.out h1)
    replace r1 := hide (r1.out.below h1)
    replace r2 := hide (r2.out.below h1)
    replace o3 := hide (o3.out.below h1)
    replace o4 := hide (o4.out.below h1)
    clear h1
    clear o3 o4
    go_wp2_with fail
    refine (E.out _ _ _ nil2.out r2.out).mono ?_
    rintro e w6 ⟨A6, c6, rfl, o6, h1⟩
    replace hb := hide (bel_next hb.out h1)
    replace r1 := hide (r1.out.below h1)
    replace r2 := hide (r2.out.below h1)
    clear h1
    replace o6 := hide o6
    go_wp2_with fail
    refine (E'.out _ _ _ nil2.out r2.out).mono ?_
    rintro e w7 ⟨A7, c7, rfl, o7, h1⟩
    replace hb := hide (bel_next hb.out h1)
    replace r1 := hide (r1.out.below h1)
    replace r2 := hide (r2.out.below h1)
    replace o6 := hide (o6.out.below h1)
    clear h1
    replace o7 := hide o7
    go_wp2_with fail
    refine (S8.out _ _ _ _ _ o6.out.rd o7.out.rd).mono ?_
    rintro e w8 ⟨rfl, h1⟩
    replace hb := hide (bel_next hb.out h1)
    replace r1 := hide (r1.out.below h1)
    replace r2 := hide (r2.out.below h1)
    replace o6 := hide (o6.out.below h1)
    replace o7 := hide (o7.out.below h1)
    clear h1
    clear o6 o7
    go_wp2_with fail
    refine (X.out _ _ _ nil2.out r2.out).mono ?_
    rintro e w10 ⟨rfl, h1⟩
    replace hb := hide (bel_next hb.out h1)
    replace r1 := hide (r1.out.below h1)
    replace r2 := hide (r2.out.below h1)
    clear h1
    go_wp2_with fail
    refine (X'.out _ _ _ r2.out).mono ?_
    rintro e w11 ⟨rfl, h1⟩
    replace hb := hide (bel_next hb.out h1)
    replace r1 := hide (r1.out.below h1)
    replace r2 := hide (r2.out.below h1)
    clear h1
    go_wp2_with fail
    go_loopw [14] (fun i wr => ∃ k : Nat, k ≤ n2 ∧ i = .int .i64 (k : Nat) ∧ Hid (Below w11.heap.size w11 wr)) (fun i _ => n2 - (intOf i).toNat)
    case atStart => exact ⟨0, by omega, rfl, hide (bl_refl _)⟩
    case round =>
      obtain ⟨k, hk, rfl, hw⟩ := hrel
      by_cases hlt : k < n2
      · have rr := hide (r2.out.below hw.out)
        obtain ⟨ad, ⟨o, d, x⟩, e1, ht, h0, h1', h2'⟩ := rr.out.tt hlt
        subst e1
        dsimp only at h0 h1' h2'
        have Q := hide (fun w => P.out o d x w)
        have Q' := hide (fun w => P'.out o d x w)
        generalize (decide (str.data.toList = [45, 48, 48]) && (decide (o = 0) && !d)) = pq at Q Q'
        clear ht
        go_wp2_with fail
        go_region_held3 (fun w' => w'.cell? (ad.add (k * 3)) = some (.int .i32 o) ∧ w'.cell? ⟨(ad.add (k * 3)).block, (ad.add (k * 3)).off + 1, none⟩ = some (.bool d) ∧ w'.cell? ⟨(ad.add (k * 3)).block, (ad.add (k * 3)).off + 2, none⟩ = some (.int .u8 x) ∧ Hid (Below w11.heap.size w11 w'))
          (first
            | exact ⟨h0, h1', h2', by first | exact hw | exact hide (bl_drew hw.out)⟩
            | (go_split_ands; refine ⟨?_, ?_, ?_, ?_⟩ <;> first | exact cellE h1 (by assumption) | exact hide (bel_next (Hid.out (by assumption)) h1)))
          (first
            | (go_at_call 16; go_split_ands; refine (Q.out _).mono ?_; rintro e w6 ⟨rfl, h1⟩)
            | (go_at_call 17; go_split_ands; refine (Q'.out _).mono ?_; rintro e w6 ⟨rfl, h1⟩))
        all_goals
          clear hw rr h0 h1' h2' Q Q'
          go_split_ands
          rename Hid (Below _ _ _) => hw
          cases pq
          all_goals
            go_wp2_with fail
            go_roundw
            case rel => exact ⟨k + 1, by omega, by go_num, hw⟩
            case measure => simp [intOf]; omega
      · obtain rfl : k = n2 := by omega
        go_wp2
        go_ret
        exact ⟨rfl, bel_next hb.out hw.out⟩
  · replace hb := hide (bel_next hb.out h1)
    replace r1 := hide (r1.out.below h1)
    replace r2 := hide (r2.out.below h1)
    clear h1
    replace hf := hide hf
    go_wp2_with fail
    refine (D'.out _ _ _ nil1.out oc1 om1 r1.out).mono ?_
    rintro e w4 ⟨⟨h, -⟩ | ⟨-, rfl⟩, h1⟩
    · rw [hf.out] at h; cases h
    replace hb := hide (bel_next hb.out h1)
    replace r1 := hide (r1.out.below h1)
    replace r2 := hide (r2.out.below h1)
    clear h1
    go_wp2_with fail
    refine (S0.out _).mono ?_
    rintro e w5 ⟨rfl, h1⟩
    replace hb := hide (bel_next hb.out h1)
    replace r1 := hide (r1.out.below h1)
    replace r2 := hide (r2.out.below h1)
    clear h1
    go_wp2_with fail
    refine (E.out _ _ _ nil2.out r2.out).mono ?_
    rintro e w6 ⟨A6, c6, rfl, o6, h1⟩
    replace hb := hide (bel_next hb.out h1)
    replace r1 := hide (r1.out.below h1)
    replace r2 := hide (r2.out.below h1)
    clear h1
    replace o6 := hide o6
    go_wp2_with fail
    refine (E'.out _ _ _ nil2.out r2.out).mono ?_
    rintro e w7 ⟨A7, c7, rfl, o7, h1⟩
    replace hb := hide (bel_next hb.out h1)
    replace r1 := hide (r1.out.below h1)
    replace r2 := hide (r2.out.below h1)
    replace o6 := hide (o6.out.below h1)
    clear h1
    replace o7 := hide o7
    go_wp2_with fail
    refine (S8.out _ _ _ _ _ o6.out.rd o7.out.rd).mono ?_
    rintro e w8 ⟨rfl, h1⟩
    replace hb := hide (bel_next hb.out h1)
    replace r1 := hide (r1.out.below h1)
    replace r2 := hide (r2.out.below h1)
    replace o6 := hide (o6.out.below h1)
    replace o7 := hide (o7.out.below h1)
    clear h1
    clear o6 o7
    go_wp2_with fail
    refine (X.out _ _ _ nil2.out r2.out).mono ?_
    rintro e w10 ⟨rfl, h1⟩
    replace hb := hide (bel_next hb.out h1)
    replace r1 := hide (r1.out.below h1)
    replace r2 := hide (r2.out.below h1)
    clear h1
    go_wp2_with fail
    refine (X'.out _ _ _ r2.out).mono ?_
    rintro e w11 ⟨rfl, h1⟩
    replace hb := hide (bel_next hb.out h1)
    replace r1 := hide (r1.out.below h1)
    replace r2 := hide (r2.out.below h1)
    clear h1
    go_wp2_with fail
    go_loopw [14] (fun i wr => ∃ k : Nat, k ≤ n2 ∧ i = .int .i64 (k : Nat) ∧ Hid (Below w11.heap.size w11 wr)) (fun i _ => n2 - (intOf i).toNat)
    case atStart => exact ⟨0, by omega, rfl, hide (bl_refl _)⟩
    case round =>
      obtain ⟨k, hk, rfl, hw⟩ := hrel
      by_cases hlt : k < n2
      · have rr := hide (r2.out.below hw.out)
        obtain ⟨ad, ⟨o, d, x⟩, e1, ht, h0, h1', h2'⟩ := rr.out.tt hlt
        subst e1
        dsimp only at h0 h1' h2'
        have Q := hide (fun w => P.out o d x w)
        have Q' := hide (fun w => P'.out o d x w)
        generalize (decide (str.data.toList = [45, 48, 48]) && (decide (o = 0) && !d)) = pq at Q Q'
        clear ht
        go_wp2_with fail
        go_region_held3 (fun w' => w'.cell? (ad.add (k * 3)) = some (.int .i32 o) ∧ w'.cell? ⟨(ad.add (k * 3)).block, (ad.add (k * 3)).off + 1, none⟩ = some (.bool d) ∧ w'.cell? ⟨(ad.add (k * 3)).block, (ad.add (k * 3)).off + 2, none⟩ = some (.int .u8 x) ∧ Hid (Below w11.heap.size w11 w'))
          (first
            | exact ⟨h0, h1', h2', by first | exact hw | exact hide (bl_drew hw.out)⟩
            | (go_split_ands; refine ⟨?_, ?_, ?_, ?_⟩ <;> first | exact cellE h1 (by assumption) | exact hide (bel_next (Hid.out (by assumption)) h1)))
          (first
            | (go_at_call 16; go_split_ands; refine (Q.out _).mono ?_; rintro e w6 ⟨rfl, h1⟩)
            | (go_at_call 17; go_split_ands; refine (Q'.out _).mono ?_; rintro e w6 ⟨rfl, h1⟩))
        all_goals
          clear hw rr h0 h1' h2' Q Q'
          go_split_ands
          rename Hid (Below _ _ _) => hw
          cases pq
          all_goals
            go_wp2_with fail
            go_roundw
            case rel => exact ⟨k + 1, by omega, by go_num, hw⟩
            case measure => simp [intOf]; omega
      · obtain rfl : k = n2 := by omega
        go_wp2
        go_ret
        exact ⟨rfl, bel_next hb.out hw.out⟩
end l16_
end Go.Proofs.YtpcddofgjigolaaDoor
