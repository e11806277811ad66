/-
  THE WALKS OF THE LAWS OF LAYER 15 (zoneinfolaw15): TransitionsConcatenate. No conditions.
-/
import Derived.Test.YtknnobpnfnajiaaLaw15
namespace Go.Proofs.Ytknnobpnfnajiaa
open Go.ChangeShapes Go.WideShapes Go.ChangeAt Go.RowKit
set_option linter.unusedVariables false
set_option maxRecDepth 100000
namespace l15_
set_option maxHeartbeats 8000000 in
theorem concatenate (A1 : Option Addr) (n1 c1 : Nat) (z1 : List Int) (A2 : Option Addr) (n2 c2 : Nat) (z2 : List Int) (wide : Bool) (w : World) (h1 : IsRw .i64 w A1 n1 c1 z1) (h2 : IsRw .i64 w A2 n2 c2 z2) :
    Calls Try.prog 6 #[.slice A1 n1 c1, .slice A2 n2 c2, .bool wide] w fun e w' => e = .returned (.bool true) ∧ Below w.heap.size w w' := by
  have r1 := hide h1.rd
  have r2 := hide h2.rd
  have nil1 := hide h1.nil
  have nil2 := hide h2.nil
  have B1 : ∀ v ∈ z1.take n1, -9223372036854775808 ≤ v ∧ v < 9223372036854775808 := fun t ht => wf_i64 (h1.wf t ht)
  have B2 : ∀ v ∈ z2.take n2, -9223372036854775808 ≤ v ∧ v < 9223372036854775808 := fun t ht => wf_i64 (h2.wf t ht)
  clear h1 h2
  obtain ⟨xs, hxs⟩ : ∃ xs, xs = z1.take n1 := ⟨_, rfl⟩
  obtain ⟨ys, hys⟩ : ∃ ys, ys = z2.take n2 := ⟨_, rfl⟩
  rw [← hxs] at r1 B1
  rw [← hys] at r2 B2
  clear hxs hys
  have hb := hide (Below.refl w.heap.size w)
  have Z := fun b w => r14_.Size b w
  by_cases hn : 100 < n1
  · have hn' : (100 : Int) < n1 := by omega
    clear r1 r2 B1 B2
    go_enter Try.func6, Try.ntmps6
    go_wp2_with fail
    refine (awake _).mono ?_
    rintro e w1 ⟨rfl, h1⟩
    replace hb := hide (bel_next hb.out h1)
    clear h1
    go_wp2_with fail
    refine (awake _).mono ?_
    rintro e w9 ⟨rfl, h1⟩
    replace hb := hide (bel_next hb.out h1)
    clear h1
    go_wp2
    go_ret
    exact ⟨rfl, hb.out⟩
  by_cases hn2 : 100 < n2
  · have hn' : (100 : Int) < n2 := by omega
    clear r1 r2 B1 B2
    go_enter Try.func6, Try.ntmps6
    go_wp2_with fail
    refine (awake _).mono ?_
    rintro e w1 ⟨rfl, h1⟩
    replace hb := hide (bel_next hb.out h1)
    clear h1
    go_wp2_with fail
    refine (awake _).mono ?_
    rintro e w9 ⟨rfl, h1⟩
    replace hb := hide (bel_next hb.out h1)
    clear h1
    go_wp2
    go_ret
    exact ⟨rfl, hb.out⟩
  have k1 : (n1 : Int) ≤ 100 := by omega
  have k2 : (n2 : Int) ≤ 100 := by omega
  cases wide with
  | false =>
    have Z1 := Z false
    rw [show (if (false : Bool) = true then (8 : Int) else 4) = 4 from rfl] at Z1
    clear Z
    obtain ⟨p1, hp1⟩ : ∃ p1, p1 = 4 * n1 := ⟨_, rfl⟩
    obtain ⟨p2, hp2⟩ : ∃ p2, p2 = 4 * n2 := ⟨_, rfl⟩
    have B12 : ∀ v ∈ xs ++ ys, -9223372036854775808 ≤ v ∧ v < 9223372036854775808 := fun v hv => (List.mem_append.1 hv).elim (B1 v) (B2 v)
    have E1 := hide (fun A c w hA hr => tr_.Encode A n1 c p1 xs 4 4 w rfl (.inl rfl) (by omega) hp1 hA hr B1)
    have E2 := hide (fun A c w hA hr => tr_.Encode A n2 c p2 ys 4 4 w rfl (.inl rfl) (by omega) hp2 hA hr B2)
    have E3 := hide (fun A c w hA hr => tr_.Encode A (n1 + n2) c (p1 + p2) (xs ++ ys) 4 4 w rfl (.inl rfl) (by omega) (by omega) hA hr B12)
    have Db := hide ((eT_bytes 4 xs).app (eT_bytes 4 ys))
    have D := hide (fun A c w hA hc hcm hr => tr_.Decode A (p1 + p2) c (n1 + n2) (eT 4 xs ++ eT 4 ys) 4 4 w rfl (.inl rfl) (by omega) (by omega) hA hc hcm hr Db.out)
    rw [eT_app] at E3
    generalize eT 4 xs = ex at *
    generalize eT 4 ys = ey at *
    generalize dT 4 (ex ++ ey) (n1 + n2) = dd at D
    have S := hide (fun A A' c c' w hr hr' => r1_.Same A A' (p1 + p2) c (p1 + p2) c' (ex ++ ey) w (by omega) hr hr')
    have S' := S
    have O1 := hide (oneCells .i64 xs)
    have O2 := hide (oneCells .i64 ys)
    have O3 := hide (oneCells .u8 ex)
    have O4 := hide (oneCells .u8 ey)
    have q1 : p1 ≤ 800 := by omega
    have q2 : p2 ≤ 800 := by omega
    clear B1 B2 B12 Db hp1 hp2
    go_enter Try.func6, Try.ntmps6
    go_wp2_with fail
    refine (awake _).mono ?_
    rintro e w1 ⟨rfl, h1⟩
    replace hb := hide (bel_next hb.out h1)
    replace r1 := hide (r1.out.below h1)
    replace r2 := hide (r2.out.below h1)
    clear h1
    go_wp2_with fail
    refine (Z1 _).mono ?_
    rintro e w2 ⟨rfl, rfl⟩
    go_upto_region 4 with fail
    have hoE := hide (show Ow (w1.alloc (.cells #[] 2)) w1.heap.size 2 (some ⟨w1.heap.size, 0, none⟩) 0 0 [] from Ow.lit w1 2 [] (by decide))
    have hbE := hide (bl_new w1 (.cells #[] 2))
    have rE := hide (r1.out.alloc (.cells #[] 2))
    have rF := hide r2.out
    have mx1 := hide (show 0 + n1 ≤ maxLen by simp [maxLen]; omega)
    have mx2 := hide (show (0 + n1) * 8 ≤ 140737488355328 by omega)
    have mx3 := hide (show n1 + n2 ≤ maxLen by simp [maxLen]; omega)
    have mx4 := hide (show (n1 + n2) * 8 ≤ 140737488355328 by omega)
    go_upto_region 5 with (at_builtin; first | (refine apA elI64 hoE.out hbE.out (Nat.le_refl _) rE.out (.tmp 29) (.tmp 30) rfl rfl rfl rfl nil1.out O1.out mx1.out mx2.out ?_; intro A8 c8 w8 ho8 h8 _; rw [Nat.zero_add] at ho8 ⊢; rw [List.nil_append] at ho8; replace ho8 := hide ho8; replace h8 := hide h8) | (refine apA elI64 ho8.out h8.out (Nat.le_refl _) (rF.out.below h8.out) (.tmp 31) (.tmp 32) rfl rfl rfl rfl nil2.out O2.out mx3.out mx4.out ?_; intro A10 c10 w10 ho9 h9 _; replace ho9 := hide ho9; replace h9 := hide h9))
    replace h1 := h9.out
    replace hb := hide (bel_next hb.out h1)
    replace r1 := hide (r1.out.below h1)
    replace r2 := hide (r2.out.below h1)
    clear h1
    have o10 := ho9
    have nil10 := hide ho9.out.nilcap
    clear ho8 h8 hoE hbE rE rF mx1 mx2 mx3 mx4 ho9 h9
    go_wp2_with fail
    refine (E1.out _ _ _ nil1.out r1.out).mono ?_
    rintro e w11 ⟨A11, c11, rfl, o11, h1⟩
    replace hb := hide (bel_next hb.out h1)
    replace r1 := hide (r1.out.below h1)
    replace r2 := hide (r2.out.below h1)
    replace o10 := hide (o10.out.below h1)
    clear h1
    have nil11 := hide o11.nilcap
    replace o11 := hide o11
    clear r1
    go_wp2_with fail
    refine (E2.out _ _ _ nil2.out r2.out).mono ?_
    rintro e w12 ⟨A12, c12, rfl, o12, h1⟩
    replace hb := hide (bel_next hb.out h1)
    replace r2 := hide (r2.out.below h1)
    replace o10 := hide (o10.out.below h1)
    replace o11 := hide (o11.out.below h1)
    clear h1
    have nil12 := hide o12.nilcap
    replace o12 := hide o12
    clear r2
    have rx := hide o11.out.rd
    have ry := hide o12.out.rd
    go_upto_region 7 with fail
    have hoE := hide (show Ow (w12.alloc (.cells #[] 5)) w12.heap.size 5 (some ⟨w12.heap.size, 0, none⟩) 0 0 [] from Ow.lit w12 5 [] (by decide))
    have hbE := hide (bl_new w12 (.cells #[] 5))
    have rE := hide (rx.out.alloc (.cells #[] 5))
    have rF := hide ry.out
    have mx1 := hide (show 0 + p1 ≤ maxLen by simp [maxLen]; omega)
    have mx2 := hide (show (0 + p1) * 1 ≤ 140737488355328 by omega)
    have mx3 := hide (show p1 + p2 ≤ maxLen by simp [maxLen]; omega)
    have mx4 := hide (show (p1 + p2) * 1 ≤ 140737488355328 by omega)
    go_upto_region 8 with (at_builtin; first | (refine apA elU8 hoE.out hbE.out (Nat.le_refl _) rE.out (.tmp 40) (.tmp 41) rfl rfl rfl rfl nil11.out O3.out mx1.out mx2.out ?_; intro A8 c8 w8 ho8 h8 _; rw [Nat.zero_add] at ho8 ⊢; rw [List.nil_append] at ho8; replace ho8 := hide ho8; replace h8 := hide h8) | (refine apA elU8 ho8.out h8.out (Nat.le_refl _) (rF.out.below h8.out) (.tmp 42) (.tmp 43) rfl rfl rfl rfl nil12.out O4.out mx3.out mx4.out ?_; intro A13 c13 w13 ho9 h9 _; replace ho9 := hide ho9; replace h9 := hide h9))
    replace h1 := h9.out
    replace hb := hide (bel_next hb.out h1)
    replace o10 := hide (o10.out.below h1)
    replace o11 := hide (o11.out.below h1)
    replace o12 := hide (o12.out.below h1)
    replace rx := hide (rx.out.below h1)
    replace ry := hide (ry.out.below h1)
    clear h1
    have o13 := ho9
    have nil13 := hide ho9.out.nilcap
    clear ho8 h8 hoE hbE rE rF mx1 mx2 mx3 mx4 ho9 h9
    rw [← List.map_append] at o10 o13
    have oc13 := o13.out.cap
    have om13 : c13 ≤ 9223372036854775807 := by have := o13.out.capMax; simp [maxLen] at this; omega
    go_wp2_with fail
    refine (E3.out _ _ _ nil10.out o10.out.rd).mono ?_
    rintro e w14 ⟨A14, c14, rfl, o14, h1⟩
    replace hb := hide (bel_next hb.out h1)
    replace o10 := hide (o10.out.below h1)
    replace o11 := hide (o11.out.below h1)
    replace o12 := hide (o12.out.below h1)
    replace rx := hide (rx.out.below h1)
    replace ry := hide (ry.out.below h1)
    replace o13 := hide (o13.out.below h1)
    clear h1
    replace o14 := hide o14
    clear o10
    go_wp2_with fail
    refine (S.out _ _ _ _ _ o14.out.rd o13.out.rd).mono ?_
    rintro e w15 ⟨rfl, h1⟩
    replace hb := hide (bel_next hb.out h1)
    replace o11 := hide (o11.out.below h1)
    replace o12 := hide (o12.out.below h1)
    replace rx := hide (rx.out.below h1)
    replace ry := hide (ry.out.below h1)
    replace o13 := hide (o13.out.below h1)
    replace o14 := hide (o14.out.below h1)
    clear h1
    clear o14
    go_wp2_with fail
    refine (D.out _ _ _ nil13.out oc13 om13 o13.out.rd).mono ?_
    rintro e w16 ⟨A16, c16, rfl, o16, h16⟩
    have ob16 := o16.base
    rcases Nat.eq_zero_or_pos (n1 + n2) with hz | hz
    · replace h16 := hide h16
      clear ob16 o16
      rw [hz]
      go_wp2_with fail
      go_loopw [13] (fun i wr => i = .int .i64 0 ∧ Hid (Below w15.heap.size w15 wr)) (fun _ _ => 0)
      case atStart => exact ⟨rfl, h16⟩
      case round =>
        clear h16
        obtain ⟨rfl, hw⟩ := hrel
        have h1 := hw.out
        replace hb := hide (bel_next hb.out h1)
        replace o11 := hide (o11.out.below h1)
        replace o12 := hide (o12.out.below h1)
        replace rx := hide (rx.out.below h1)
        replace ry := hide (ry.out.below h1)
        replace o13 := hide (o13.out.below h1)
        clear h1
        clear hw
        go_upto_region 15 with fail
        have hoE := hide (show Ow (wr.alloc (.cells #[] 5)) wr.heap.size 5 (some ⟨wr.heap.size, 0, none⟩) 0 0 [] from Ow.lit wr 5 [] (by decide))
        have hbE := hide (bl_new wr (.cells #[] 5))
        have rE := hide (rx.out.alloc (.cells #[] 5))
        have rF := hide ry.out
        have mx1 := hide (show 0 + p1 ≤ maxLen by simp [maxLen]; omega)
        have mx2 := hide (show (0 + p1) * 1 ≤ 140737488355328 by omega)
        have mx3 := hide (show p1 + p2 ≤ maxLen by simp [maxLen]; omega)
        have mx4 := hide (show (p1 + p2) * 1 ≤ 140737488355328 by omega)
        go_wp2_with (at_builtin; first | (refine apA elU8 hoE.out hbE.out (Nat.le_refl _) rE.out (.tmp 64) (.tmp 65) rfl rfl rfl rfl nil11.out O3.out mx1.out mx2.out ?_; intro A8 c8 w8 ho8 h8 _; rw [Nat.zero_add] at ho8 ⊢; rw [List.nil_append] at ho8; replace ho8 := hide ho8; replace h8 := hide h8) | (refine apA elU8 ho8.out h8.out (Nat.le_refl _) (rF.out.below h8.out) (.tmp 66) (.tmp 67) rfl rfl rfl rfl nil12.out O4.out mx3.out mx4.out ?_; intro A20 c20 w20 ho9 h9 _; replace ho9 := hide ho9; replace h9 := hide h9))
        replace h1 := h9.out
        replace hb := hide (bel_next hb.out h1)
        replace o11 := hide (o11.out.below h1)
        replace o12 := hide (o12.out.below h1)
        replace rx := hide (rx.out.below h1)
        replace ry := hide (ry.out.below h1)
        replace o13 := hide (o13.out.below h1)
        clear h1
        have o20 := ho9
        have nil20 := hide ho9.out.nilcap
        clear ho8 h8 hoE hbE rE rF mx1 mx2 mx3 mx4 ho9 h9
        rw [← List.map_append] at o20
        refine (S'.out _ _ _ _ _ o13.out.rd o20.out.rd).mono ?_
        rintro e w21 ⟨rfl, h1⟩
        replace hb := hide (bel_next hb.out h1)
        replace o11 := hide (o11.out.below h1)
        replace o12 := hide (o12.out.below h1)
        replace rx := hide (rx.out.below h1)
        replace ry := hide (ry.out.below h1)
        replace o13 := hide (o13.out.below h1)
        replace o20 := hide (o20.out.below h1)
        clear h1
        go_wp2
        go_ret
        exact ⟨rfl, hb.out⟩
    · obtain ⟨g16, rfl, hg16, hg16'⟩ := o16.form hz
      replace o16 := hide o16
      replace h16 := hide h16
      clear ob16
      go_wp2_with fail
      go_loopw [13] (fun i wr => ∃ (k : Nat) (zs : List Value), k ≤ n1 + n2 ∧ i = .int .i64 (k : Nat) ∧ Hid (Ow wr w15.heap.size 2 (some ⟨g16, 0, none⟩) (n1 + n2) c16 zs) ∧ Hid (Below w15.heap.size w15 wr)) (fun i _ => n1 + n2 - (intOf i).toNat)
      case atStart => exact ⟨0, _, by omega, rfl, o16, h16⟩
      case round =>
        clear o16 h16
        obtain ⟨k, zs, hk, rfl, ho, hw⟩ := hrel
        by_cases hlt : k < n1 + n2
        · have hlz : zs.length = n1 + n2 := ho.out.len
          have hc : wr.cell? ⟨g16, k, none⟩ = some (zs[k]'(by omega)) := by rw [ho.out.cell k hlt, List.getElem?_eq_getElem (by omega)]
          have hf := ho.out.frozen k
          have ho2 := hide (ho.out.set k (.int .i64 7))
          have hw2 := hide (show Below w15.heap.size w15 (wr.setCell ⟨g16, k, none⟩ (.int .i64 7)) from bl_set hw.out hg16 (.int .i64 7))
          generalize zs[k]'(by omega) = v0 at hc
          clear hlz
          go_wp2_with fail
          go_roundw
          case rel => exact ⟨k + 1, _, by omega, by go_num, ho2, hw2⟩
          case measure => simp [intOf]; omega
        · obtain rfl : k = n1 + n2 := by omega
          have h1 := hw.out
          replace hb := hide (bel_next hb.out h1)
          replace o11 := hide (o11.out.below h1)
          replace o12 := hide (o12.out.below h1)
          replace rx := hide (rx.out.below h1)
          replace ry := hide (ry.out.below h1)
          replace o13 := hide (o13.out.below h1)
          clear h1
          clear ho hw
          go_upto_region 15 with fail
          have hoE := hide (show Ow (wr.alloc (.cells #[] 5)) wr.heap.size 5 (some ⟨wr.heap.size, 0, none⟩) 0 0 [] from Ow.lit wr 5 [] (by decide))
          have hbE := hide (bl_new wr (.cells #[] 5))
          have rE := hide (rx.out.alloc (.cells #[] 5))
          have rF := hide ry.out
          have mx1 := hide (show 0 + p1 ≤ maxLen by simp [maxLen]; omega)
          have mx2 := hide (show (0 + p1) * 1 ≤ 140737488355328 by omega)
          have mx3 := hide (show p1 + p2 ≤ maxLen by simp [maxLen]; omega)
          have mx4 := hide (show (p1 + p2) * 1 ≤ 140737488355328 by omega)
          go_wp2_with (at_builtin; first | (refine apA elU8 hoE.out hbE.out (Nat.le_refl _) rE.out (.tmp 64) (.tmp 65) rfl rfl rfl rfl nil11.out O3.out mx1.out mx2.out ?_; intro A8 c8 w8 ho8 h8 _; rw [Nat.zero_add] at ho8 ⊢; rw [List.nil_append] at ho8; replace ho8 := hide ho8; replace h8 := hide h8) | (refine apA elU8 ho8.out h8.out (Nat.le_refl _) (rF.out.below h8.out) (.tmp 66) (.tmp 67) rfl rfl rfl rfl nil12.out O4.out mx3.out mx4.out ?_; intro A20 c20 w20 ho9 h9 _; replace ho9 := hide ho9; replace h9 := hide h9))
          replace h1 := h9.out
          replace hb := hide (bel_next hb.out h1)
          replace o11 := hide (o11.out.below h1)
          replace o12 := hide (o12.out.below h1)
          replace rx := hide (rx.out.below h1)
          replace ry := hide (ry.out.below h1)
          replace o13 := hide (o13.out.below h1)
          clear h1
          have o20 := ho9
          have nil20 := hide ho9.out.nilcap
          clear ho8 h8 hoE hbE rE rF mx1 mx2 mx3 mx4 ho9 h9
          rw [← List.map_append] at o20
          refine (S'.out _ _ _ _ _ o13.out.rd o20.out.rd).mono ?_
          rintro e w21 ⟨rfl, h1⟩
          replace hb := hide (bel_next hb.out h1)
          replace o11 := hide (o11.out.below h1)
          replace o12 := hide (o12.out.below h1)
          replace rx := hide (rx.out.below h1)
          replace ry := hide (ry.out.below h1)
          replace o13 := hide (o13.out.below h1)
          replace o20 := hide (o20.out.below h1)
          clear h1
          go_wp2
          go_ret
          exact ⟨rfl, hb.out⟩
  | true =>
    have Z1 := Z true
    rw [show (if (true : Bool) = true then (8 : Int) else 4) = 8 from rfl] at Z1
    clear Z
    obtain ⟨p1, hp1⟩ : ∃ p1, p1 = 8 * n1 := ⟨_, rfl⟩
    obtain ⟨p2, hp2⟩ : ∃ p2, p2 = 8 * n2 := ⟨_, rfl⟩
    have B12 : ∀ v ∈ xs ++ ys, -9223372036854775808 ≤ v ∧ v < 9223372036854775808 := fun v hv => (List.mem_append.1 hv).elim (B1 v) (B2 v)
    have E1 := hide (fun A c w hA hr => tr_.Encode A n1 c p1 xs 8 8 w rfl (.inr rfl) (by omega) hp1 hA hr B1)
    have E2 := hide (fun A c w hA hr => tr_.Encode A n2 c p2 ys 8 8 w rfl (.inr rfl) (by omega) hp2 hA hr B2)
    have E3 := hide (fun A c w hA hr => tr_.Encode A (n1 + n2) c (p1 + p2) (xs ++ ys) 8 8 w rfl (.inr rfl) (by omega) (by omega) hA hr B12)
    have Db := hide ((eT_bytes 8 xs).app (eT_bytes 8 ys))
    have D := hide (fun A c w hA hc hcm hr => tr_.Decode A (p1 + p2) c (n1 + n2) (eT 8 xs ++ eT 8 ys) 8 8 w rfl (.inr rfl) (by omega) (by omega) hA hc hcm hr Db.out)
    rw [eT_app] at E3
    generalize eT 8 xs = ex at *
    generalize eT 8 ys = ey at *
    generalize dT 8 (ex ++ ey) (n1 + n2) = dd at D
    have S := hide (fun A A' c c' w hr hr' => r1_.Same A A' (p1 + p2) c (p1 + p2) c' (ex ++ ey) w (by omega) hr hr')
    have S' := S
    have O1 := hide (oneCells .i64 xs)
    have O2 := hide (oneCells .i64 ys)
    have O3 := hide (oneCells .u8 ex)
    have O4 := hide (oneCells .u8 ey)
    have q1 : p1 ≤ 800 := by omega
    have q2 : p2 ≤ 800 := by omega
    clear B1 B2 B12 Db hp1 hp2
    go_enter Try.func6, Try.ntmps6
    go_wp2_with fail
    refine (awake _).mono ?_
    rintro e w1 ⟨rfl, h1⟩
    replace hb := hide (bel_next hb.out h1)
    replace r1 := hide (r1.out.below h1)
    replace r2 := hide (r2.out.below h1)
    clear h1
    go_wp2_with fail
    refine (Z1 _).mono ?_
    rintro e w2 ⟨rfl, rfl⟩
    go_upto_region 4 with fail
    have hoE := hide (show Ow (w1.alloc (.cells #[] 2)) w1.heap.size 2 (some ⟨w1.heap.size, 0, none⟩) 0 0 [] from Ow.lit w1 2 [] (by decide))
    have hbE := hide (bl_new w1 (.cells #[] 2))
    have rE := hide (r1.out.alloc (.cells #[] 2))
    have rF := hide r2.out
    have mx1 := hide (show 0 + n1 ≤ maxLen by simp [maxLen]; omega)
    have mx2 := hide (show (0 + n1) * 8 ≤ 140737488355328 by omega)
    have mx3 := hide (show n1 + n2 ≤ maxLen by simp [maxLen]; omega)
    have mx4 := hide (show (n1 + n2) * 8 ≤ 140737488355328 by omega)
    go_upto_region 5 with (at_builtin; first | (refine apA elI64 hoE.out hbE.out (Nat.le_refl _) rE.out (.tmp 29) (.tmp 30) rfl rfl rfl rfl nil1.out O1.out mx1.out mx2.out ?_; intro A8 c8 w8 ho8 h8 _; rw [Nat.zero_add] at ho8 ⊢; rw [List.nil_append] at ho8; replace ho8 := hide ho8; replace h8 := hide h8) | (refine apA elI64 ho8.out h8.out (Nat.le_refl _) (rF.out.below h8.out) (.tmp 31) (.tmp 32) rfl rfl rfl rfl nil2.out O2.out mx3.out mx4.out ?_; intro A10 c10 w10 ho9 h9 _; replace ho9 := hide ho9; replace h9 := hide h9))
    replace h1 := h9.out
    replace hb := hide (bel_next hb.out h1)
    replace r1 := hide (r1.out.below h1)
    replace r2 := hide (r2.out.below h1)
    clear h1
    have o10 := ho9
    have nil10 := hide ho9.out.nilcap
    clear ho8 h8 hoE hbE rE rF mx1 mx2 mx3 mx4 ho9 h9
    go_wp2_with fail
    refine (E1.out _ _ _ nil1.out r1.out).mono ?_
    rintro e w11 ⟨A11, c11, rfl, o11, h1⟩
    replace hb := hide (bel_next hb.out h1)
    replace r1 := hide (r1.out.below h1)
    replace r2 := hide (r2.out.below h1)
    replace o10 := hide (o10.out.below h1)
    clear h1
    have nil11 := hide o11.nilcap
    replace o11 := hide o11
    clear r1
    go_wp2_with fail
    refine (E2.out _ _ _ nil2.out r2.out).mono ?_
    rintro e w12 ⟨A12, c12, rfl, o12, h1⟩
    replace hb := hide (bel_next hb.out h1)
    replace r2 := hide (r2.out.below h1)
    replace o10 := hide (o10.out.below h1)
    replace o11 := hide (o11.out.below h1)
    clear h1
    have nil12 := hide o12.nilcap
    replace o12 := hide o12
    clear r2
    have rx := hide o11.out.rd
    have ry := hide o12.out.rd
    go_upto_region 7 with fail
    have hoE := hide (show Ow (w12.alloc (.cells #[] 5)) w12.heap.size 5 (some ⟨w12.heap.size, 0, none⟩) 0 0 [] from Ow.lit w12 5 [] (by decide))
    have hbE := hide (bl_new w12 (.cells #[] 5))
    have rE := hide (rx.out.alloc (.cells #[] 5))
    have rF := hide ry.out
    have mx1 := hide (show 0 + p1 ≤ maxLen by simp [maxLen]; omega)
    have mx2 := hide (show (0 + p1) * 1 ≤ 140737488355328 by omega)
    have mx3 := hide (show p1 + p2 ≤ maxLen by simp [maxLen]; omega)
    have mx4 := hide (show (p1 + p2) * 1 ≤ 140737488355328 by omega)
    go_upto_region 8 with (at_builtin; first | (refine apA elU8 hoE.out hbE.out (Nat.le_refl _) rE.out (.tmp 40) (.tmp 41) rfl rfl rfl rfl nil11.out O3.out mx1.out mx2.out ?_; intro A8 c8 w8 ho8 h8 _; rw [Nat.zero_add] at ho8 ⊢; rw [List.nil_append] at ho8; replace ho8 := hide ho8; replace h8 := hide h8) | (refine apA elU8 ho8.out h8.out (Nat.le_refl _) (rF.out.below h8.out) (.tmp 42) (.tmp 43) rfl rfl rfl rfl nil12.out O4.out mx3.out mx4.out ?_; intro A13 c13 w13 ho9 h9 _; replace ho9 := hide ho9; replace h9 := hide h9))
    replace h1 := h9.out
    replace hb := hide (bel_next hb.out h1)
    replace o10 := hide (o10.out.below h1)
    replace o11 := hide (o11.out.below h1)
    replace o12 := hide (o12.out.below h1)
    replace rx := hide (rx.out.below h1)
    replace ry := hide (ry.out.below h1)
    clear h1
    have o13 := ho9
    have nil13 := hide ho9.out.nilcap
    clear ho8 h8 hoE hbE rE rF mx1 mx2 mx3 mx4 ho9 h9
    rw [← List.map_append] at o10 o13
    have oc13 := o13.out.cap
    have om13 : c13 ≤ 9223372036854775807 := by have := o13.out.capMax; simp [maxLen] at this; omega
    go_wp2_with fail
    refine (E3.out _ _ _ nil10.out o10.out.rd).mono ?_
    rintro e w14 ⟨A14, c14, rfl, o14, h1⟩
    replace hb := hide (bel_next hb.out h1)
    replace o10 := hide (o10.out.below h1)
    replace o11 := hide (o11.out.below h1)
    replace o12 := hide (o12.out.below h1)
    replace rx := hide (rx.out.below h1)
    replace ry := hide (ry.out.below h1)
    replace o13 := hide (o13.out.below h1)
    clear h1
    replace o14 := hide o14
    clear o10
    go_wp2_with fail
    refine (S.out _ _ _ _ _ o14.out.rd o13.out.rd).mono ?_
    rintro e w15 ⟨rfl, h1⟩
    replace hb := hide (bel_next hb.out h1)
    replace o11 := hide (o11.out.below h1)
    replace o12 := hide (o12.out.below h1)
    replace rx := hide (rx.out.below h1)
    replace ry := hide (ry.out.below h1)
    replace o13 := hide (o13.out.below h1)
    replace o14 := hide (o14.out.below h1)
    clear h1
    clear o14
    go_wp2_with fail
    refine (D.out _ _ _ nil13.out oc13 om13 o13.out.rd).mono ?_
    rintro e w16 ⟨A16, c16, rfl, o16, h16⟩
    have ob16 := o16.base
    rcases Nat.eq_zero_or_pos (n1 + n2) with hz | hz
    · replace h16 := hide h16
      clear ob16 o16
      rw [hz]
      go_wp2_with fail
      go_loopw [13] (fun i wr => i = .int .i64 0 ∧ Hid (Below w15.heap.size w15 wr)) (fun _ _ => 0)
      case atStart => exact ⟨rfl, h16⟩
      case round =>
        clear h16
        obtain ⟨rfl, hw⟩ := hrel
        have h1 := hw.out
        replace hb := hide (bel_next hb.out h1)
        replace o11 := hide (o11.out.below h1)
        replace o12 := hide (o12.out.below h1)
        replace rx := hide (rx.out.below h1)
        replace ry := hide (ry.out.below h1)
        replace o13 := hide (o13.out.below h1)
        clear h1
        clear hw
        go_upto_region 15 with fail
        have hoE := hide (show Ow (wr.alloc (.cells #[] 5)) wr.heap.size 5 (some ⟨wr.heap.size, 0, none⟩) 0 0 [] from Ow.lit wr 5 [] (by decide))
        have hbE := hide (bl_new wr (.cells #[] 5))
        have rE := hide (rx.out.alloc (.cells #[] 5))
        have rF := hide ry.out
        have mx1 := hide (show 0 + p1 ≤ maxLen by simp [maxLen]; omega)
        have mx2 := hide (show (0 + p1) * 1 ≤ 140737488355328 by omega)
        have mx3 := hide (show p1 + p2 ≤ maxLen by simp [maxLen]; omega)
        have mx4 := hide (show (p1 + p2) * 1 ≤ 140737488355328 by omega)
        go_wp2_with (at_builtin; first | (refine apA elU8 hoE.out hbE.out (Nat.le_refl _) rE.out (.tmp 64) (.tmp 65) rfl rfl rfl rfl nil11.out O3.out mx1.out mx2.out ?_; intro A8 c8 w8 ho8 h8 _; rw [Nat.zero_add] at ho8 ⊢; rw [List.nil_append] at ho8; replace ho8 := hide ho8; replace h8 := hide h8) | (refine apA elU8 ho8.out h8.out (Nat.le_refl _) (rF.out.below h8.out) (.tmp 66) (.tmp 67) rfl rfl rfl rfl nil12.out O4.out mx3.out mx4.out ?_; intro A20 c20 w20 ho9 h9 _; replace ho9 := hide ho9; replace h9 := hide h9))
        replace h1 := h9.out
        replace hb := hide (bel_next hb.out h1)
        replace o11 := hide (o11.out.below h1)
        replace o12 := hide (o12.out.below h1)
        replace rx := hide (rx.out.below h1)
        replace ry := hide (ry.out.below h1)
        replace o13 := hide (o13.out.below h1)
        clear h1
        have o20 := ho9
        have nil20 := hide ho9.out.nilcap
        clear ho8 h8 hoE hbE rE rF mx1 mx2 mx3 mx4 ho9 h9
        rw [← List.map_append] at o20
        refine (S'.out _ _ _ _ _ o13.out.rd o20.out.rd).mono ?_
        rintro e w21 ⟨rfl, h1⟩
        replace hb := hide (bel_next hb.out h1)
        replace o11 := hide (o11.out.below h1)
        replace o12 := hide (o12.out.below h1)
        replace rx := hide (rx.out.below h1)
        replace ry := hide (ry.out.below h1)
        replace o13 := hide (o13.out.below h1)
        replace o20 := hide (o20.out.below h1)
        clear h1
        go_wp2
        go_ret
        exact ⟨rfl, hb.out⟩
    · obtain ⟨g16, rfl, hg16, hg16'⟩ := o16.form hz
      replace o16 := hide o16
      replace h16 := hide h16
      clear ob16
      go_wp2_with fail
      go_loopw [13] (fun i wr => ∃ (k : Nat) (zs : List Value), k ≤ n1 + n2 ∧ i = .int .i64 (k : Nat) ∧ Hid (Ow wr w15.heap.size 2 (some ⟨g16, 0, none⟩) (n1 + n2) c16 zs) ∧ Hid (Below w15.heap.size w15 wr)) (fun i _ => n1 + n2 - (intOf i).toNat)
      case atStart => exact ⟨0, _, by omega, rfl, o16, h16⟩
      case round =>
        clear o16 h16
        obtain ⟨k, zs, hk, rfl, ho, hw⟩ := hrel
        by_cases hlt : k < n1 + n2
        · have hlz : zs.length = n1 + n2 := ho.out.len
          have hc : wr.cell? ⟨g16, k, none⟩ = some (zs[k]'(by omega)) := by rw [ho.out.cell k hlt, List.getElem?_eq_getElem (by omega)]
          have hf := ho.out.frozen k
          have ho2 := hide (ho.out.set k (.int .i64 7))
          have hw2 := hide (show Below w15.heap.size w15 (wr.setCell ⟨g16, k, none⟩ (.int .i64 7)) from bl_set hw.out hg16 (.int .i64 7))
          generalize zs[k]'(by omega) = v0 at hc
          clear hlz
          go_wp2_with fail
          go_roundw
          case rel => exact ⟨k + 1, _, by omega, by go_num, ho2, hw2⟩
          case measure => simp [intOf]; omega
        · obtain rfl : k = n1 + n2 := by omega
          have h1 := hw.out
          replace hb := hide (bel_next hb.out h1)
          replace o11 := hide (o11.out.below h1)
          replace o12 := hide (o12.out.below h1)
          replace rx := hide (rx.out.below h1)
          replace ry := hide (ry.out.below h1)
          replace o13 := hide (o13.out.below h1)
          clear h1
          clear ho hw
          go_upto_region 15 with fail
          have hoE := hide (show Ow (wr.alloc (.cells #[] 5)) wr.heap.size 5 (some ⟨wr.heap.size, 0, none⟩) 0 0 [] from Ow.lit wr 5 [] (by decide))
          have hbE := hide (bl_new wr (.cells #[] 5))
          have rE := hide (rx.out.alloc (.cells #[] 5))
          have rF := hide ry.out
          have mx1 := hide (show 0 + p1 ≤ maxLen by simp [maxLen]; omega)
          have mx2 := hide (show (0 + p1) * 1 ≤ 140737488355328 by omega)
          have mx3 := hide (show p1 + p2 ≤ maxLen by simp [maxLen]; omega)
          have mx4 := hide (show (p1 + p2) * 1 ≤ 140737488355328 by omega)
          go_wp2_with (at_builtin; first | (refine apA elU8 hoE.out hbE.out (Nat.le_refl _) rE.out (.tmp 64) (.tmp 65) rfl rfl rfl rfl nil11.out O3.out mx1.out mx2.out ?_; intro A8 c8 w8 ho8 h8 _; rw [Nat.zero_add] at ho8 ⊢; rw [List.nil_append] at ho8; replace ho8 := hide ho8; replace h8 := hide h8) | (refine apA elU8 ho8.out h8.out (Nat.le_refl _) (rF.out.below h8.out) (.tmp 66) (.tmp 67) rfl rfl rfl rfl nil12.out O4.out mx3.out mx4.out ?_; intro A20 c20 w20 ho9 h9 _; replace ho9 := hide ho9; replace h9 := hide h9))
          replace h1 := h9.out
          replace hb := hide (bel_next hb.out h1)
          replace o11 := hide (o11.out.below h1)
          replace o12 := hide (o12.out.below h1)
          replace rx := hide (rx.out.below h1)
          replace ry := hide (ry.out.below h1)
          replace o13 := hide (o13.out.below h1)
          clear h1
          have o20 := ho9
          have nil20 := hide ho9.out.nilcap
          clear ho8 h8 hoE hbE rE rF mx1 mx2 mx3 mx4 ho9 h9
          rw [← List.map_append] at o20
          refine (S'.out _ _ _ _ _ o13.out.rd o20.out.rd).mono ?_
          rintro e w21 ⟨rfl, h1⟩
          replace hb := hide (bel_next hb.out h1)
          replace o11 := hide (o11.out.below h1)
          replace o12 := hide (o12.out.below h1)
          replace rx := hide (rx.out.below h1)
          replace ry := hide (ry.out.below h1)
          replace o13 := hide (o13.out.below h1)
          replace o20 := hide (o20.out.below h1)
          clear h1
          go_wp2
          go_ret
          exact ⟨rfl, hb.out⟩
end l15_
end Go.Proofs.Ytknnobpnfnajiaa
