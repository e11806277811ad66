/-
  THE WALKS OF THE LAWS OF LAYER 15 (zoneinfolaw15): TransitionsDescent. No conditions.
-/
import Derived.Test.YtknnobpnfnajiaaLaw15
import Derived.Deep.RegionLaw
namespace Go.Proofs.Ytknnobpnfnajiaa
open Go.ChangeShapes Go.WideShapes Go.ChangeAt Go.RowKit
set_option linter.unusedVariables false
set_option maxRecDepth 100000
theorem rd_grown {W w' : World} {row : Option Nat} (hg : W.grownBy w' row) {g n : Nat} {xs : List Value} (h : Rd W (some ⟨g, 0, none⟩) n xs) (hne : row ≠ some g) : Rd w' (some ⟨g, 0, none⟩) n xs :=
  ⟨h.1, fun hn => by
    obtain ⟨ad, e, hc⟩ := h.2 hn
    cases e
    exact ⟨_, rfl, fun i v hi => hg.cell (hc i v hi) (by rw [addr_block]; exact fun h' => hne h'.symm)⟩⟩
namespace l15_
set_option maxHeartbeats 8000000 in
theorem descent_yes (ad : Addr) (n c D j : Nat) (ys : List Int) (z : Int) (w : World) (hr : Rd w (some ad) n (ys.map (Value.int .i64))) (hn : n ≤ 200) (hcn : n ≤ c) (hcm : c ≤ 9223372036854775807) (hd : desc ys = (D : Int)) (hD : D < n) (hj : D = j + 1) (hx : ys[D]?.getD 0 ≤ ys[j]?.getD 0) (ht : desc (ys.take D) = -1) :
    Calls Try.prog 5 #[.slice (some ad) n c, .int .u8 z] w fun e w' => e = .returned (.bool true) ∧ Below w.heap.size w w' := by
  have hb := hide (Below.refl w.heap.size w)
  have X := hide (fun w hr => tr_.Descent (some ad) n c ys w (by omega) (fun h => by cases h) hr)
  rw [hd] at X
  have X2 := hide (fun w (hr : Rd w (some ad) n (ys.map (Value.int .i64))) => tr_.Descent (some ad) D c (ys.take D) w (by omega) (fun h => by cases h) (by rw [List.map_take]; exact hr.take (by omega)))
  rw [ht] at X2
  have rr := hide hr
  have k2 : (n : Int) ≤ 200 := by omega
  have d0 : (0 : Int) < D := by omega
  have i1 : IntKind.i64.wrap ((D : Int) - 1) = (j : Int) := by rw [IntKind.wrap_i64]; omega
  have j1 : j < n := by omega
  clear hr ht hd hj
  go_enter Try.func5, Try.ntmps5
  go_wp2_with fail
  refine (awake _).mono ?_
  rintro e w1 ⟨rfl, h1⟩
  replace hb := hide (bel_next hb.out h1)
  replace rr := hide (rr.out.below h1)
  clear h1
  go_wp2_with fail
  refine (X.out _ rr.out).mono ?_
  rintro e w2 ⟨rfl, h1⟩
  replace hb := hide (bel_next hb.out h1)
  replace rr := hide (rr.out.below h1)
  clear h1
  go_upto_region 5 with fail
  obtain ⟨_, e1, hc⟩ := rr.out.int hD
  cases e1
  obtain ⟨_, e1, hc'⟩ := rr.out.int j1
  cases e1
  generalize ys[D]?.getD 0 = x at *
  generalize ys[j]?.getD 0 = y at *
  have g1 : decide ((0 : Int) < D) = true := decide_eq_true d0
  have g2 : decide ((D : Int) < n) = true := decide_eq_true (by omega)
  have g4 : decide (0 < D) = true := decide_eq_true (by omega)
  have g5 : decide (D < n) = true := decide_eq_true hD
  have g3 : decide (x ≤ y) = true := decide_eq_true hx
  have g6 : (0 : Int) ≤ (D : Int) := by omega
  have g7 : (D : Int) ≤ (c : Int) := by omega
  have g8 : D ≤ c := by omega
  go_region_held3 (fun w' => w'.cell? (ad.add D) = some (.int .i64 x) ∧ w'.cell? (ad.add j) = some (.int .i64 y) ∧ Hid (Rd w' (some ad) n (ys.map (Value.int .i64))) ∧ Hid (Below w.heap.size w w'))
    (first
      | exact ⟨hc, hc', by first | exact rr | exact hide (Rd.drew rr.out), by first | exact hb | exact hide (bl_drew hb.out)⟩
      | (go_split_ands; refine ⟨?_, ?_, ?_, ?_⟩ <;> first | exact cellE h1 (by assumption) | exact hide (Rd.below (Hid.out (by assumption)) h1) | exact hide (bel_next (Hid.out (by assumption)) h1)))
    (first
      | (go_at_call 15; go_split_ands; refine (X2.out _ (Hid.out (by assumption))).mono ?_; rintro e w6 ⟨rfl, h1⟩))
  clear hb rr hc hc' X X2
  go_split_ands
  rename Hid (Below _ _ _) => hb
  go_wp2
  go_ret
  exact ⟨rfl, hb.out⟩
set_option maxHeartbeats 8000000 in
theorem descent_no (ad : Addr) (n c zn : Nat) (ys : List Int) (w : World) (hr : Rd w (some ad) n (ys.map (Value.int .i64))) (hn : n ≤ 200) (hn0 : 0 < n) (hcn : n ≤ c) (hcm : c ≤ 9223372036854775807) (hz : zn < 256) (ha : Asc ys) :
    Calls Try.prog 5 #[.slice (some ad) n c, .int .u8 zn] w fun e w' => e = .returned (.bool true) ∧ Below w.heap.size w w' := by
  have hl : ys.length = n := by have := hr.len; simpa using this
  have hb := hide (Below.refl w.heap.size w)
  have X := hide (fun w hr => tr_.Descent (some ad) n c ys w (by omega) (fun h => by cases h) hr)
  rw [desc_asc ha] at X
  obtain ⟨k, hk⟩ : ∃ k, k = zn % n := ⟨_, rfl⟩
  have kn : k < n := by rw [hk]; exact Nat.mod_lt _ hn0
  have X1 := hide (fun A c w hA hr => tr_.Descent A (n - 1) c (ys.take k ++ ys.drop (k + 1)) w (by omega) hA hr)
  rw [desc_asc (asc_less ha k (by omega))] at X1
  have X2 := hide (fun A c w hA hr => tr_.Descent A (n + 1) c (ys.take (k + 1) ++ [ys[k]?.getD 0] ++ ys.drop (k + 1)) w (by omega) hA hr)
  rw [desc_more ha k (by omega)] at X2
  have rr := hide hr
  have k2 : (n : Int) ≤ 200 := by omega
  have e0 : ((n : Int) == 0) = false := by simp; omega
  have HA := hide ha
  have HL := hide hl
  have HK := hide hk
  have m1 := hide (oneCells .i64 (ys.take k))
  have m2 := hide (oneCells .i64 (ys.drop (k + 1)))
  have m3 := hide (oneCells .i64 (ys.take (k + 1)))
  clear hr ha hl
  go_enter Try.func5, Try.ntmps5
  go_wp2_with fail
  refine (awake _).mono ?_
  rintro e w1 ⟨rfl, h1⟩
  replace hb := hide (bel_next hb.out h1)
  replace rr := hide (rr.out.below h1)
  clear h1
  go_wp2_with fail
  refine (X.out _ rr.out).mono ?_
  rintro e w2 ⟨rfl, h1⟩
  replace hb := hide (bel_next hb.out h1)
  replace rr := hide (rr.out.below h1)
  clear h1
  go_wp2_with fail
  go_loopw [6] (fun i wr => ∃ q j : Nat, q < n ∧ i = .int .i64 (j : Int) ∧ j = q + 1 ∧ Hid (Below w2.heap.size w2 wr)) (fun i _ => n + 1 - (intOf i).toNat)
  case atStart => exact ⟨0, 1, by omega, rfl, rfl, hide (bl_refl _)⟩
  case round =>
    obtain ⟨q, j, hq, rfl, hj, hw⟩ := hrel
    by_cases hlt : j < n
    · obtain ⟨_, e1, hc⟩ := (rr.out.below hw.out).int (i := q) (by omega)
      cases e1
      obtain ⟨_, e1, hc'⟩ := (rr.out.below hw.out).int hlt
      cases e1
      have hxy := HA.out q (by rw [HL.out]; omega)
      rw [← hj] at hxy
      have i1 : IntKind.i64.wrap ((j : Int) - 1) = (q : Int) := by rw [IntKind.wrap_i64]; omega
      have k0 : q < n := by omega
      generalize ys[q]?.getD 0 = x at *
      generalize ys[j]?.getD 0 = y at *
      replace hj := hide hj
      clear HK hk
      go_wp2
      go_quiet (fail)
      go_wp2
      go_roundw
      case rel => exact ⟨j, j + 1, by omega, by go_num, rfl, hide (bel_drewN hw.out _)⟩
      case measure => simp [intOf]; have := hj.out; omega
    · replace hb := hide (bel_next hb.out hw.out)
      replace rr := hide (rr.out.below hw.out)
      clear hw hj hq X HK
      have hkz : (zn : Int).tmod (n : Int) = (k : Int) := by rw [hk]; exact (Int.ofNat_tmod zn n).symm
      replace hk := hide hk
      go_upto_region 14 with fail
      have rK := hide (show Rd wr (some ad) k ((ys.take k).map (Value.int .i64)) by rw [List.map_take]; exact rr.out.take (by omega))
      have rc := rr.out.cut (k := k + 1) (cap := c) (by omega) hcn
      rw [← List.map_drop] at rc
      have b1 : k ≤ c := by omega
      have b2 : k + 1 ≤ n := by omega
      have b3 : (k : Int) + 1 ≤ n := by omega
      have b4 : IntKind.i64.wrap ((k : Int) + 1) = (k : Int) + 1 := by rw [IntKind.wrap_i64]; omega
      have b5 : (0 : Int) ≤ (k : Int) + 1 := by omega
      have b6 : ((k : Int) + 1).toNat = k + 1 := by omega
      have b7 : k + 1 ≤ c := by omega
      have b8 : (n : Int) ≤ c := by omega
      have b9 : (k : Int) + 1 ≤ c := by omega
      have mO := hide (oneCells .i64 [ys[k]?.getD 0])
      by_cases hc1 : c = k + 1
      · rw [if_pos hc1] at rc
        have hif : (if c = k + 1 then some ad else some (ad.add (k + 1))) = some ad := if_pos hc1
        have hif2 : (if c = k + 1 then some ad else some { block := ad.block, off := ad.off + (k + 1) }) = some ad := if_pos hc1
        replace hc1 := hide hc1
        have rT := hide rc
        clear rc
        go_cut [8] (fun s8 wx => ∃ (A7 : Option Addr) (c7 : Nat), s8 = .slice A7 (n - 1) c7 ∧ Ow wx wr.heap.size 2 A7 (n - 1) c7 ((ys.take k ++ ys.drop (k + 1)).map (Value.int .i64)) ∧ Below wr.heap.size wr wx)
        case first =>
          have hoE := hide (show Ow (wr.alloc (.cells #[] 2)) wr.heap.size 2 (some ⟨wr.heap.size, 0, none⟩) 0 0 [] from Ow.lit wr 2 [] (by decide))
          have hoD := hide hoE.out.drew
          have hbE := hide (bl_new wr (.cells #[] 2))
          have hbD := hide (bl_drew hbE.out)
          have rKE := hide (rK.out.alloc (.cells #[] 2))
          have rKD := hide rKE.out.drew
          have x1 := hide (show 0 + k ≤ maxLen by simp [maxLen]; omega)
          have x2 := hide (show (0 + k) * 8 ≤ 140737488355328 by omega)
          have x3 := hide (show k + (n - (k + 1)) ≤ maxLen by simp [maxLen]; omega)
          have x4 := hide (show (k + (n - (k + 1))) * 8 ≤ 140737488355328 by omega)
          go_region_law (first
            | (refine step_apA elI64 hoD.out hbD.out (Nat.le_refl _) rKD.out (.tmp 73) (.tmp 76) rfl rfl rfl rfl (fun h => by cases h) m1.out x1.out x2.out ?_; intro A9 c9 w9 ho9 h9 _; rw [Nat.zero_add] at ho9 ⊢; rw [List.nil_append] at ho9; replace ho9 := hide ho9; replace h9 := hide h9)
            | (refine step_apA elI64 hoE.out hbE.out (Nat.le_refl _) rKE.out (.tmp 73) (.tmp 76) rfl rfl rfl rfl (fun h => by cases h) m1.out x1.out x2.out ?_; intro A9 c9 w9 ho9 h9 _; rw [Nat.zero_add] at ho9 ⊢; rw [List.nil_append] at ho9; replace ho9 := hide ho9; replace h9 := hide h9)
            | (refine step_apA elI64 ho9.out h9.out (Nat.le_refl _) (rT.out.below h9.out) (.tmp 77) (.tmp 81) rfl rfl rfl rfl (fun h => by cases h) m2.out x3.out x4.out ?_; intro A10 c10 w10 ho10 h10 _; rw [show k + (n - (k + 1)) = n - 1 by omega, ← List.map_append] at ho10; rw [show k + (n - (k + 1)) = n - 1 by omega]; replace ho10 := hide ho10; replace h10 := hide h10))
          all_goals
            go_wp2_with fail
            go_meet
            exact ⟨A10, c10, rfl, ho10.out, h10.out⟩
        case rest =>
          obtain ⟨A7, cc7, rfl, o7, h1⟩ := hcut
          rename World => w14
          replace hb := hide (bel_next hb.out h1)
          replace rr := hide (rr.out.below h1)
          replace rT := hide (rT.out.below h1)
          clear rK h1
          have rK := hide (show Rd w14 (some ad) (k + 1) ((ys.take (k + 1)).map (Value.int .i64)) by rw [List.map_take]; exact rr.out.take (by omega))
          obtain ⟨_, e1, hc⟩ := rr.out.int kn
          cases e1
          generalize ys[k]?.getD 0 = x at *
          replace o7 := hide o7
          go_upto_region 15 with fail
          go_cut [9] (fun s9 wx => ∃ (A7 : Option Addr) (c7 : Nat), s9 = .slice A7 (n + 1) c7 ∧ Ow wx w14.heap.size 2 A7 (n + 1) c7 ((ys.take (k + 1) ++ [x] ++ ys.drop (k + 1)).map (Value.int .i64)) ∧ Below w14.heap.size w14 wx)
          case first =>
            have hoE := hide (show Ow (w14.alloc (.cells #[] 2)) w14.heap.size 2 (some ⟨w14.heap.size, 0, none⟩) 0 0 [] from Ow.lit w14 2 [] (by decide))
            have hoD := hide hoE.out.drew
            have hbE := hide (bl_new w14 (.cells #[] 2))
            have hbD := hide (bl_drew hbE.out)
            have rKE := hide (rK.out.alloc (.cells #[] 2))
            have rKD := hide rKE.out.drew
            have hcE : (w14.alloc (.cells #[] 2)).cell? (ad.add k) = some (.int .i64 x) := cellA hc
            have hcD : (w14.alloc (.cells #[] 2)).drew.cell? (ad.add k) = some (.int .i64 x) := hcE
            have hoF := hide ((show Ow ((w14.alloc (.cells #[] 2)).alloc (.cells #[.int .i64 x] 2)) w14.heap.size 2 (some ⟨w14.heap.size, 0, none⟩) 0 0 [] from hoE.out.alloc _).drew)
            have hbF := hide (bl_drew (bl_alloc hbE.out (.cells #[.int .i64 x] 2)))
            have rKF := hide (rKE.out.alloc (.cells #[.int .i64 x] 2)).drew
            have rlF := hide (show Rd ((w14.alloc (.cells #[] 2)).alloc (.cells #[.int .i64 x] 2)).drew (some ⟨w14.heap.size + 1, 0, none⟩) 1 (([x] : List Int).map (Value.int .i64)) by have := (Rd.lit (w14.alloc (.cells #[] 2)) 2 [.int .i64 x]).drew; simpa using this)
            have hoG := hide ((show Ow ((w14.alloc (.cells #[.int .i64 x] 2)).alloc (.cells #[] 2)) w14.heap.size 2 (some ⟨w14.heap.size + 1, 0, none⟩) 0 0 [] by have := (Ow.lit (w14.alloc (.cells #[.int .i64 x] 2)) 2 [] (by decide)).mono (b' := w14.heap.size) (by simp); simpa using this).drew)
            have hbG := hide (bl_drew (bl_alloc (bl_new w14 (.cells #[.int .i64 x] 2)) (.cells #[] 2)))
            have rKG := hide ((rK.out.alloc (.cells #[.int .i64 x] 2)).alloc (.cells #[] 2)).drew
            have rlG := hide (show Rd ((w14.alloc (.cells #[.int .i64 x] 2)).alloc (.cells #[] 2)).drew (some ⟨w14.heap.size, 0, none⟩) 1 (([x] : List Int).map (Value.int .i64)) from ((Rd.lit w14 2 [.int .i64 x]).alloc (.cells #[] 2)).drew)
            have x1 := hide (show 0 + (k + 1) ≤ maxLen by simp [maxLen]; omega)
            have x2 := hide (show (0 + (k + 1)) * 8 ≤ 140737488355328 by omega)
            have x3 := hide (show k + 1 + 1 ≤ maxLen by simp [maxLen]; omega)
            have x4 := hide (show (k + 1 + 1) * 8 ≤ 140737488355328 by omega)
            have x5 := hide (show k + 1 + 1 + (n - (k + 1)) ≤ maxLen by simp [maxLen]; omega)
            have x6 := hide (show (k + 1 + 1 + (n - (k + 1))) * 8 ≤ 140737488355328 by omega)
            go_region_law (first
              | (refine step_apA elI64 hoD.out hbD.out (Nat.le_refl _) rKD.out (.tmp 83) (.tmp 87) rfl rfl rfl rfl (fun h => by cases h) m3.out x1.out x2.out ?_; intro A9 c9 w9 ho9 h9 _; rw [Nat.zero_add] at ho9 ⊢; rw [List.nil_append] at ho9; have hc9 := cellE h9 hc; have ho9a := hide (ho9.alloc (.cells #[.int .i64 x] 2)); have hb9a := hide (bl_alloc h9 (.cells #[.int .i64 x] 2)); have rl9 := hide (show Rd (w9.alloc (.cells #[.int .i64 x] 2)) (some ⟨w9.heap.size, 0, none⟩) 1 (([x] : List Int).map (Value.int .i64)) from Rd.lit w9 2 [.int .i64 x]); replace ho9 := hide ho9; replace h9 := hide h9)
              | (refine step_apA elI64 hoE.out hbE.out (Nat.le_refl _) rKE.out (.tmp 83) (.tmp 87) rfl rfl rfl rfl (fun h => by cases h) m3.out x1.out x2.out ?_; intro A9 c9 w9 ho9 h9 _; rw [Nat.zero_add] at ho9 ⊢; rw [List.nil_append] at ho9; have hc9 := cellE h9 hc; have ho9a := hide (ho9.alloc (.cells #[.int .i64 x] 2)); have hb9a := hide (bl_alloc h9 (.cells #[.int .i64 x] 2)); have rl9 := hide (show Rd (w9.alloc (.cells #[.int .i64 x] 2)) (some ⟨w9.heap.size, 0, none⟩) 1 (([x] : List Int).map (Value.int .i64)) from Rd.lit w9 2 [.int .i64 x]); replace ho9 := hide ho9; replace h9 := hide h9)
              | (refine step_apA elI64 hoG.out hbG.out (Nat.le_refl _) rKG.out (.tmp 83) (.tmp 87) rfl rfl rfl rfl (fun h => by cases h) m3.out x1.out x2.out ?_; intro A9 c9 w9 ho9 h9 hg9; rw [Nat.zero_add] at ho9 ⊢; rw [List.nil_append] at ho9; have rl9 := hide (rd_grown hg9 rlG.out (by show some (w14.heap.size + 1) ≠ some w14.heap.size; simp)); replace ho9 := hide ho9; replace h9 := hide h9)
              | (refine step_apA elI64 hoF.out hbF.out (Nat.le_refl _) rKF.out (.tmp 83) (.tmp 87) rfl rfl rfl rfl (fun h => by cases h) m3.out x1.out x2.out ?_; intro A9 c9 w9 ho9 h9 hg9; rw [Nat.zero_add] at ho9 ⊢; rw [List.nil_append] at ho9; have rl9 := hide (rd_grown hg9 rlF.out (by show some w14.heap.size ≠ some (w14.heap.size + 1); simp)); replace ho9 := hide ho9; replace h9 := hide h9)
              | (refine step_apA elI64 ho9.out h9.out (Nat.le_refl _) rl9.out (.tmp 88) (.tmp 93) rfl rfl rfl rfl (fun h => by cases h) mO.out x3.out x4.out ?_; intro A10 c10 w10 ho10 h10 _; rw [← List.map_append] at ho10; replace ho10 := hide ho10; replace h10 := hide h10)
              | (refine step_apA elI64 ho9a.out hb9a.out (Nat.le_refl _) rl9.out (.tmp 88) (.tmp 93) rfl rfl rfl rfl (fun h => by cases h) mO.out x3.out x4.out ?_; intro A10 c10 w10 ho10 h10 _; rw [← List.map_append] at ho10; replace ho10 := hide ho10; replace h10 := hide h10)
              | (refine step_apA elI64 ho10.out h10.out (Nat.le_refl _) (rT.out.below h10.out) (.tmp 94) (.tmp 98) rfl rfl rfl rfl (fun h => by cases h) m2.out x5.out x6.out ?_; intro A11 c11 w11 ho11 h11 _; rw [show k + 1 + 1 + (n - (k + 1)) = n + 1 by omega, ← List.map_append] at ho11; rw [show k + 1 + 1 + (n - (k + 1)) = n + 1 by omega]; replace ho11 := hide ho11; replace h11 := hide h11))
            all_goals
              go_wp2_with fail
              go_meet
              exact ⟨A11, c11, rfl, ho11.out, h11.out⟩
          case rest =>
            obtain ⟨A8, cc8, rfl, o8, h1⟩ := hcut
            replace hb := hide (bel_next hb.out h1)
            replace o7 := hide (o7.out.below h1)
            replace o8 := hide o8
            have nil7 := hide o7.out.nilcap
            have nil8 := hide o8.out.nilcap
            clear h1 rK rT rr hc
            go_wp2_with fail
            refine (X1.out _ _ _ nil7.out o7.out.rd).mono ?_
            rintro e w16 ⟨rfl, h1⟩
            replace hb := hide (bel_next hb.out h1)
            replace o8 := hide (o8.out.below h1)
            clear h1 o7
            go_wp2_with fail
            refine (X2.out _ _ _ nil8.out o8.out.rd).mono ?_
            rintro e w17 ⟨rfl, h1⟩
            replace hb := hide (bel_next hb.out h1)
            clear h1 o8
            go_wp2
            go_ret
            exact ⟨rfl, hb.out⟩
      · rw [if_neg hc1] at rc
        have rT := hide rc
        clear rc
        go_cut [8] (fun s8 wx => ∃ (A7 : Option Addr) (c7 : Nat), s8 = .slice A7 (n - 1) c7 ∧ Ow wx wr.heap.size 2 A7 (n - 1) c7 ((ys.take k ++ ys.drop (k + 1)).map (Value.int .i64)) ∧ Below wr.heap.size wr wx)
        case first =>
          have hoE := hide (show Ow (wr.alloc (.cells #[] 2)) wr.heap.size 2 (some ⟨wr.heap.size, 0, none⟩) 0 0 [] from Ow.lit wr 2 [] (by decide))
          have hoD := hide hoE.out.drew
          have hbE := hide (bl_new wr (.cells #[] 2))
          have hbD := hide (bl_drew hbE.out)
          have rKE := hide (rK.out.alloc (.cells #[] 2))
          have rKD := hide rKE.out.drew
          have x1 := hide (show 0 + k ≤ maxLen by simp [maxLen]; omega)
          have x2 := hide (show (0 + k) * 8 ≤ 140737488355328 by omega)
          have x3 := hide (show k + (n - (k + 1)) ≤ maxLen by simp [maxLen]; omega)
          have x4 := hide (show (k + (n - (k + 1))) * 8 ≤ 140737488355328 by omega)
          go_region_law (first
            | (refine step_apA elI64 hoD.out hbD.out (Nat.le_refl _) rKD.out (.tmp 73) (.tmp 76) rfl rfl rfl rfl (fun h => by cases h) m1.out x1.out x2.out ?_; intro A9 c9 w9 ho9 h9 _; rw [Nat.zero_add] at ho9 ⊢; rw [List.nil_append] at ho9; replace ho9 := hide ho9; replace h9 := hide h9)
            | (refine step_apA elI64 hoE.out hbE.out (Nat.le_refl _) rKE.out (.tmp 73) (.tmp 76) rfl rfl rfl rfl (fun h => by cases h) m1.out x1.out x2.out ?_; intro A9 c9 w9 ho9 h9 _; rw [Nat.zero_add] at ho9 ⊢; rw [List.nil_append] at ho9; replace ho9 := hide ho9; replace h9 := hide h9)
            | (refine step_apA elI64 ho9.out h9.out (Nat.le_refl _) (rT.out.below h9.out) (.tmp 77) (.tmp 81) rfl rfl rfl rfl (fun h => by cases h) m2.out x3.out x4.out ?_; intro A10 c10 w10 ho10 h10 _; rw [show k + (n - (k + 1)) = n - 1 by omega, ← List.map_append] at ho10; rw [show k + (n - (k + 1)) = n - 1 by omega]; replace ho10 := hide ho10; replace h10 := hide h10))
          all_goals
            go_wp2_with fail
            go_meet
            exact ⟨A10, c10, rfl, ho10.out, h10.out⟩
        case rest =>
          obtain ⟨A7, cc7, rfl, o7, h1⟩ := hcut
          rename World => w14
          replace hb := hide (bel_next hb.out h1)
          replace rr := hide (rr.out.below h1)
          replace rT := hide (rT.out.below h1)
          clear rK h1
          have rK := hide (show Rd w14 (some ad) (k + 1) ((ys.take (k + 1)).map (Value.int .i64)) by rw [List.map_take]; exact rr.out.take (by omega))
          obtain ⟨_, e1, hc⟩ := rr.out.int kn
          cases e1
          generalize ys[k]?.getD 0 = x at *
          replace o7 := hide o7
          go_upto_region 15 with fail
          go_cut [9] (fun s9 wx => ∃ (A7 : Option Addr) (c7 : Nat), s9 = .slice A7 (n + 1) c7 ∧ Ow wx w14.heap.size 2 A7 (n + 1) c7 ((ys.take (k + 1) ++ [x] ++ ys.drop (k + 1)).map (Value.int .i64)) ∧ Below w14.heap.size w14 wx)
          case first =>
            have hoE := hide (show Ow (w14.alloc (.cells #[] 2)) w14.heap.size 2 (some ⟨w14.heap.size, 0, none⟩) 0 0 [] from Ow.lit w14 2 [] (by decide))
            have hoD := hide hoE.out.drew
            have hbE := hide (bl_new w14 (.cells #[] 2))
            have hbD := hide (bl_drew hbE.out)
            have rKE := hide (rK.out.alloc (.cells #[] 2))
            have rKD := hide rKE.out.drew
            have hcE : (w14.alloc (.cells #[] 2)).cell? (ad.add k) = some (.int .i64 x) := cellA hc
            have hcD : (w14.alloc (.cells #[] 2)).drew.cell? (ad.add k) = some (.int .i64 x) := hcE
            have hoF := hide ((show Ow ((w14.alloc (.cells #[] 2)).alloc (.cells #[.int .i64 x] 2)) w14.heap.size 2 (some ⟨w14.heap.size, 0, none⟩) 0 0 [] from hoE.out.alloc _).drew)
            have hbF := hide (bl_drew (bl_alloc hbE.out (.cells #[.int .i64 x] 2)))
            have rKF := hide (rKE.out.alloc (.cells #[.int .i64 x] 2)).drew
            have rlF := hide (show Rd ((w14.alloc (.cells #[] 2)).alloc (.cells #[.int .i64 x] 2)).drew (some ⟨w14.heap.size + 1, 0, none⟩) 1 (([x] : List Int).map (Value.int .i64)) by have := (Rd.lit (w14.alloc (.cells #[] 2)) 2 [.int .i64 x]).drew; simpa using this)
            have hoG := hide ((show Ow ((w14.alloc (.cells #[.int .i64 x] 2)).alloc (.cells #[] 2)) w14.heap.size 2 (some ⟨w14.heap.size + 1, 0, none⟩) 0 0 [] by have := (Ow.lit (w14.alloc (.cells #[.int .i64 x] 2)) 2 [] (by decide)).mono (b' := w14.heap.size) (by simp); simpa using this).drew)
            have hbG := hide (bl_drew (bl_alloc (bl_new w14 (.cells #[.int .i64 x] 2)) (.cells #[] 2)))
            have rKG := hide ((rK.out.alloc (.cells #[.int .i64 x] 2)).alloc (.cells #[] 2)).drew
            have rlG := hide (show Rd ((w14.alloc (.cells #[.int .i64 x] 2)).alloc (.cells #[] 2)).drew (some ⟨w14.heap.size, 0, none⟩) 1 (([x] : List Int).map (Value.int .i64)) from ((Rd.lit w14 2 [.int .i64 x]).alloc (.cells #[] 2)).drew)
            have x1 := hide (show 0 + (k + 1) ≤ maxLen by simp [maxLen]; omega)
            have x2 := hide (show (0 + (k + 1)) * 8 ≤ 140737488355328 by omega)
            have x3 := hide (show k + 1 + 1 ≤ maxLen by simp [maxLen]; omega)
            have x4 := hide (show (k + 1 + 1) * 8 ≤ 140737488355328 by omega)
            have x5 := hide (show k + 1 + 1 + (n - (k + 1)) ≤ maxLen by simp [maxLen]; omega)
            have x6 := hide (show (k + 1 + 1 + (n - (k + 1))) * 8 ≤ 140737488355328 by omega)
            go_region_law (first
              | (refine step_apA elI64 hoD.out hbD.out (Nat.le_refl _) rKD.out (.tmp 83) (.tmp 87) rfl rfl rfl rfl (fun h => by cases h) m3.out x1.out x2.out ?_; intro A9 c9 w9 ho9 h9 _; rw [Nat.zero_add] at ho9 ⊢; rw [List.nil_append] at ho9; have hc9 := cellE h9 hc; have ho9a := hide (ho9.alloc (.cells #[.int .i64 x] 2)); have hb9a := hide (bl_alloc h9 (.cells #[.int .i64 x] 2)); have rl9 := hide (show Rd (w9.alloc (.cells #[.int .i64 x] 2)) (some ⟨w9.heap.size, 0, none⟩) 1 (([x] : List Int).map (Value.int .i64)) from Rd.lit w9 2 [.int .i64 x]); replace ho9 := hide ho9; replace h9 := hide h9)
              | (refine step_apA elI64 hoE.out hbE.out (Nat.le_refl _) rKE.out (.tmp 83) (.tmp 87) rfl rfl rfl rfl (fun h => by cases h) m3.out x1.out x2.out ?_; intro A9 c9 w9 ho9 h9 _; rw [Nat.zero_add] at ho9 ⊢; rw [List.nil_append] at ho9; have hc9 := cellE h9 hc; have ho9a := hide (ho9.alloc (.cells #[.int .i64 x] 2)); have hb9a := hide (bl_alloc h9 (.cells #[.int .i64 x] 2)); have rl9 := hide (show Rd (w9.alloc (.cells #[.int .i64 x] 2)) (some ⟨w9.heap.size, 0, none⟩) 1 (([x] : List Int).map (Value.int .i64)) from Rd.lit w9 2 [.int .i64 x]); replace ho9 := hide ho9; replace h9 := hide h9)
              | (refine step_apA elI64 hoG.out hbG.out (Nat.le_refl _) rKG.out (.tmp 83) (.tmp 87) rfl rfl rfl rfl (fun h => by cases h) m3.out x1.out x2.out ?_; intro A9 c9 w9 ho9 h9 hg9; rw [Nat.zero_add] at ho9 ⊢; rw [List.nil_append] at ho9; have rl9 := hide (rd_grown hg9 rlG.out (by show some (w14.heap.size + 1) ≠ some w14.heap.size; simp)); replace ho9 := hide ho9; replace h9 := hide h9)
              | (refine step_apA elI64 hoF.out hbF.out (Nat.le_refl _) rKF.out (.tmp 83) (.tmp 87) rfl rfl rfl rfl (fun h => by cases h) m3.out x1.out x2.out ?_; intro A9 c9 w9 ho9 h9 hg9; rw [Nat.zero_add] at ho9 ⊢; rw [List.nil_append] at ho9; have rl9 := hide (rd_grown hg9 rlF.out (by show some w14.heap.size ≠ some (w14.heap.size + 1); simp)); replace ho9 := hide ho9; replace h9 := hide h9)
              | (refine step_apA elI64 ho9.out h9.out (Nat.le_refl _) rl9.out (.tmp 88) (.tmp 93) rfl rfl rfl rfl (fun h => by cases h) mO.out x3.out x4.out ?_; intro A10 c10 w10 ho10 h10 _; rw [← List.map_append] at ho10; replace ho10 := hide ho10; replace h10 := hide h10)
              | (refine step_apA elI64 ho9a.out hb9a.out (Nat.le_refl _) rl9.out (.tmp 88) (.tmp 93) rfl rfl rfl rfl (fun h => by cases h) mO.out x3.out x4.out ?_; intro A10 c10 w10 ho10 h10 _; rw [← List.map_append] at ho10; replace ho10 := hide ho10; replace h10 := hide h10)
              | (refine step_apA elI64 ho10.out h10.out (Nat.le_refl _) (rT.out.below h10.out) (.tmp 94) (.tmp 98) rfl rfl rfl rfl (fun h => by cases h) m2.out x5.out x6.out ?_; intro A11 c11 w11 ho11 h11 _; rw [show k + 1 + 1 + (n - (k + 1)) = n + 1 by omega, ← List.map_append] at ho11; rw [show k + 1 + 1 + (n - (k + 1)) = n + 1 by omega]; replace ho11 := hide ho11; replace h11 := hide h11))
            all_goals
              go_wp2_with fail
              go_meet
              exact ⟨A11, c11, rfl, ho11.out, h11.out⟩
          case rest =>
            obtain ⟨A8, cc8, rfl, o8, h1⟩ := hcut
            replace hb := hide (bel_next hb.out h1)
            replace o7 := hide (o7.out.below h1)
            replace o8 := hide o8
            have nil7 := hide o7.out.nilcap
            have nil8 := hide o8.out.nilcap
            clear h1 rK rT rr hc
            go_wp2_with fail
            refine (X1.out _ _ _ nil7.out o7.out.rd).mono ?_
            rintro e w16 ⟨rfl, h1⟩
            replace hb := hide (bel_next hb.out h1)
            replace o8 := hide (o8.out.below h1)
            clear h1 o7
            go_wp2_with fail
            refine (X2.out _ _ _ nil8.out o8.out.rd).mono ?_
            rintro e w17 ⟨rfl, h1⟩
            replace hb := hide (bel_next hb.out h1)
            clear h1 o8
            go_wp2
            go_ret
            exact ⟨rfl, hb.out⟩
set_option maxHeartbeats 4000000 in
theorem descent (A : Option Addr) (n c : Nat) (zs : List Int) (z : Int) (w : World) (h : IsRw .i64 w A n c zs) (hz : (Lit.int .u8 z).wf = true) :
    Calls Try.prog 5 #[.slice A n c, .int .u8 z] w fun e w' => e = .returned (.bool true) ∧ Below w.heap.size w w' := by
  have hr := h.rd
  obtain ⟨hc, hcm⟩ := h.cap
  have hnil := h.nil
  clear h
  obtain ⟨ys, hys⟩ : ∃ ys, ys = zs.take n := ⟨_, rfl⟩
  rw [← hys] at hr
  clear hys
  have hl : ys.length = n := by have := hr.len; simpa using this
  have hb := hide (Below.refl w.heap.size w)
  obtain ⟨z0, z1⟩ := wf_u8 hz
  by_cases hn : 200 < n
  · have hn' : (200 : Int) < n := by omega
    clear hr hl hz
    go_enter Try.func5, Try.ntmps5
    go_wp2_with fail
    refine (awake _).mono ?_
    rintro e w1 ⟨rfl, h1⟩
    replace hb := hide (bel_next hb.out h1)
    clear h1
    go_wp2_with fail
    refine (awake _).mono ?_
    rintro e w2 ⟨rfl, h1⟩
    replace hb := hide (bel_next hb.out h1)
    clear h1
    go_wp2
    go_ret
    exact ⟨rfl, hb.out⟩
  rcases Nat.eq_zero_or_pos n with rfl | hn0
  · obtain rfl : ys = [] := List.length_eq_zero_iff.1 hl
    have X := hide (fun w hr => tr_.Descent A 0 c [] w (by omega) (fun h => ⟨rfl, (hnil h).2⟩) hr)
    rw [show desc [] = -1 from rfl] at X
    have rr := hide hr
    clear hr hl hz hn
    go_enter Try.func5, Try.ntmps5
    go_wp2_with fail
    refine (awake _).mono ?_
    rintro e w1 ⟨rfl, h1⟩
    replace hb := hide (bel_next hb.out h1)
    replace rr := hide (rr.out.below h1)
    clear h1
    go_wp2_with fail
    refine (X.out _ rr.out).mono ?_
    rintro e w2 ⟨rfl, h1⟩
    replace hb := hide (bel_next hb.out h1)
    clear h1
    go_wp2
    go_ret
    exact ⟨rfl, hb.out⟩
  have hA : ∃ ad, A = some ad := by
    cases A with
    | none => have := hnil rfl; omega
    | some ad => exact ⟨ad, rfl⟩
  obtain ⟨ad, rfl⟩ := hA
  obtain ⟨zn, rfl⟩ := Int.eq_ofNat_of_zero_le z0
  rcases desc_spec ys with ⟨_, ha⟩ | ⟨j, hd, hj, hx, ha⟩
  · exact descent_no ad n c zn ys w hr (by omega) hn0 hc hcm (by omega) ha
  · exact descent_yes ad n c (j + 1) j ys zn w hr (by omega) hc hcm hd (by omega) rfl hx (desc_take ha)
end l15_
end Go.Proofs.Ytknnobpnfnajiaa
