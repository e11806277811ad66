/-
  Texts of mine in one file: CvRef. Their conditions stand in the theorems.
-/
import Derived.Test.YtbehflfpdkedgaaGreatDoorRows
import Derived.Test.YtbehflfpdkedgaaGreatDoorQ01
namespace Go.Proofs.YtbehflfpdkedgaaGreatDoor
set_option linter.unusedVariables false
set_option linter.unusedSimpArgs false
set_option maxRecDepth 100000
set_option maxHeartbeats 16000000
open Go.ChangeShapes Go.WideShapes Go.ChangeAt Go.RowKit
theorem tmodI (y k : Int) : y.tmod k = 0 ↔ y % k = 0 := ⟨fun h => Int.emod_eq_zero_of_dvd (Int.dvd_of_tmod_eq_zero h), fun h => Int.tmod_eq_zero_of_dvd (Int.dvd_of_emod_eq_zero h)⟩
theorem ret2i {a b c d : Int} (h : a = b) (h' : c = d) : Ending.returned (.tuple #[.int .i64 a, .int .i64 c]) = .returned (.tuple #[.int .i64 b, .int .i64 d]) := by rw [h, h']
theorem ret3i {a b c d e f : Int} (h : a = b) (h' : c = d) (h'' : e = f) : Ending.returned (.tuple #[.int .i64 a, .int .i64 c, .int .i64 e]) = .returned (.tuple #[.int .i64 b, .int .i64 d, .int .i64 f]) := by rw [h, h', h'']
namespace r4_
theorem IsLeap (y : Int) (w : World) (h0 : -9223372036854775808 ≤ y) (h1 : y < 9223372036854775808) :
 Calls Tryz.prog 139 #[.int .i64 y] w fun e w' => e = .returned (.bool (leap y)) ∧ w = w' := by
 go_enter Tryz.func139, Tryz.ntmps139
 go_wp2
 all_goals go_ret
 all_goals
  refine ⟨retb ?_, rfl⟩
  have k1 := tmodI y 400
  have k2 := tmodI y 4
  have k3 := tmodI y 100
  rw [Bool.eq_iff_iff, leap_iff]
  simp_all
  try omega
theorem MonthDays (y m : Int) (w : World) (h0 : -9223372036854775808 ≤ y) (h1 : y < 9223372036854775808) :
 Calls Tryz.prog 140 #[.int .i64 y, .int .i64 m] w fun e w' => e = .returned (.int .i64 (mdays y m)) ∧ w = w' := by
 have C := hide (fun w => IsLeap y w h0 h1)
 by_cases h2 : m = 2
 ·subst h2
  have hm : mdays y 2 = if leap y then 29 else 28 := rfl
  have Hm := hide hm
  clear hm
  generalize leap y = b at *
  cases b
  all_goals
   go_enter Tryz.func140, Tryz.ntmps140
   go_wp2_with (go_at_call 139; refine (C.out _).mono ?_; rintro e w' ⟨rfl, rfl⟩)
   go_ret
   exact ⟨reti (by rw [Hm.out]; rfl), rfl⟩
 ·rcases (show m = 4 ∨ m = 6 ∨ m = 9 ∨ m = 11 ∨ (¬ m = 4 ∧ ¬ m = 6 ∧ ¬ m = 9 ∧ ¬ m = 11) by omega) with rfl | rfl | rfl | rfl | ⟨h4, h6, h9, h11⟩
  all_goals
   go_enter Tryz.func140, Tryz.ntmps140
   go_wp2
   go_ret
   exact ⟨reti (by simp [mdays, *]), rfl⟩
theorem YearDay (y m d : Int) (w : World) (h0 : -9223372036854775808 ≤ y) (h1 : y < 9223372036854775808) (hm0 : 1 ≤ m) (hm1 : m ≤ 12) (hd0 : 1 ≤ d) (hd1 : d ≤ 31) :
 Calls Tryz.prog 185 #[.int .i64 y, .int .i64 m, .int .i64 d] w fun e w' => e = .returned (.int .i64 (yday y m d)) ∧ w = w' := by
 obtain ⟨q, rfl⟩ : ∃ q : Nat, m = (q : Int) + 1 := ⟨(m - 1).toNat, by omega⟩
 have hq : q ≤ 11 := by omega
 have hfin := hide (show yday y ((q : Int) + 1) d = d - 1 + cum y q by unfold yday; rw [show ((q : Int) + 1 - 1).toNat = q by omega]; omega)
 have C := hide (fun m w => MonthDays y m w h0 h1)
 have B := hide (cum_bd y)
 have D := hide (mdays_bd y)
 clear hm0 hm1
 go_enter Tryz.func185, Tryz.ntmps185
 go_wp2
 go_loop [7, 8] (fun n k => ∃ j : Nat, j ≤ q ∧ k = .int .i64 ((j : Int) + 1) ∧ n = .int .i64 (d - 1 + cum y j)) (fun _ k => q + 1 - (intOf k).toNat)
 case atStart => exact ⟨0, by omega, rfl, by simp [cum]⟩
 case round =>
  obtain ⟨j, hj, rfl, rfl⟩ := hrel
  by_cases hlt : j < q
  ·have b1 := B.out j
   have b2 := D.out ((j : Int) + 1)
   have s1 := hide (show cum y (j + 1) = cum y j + mdays y ((j : Int) + 1) from rfl)
   have C1 := hide (C.out ((j : Int) + 1))
   generalize cum y j = c at *
   generalize mdays y ((j : Int) + 1) = x at *
   obtain ⟨b1, b1'⟩ := b1
   obtain ⟨b2, b2'⟩ := b2
   go_wp2_with (go_at_call 140; refine (C1.out _).mono ?_; rintro e w' ⟨rfl, rfl⟩)
   go_round
   case rel => exact ⟨j + 1, by omega, by go_num, by rw [s1.out]; exact congrArg _ (by omega)⟩
   case measure => simp [intOf]; omega
  ·obtain rfl : j = q := by omega
   go_wp2
   go_ret
   exact ⟨reti hfin.out.symm, rfl⟩
theorem era (y : Int) (w : World) (h0 : -2000000000000 ≤ y) (h1 : y ≤ 2000000000000) :
 Calls Tryz.prog 184 #[.int .i64 y] w fun e w' => e = .returned (.tuple #[.int .i64 ((y - 2000) / 400), .int .i64 ((y - 2000) % 400)]) ∧ w = w' := by
 by_cases hp : 2000 ≤ y
 ·go_enter Tryz.func184, Tryz.ntmps184
  go_wp2
  go_ret2
  exact ⟨rfl, rfl⟩
 ·obtain ⟨z, hz⟩ : ∃ z : Nat, y - 2000 = -(z : Int) := ⟨(2000 - y).toNat, by omega⟩
  have e1 : (y - 2000).tdiv 400 = -((z : Int) / 400) := by rw [hz, Int.neg_tdiv, Int.tdiv_eq_ediv_of_nonneg (by omega)]
  have e2 : (y - 2000).tmod 400 = -((z : Int) % 400) := by rw [hz, Int.neg_tmod, Int.tmod_eq_emod_of_nonneg (by omega)]
  go_enter Tryz.func184, Tryz.ntmps184
  go_wp2
  all_goals go_ret2
  all_goals exact ⟨ret2i (by omega) (by omega), rfl⟩
theorem Days (y m d : Int) (w : World) (h0 : -2000000000000 ≤ y) (h1 : y ≤ 2000000000000) (hm0 : 1 ≤ m) (hm1 : m ≤ 12) (hd0 : 1 ≤ d) (hd1 : d ≤ 31) :
 Calls Tryz.prog 168 #[.int .i64 y, .int .i64 m, .int .i64 d] w fun e w' => e = .returned (.int .i64 (days y m d)) ∧ w = w' := by
 obtain ⟨k, hk⟩ : ∃ k, k = (y - 2000) / 400 := ⟨_, rfl⟩
 obtain ⟨r, hr⟩ : ∃ r : Nat, (r : Int) = (y - 2000) % 400 := ⟨((y - 2000) % 400).toNat, by omega⟩
 have hy : y = 2000 + (r : Int) + 400 * k := by omega
 have hrb : r < 400 := by omega
 have E := hide (fun w => era y w h0 h1)
 rw [← hk, ← hr] at E
 have Y := hide (fun w => YearDay y m d w (by omega) (by omega) hm0 hm1 hd0 hd1)
 have hyb : 0 ≤ yday y m d ∧ yday y m d ≤ 400 := by
  have := cum_bd y (m - 1).toNat
  unfold yday
  omega
 have hfin : days y m d = 10957 + k * 146097 + (ystart (2000 + r) - 10957) + yday y m d := by
  unfold days
  rw [hy, ystart_per]
  omega
 have Hfin := hide hfin
 have L := hide (fun i w => IsLeap i w)
 have hkb : -5000000010 ≤ k ∧ k ≤ 5000000010 := by omega
 clear hfin hk hr
 generalize yday y m d = yd at *
 clear hy
 obtain ⟨k0, k1⟩ := hkb
 obtain ⟨yd0, yd1⟩ := hyb
 go_enter Tryz.func168, Tryz.ntmps168
 go_wp2_with (go_at_call 184; refine (E.out _).mono ?_; rintro e w' ⟨rfl, rfl⟩)
 go_loop [9, 10] (fun n i => ∃ (j : Nat) (v : Int), j ≤ r ∧ i = .int .i64 j ∧ n = .int .i64 v ∧ Hid (v = 10957 + k * 146097 + (ystart (2000 + j) - 10957))) (fun _ i => r - (intOf i).toNat)
 case atStart => exact ⟨0, _, by omega, rfl, rfl, hide (by rw [show ystart (2000 + ((0 : Nat) : Int)) = 10957 from rfl]; omega)⟩
 case round =>
  obtain ⟨j, v, hj, rfl, rfl, hv⟩ := hrel
  have hs1 : 10957 ≤ ystart (2000 + j) := ystart_mono (show (2000 : Int) ≤ 2000 + j by omega)
  have hs2 : ystart (2000 + j) ≤ 157054 := ystart_mono (show (2000 : Int) + j ≤ 2400 by omega)
  have hvv := hv.out
  have hv1 : -10000000000000000 ≤ v := by omega
  have hv2 : v ≤ 10000000000000000 := by omega
  by_cases hlt : j < r
  ·have hst := ystart_succ (2000 + j)
   unfold ylen at hst
   rw [leap_2000] at hst
   have L1 := hide (fun w => L.out j w (by omega) (by omega))
   have Hst := hide (show v + (if leap (j : Int) = true then 366 else 365) = 10957 + k * 146097 + (ystart (2000 + ((j + 1 : Nat) : Int)) - 10957) by
    rw [show (2000 : Int) + ((j + 1 : Nat) : Int) = 2000 + j + 1 by omega]; omega)
   clear hst hvv hs1 hs2
   generalize leap (j : Int) = b at *
   cases b
   all_goals
    go_wp2_with (go_at_call 139; refine (L1.out _).mono ?_; rintro e w' ⟨rfl, rfl⟩)
    go_round
    case rel => exact ⟨j + 1, _, by omega, by go_num, rfl, hide (by have := Hst.out; rw [show ((j + 1 : Nat) : Int) = (j : Int) + 1 by omega] at this ⊢; simp at this; omega)⟩
    case measure => simp [intOf]; omega
  ·obtain rfl : j = r := by omega
   have Hf := hide (show v + yd = days y m d by rw [Hfin.out]; omega)
   clear hvv hs1 hs2
   go_wp2_with (go_at_call 185; refine (Y.out _).mono ?_; rintro e w' ⟨rfl, rfl⟩)
   go_ret
   exact ⟨reti Hf.out, rfl⟩
theorem Weekday (n : Int) (w : World) (h0 : -1000000000000000 ≤ n) (h1 : n ≤ 1000000000000000) :
 Calls Tryz.prog 119 #[.int .i64 n] w fun e w' => e = .returned (.int .i64 ((n + 4) % 7)) ∧ w = w' := by
 by_cases hp : 3 ≤ n
 ·go_enter Tryz.func119, Tryz.ntmps119
  go_wp2
  go_ret
  exact ⟨reti (by omega), rfl⟩
 ·obtain ⟨z, hz⟩ : ∃ z : Nat, n - 3 = -(z : Int) := ⟨(3 - n).toNat, by omega⟩
  have e2 : (n - 3).tmod 7 = -((z : Int) % 7) := by rw [hz, Int.neg_tmod, Int.tmod_eq_emod_of_nonneg (by omega)]
  go_enter Tryz.func119, Tryz.ntmps119
  go_wp2
  all_goals go_ret
  all_goals exact ⟨reti (by omega), rfl⟩
theorem Date (n Y M D : Int) (w : World) (h0 : -1000000000000000 ≤ n) (h1 : n ≤ 1000000000000000) (h : IsDate n Y M D) :
 Calls Tryz.prog 118 #[.int .i64 n] w fun e w' => e = .returned (.tuple #[.int .i64 Y, .int .i64 M, .int .i64 D]) ∧ w = w' := by
 obtain ⟨k, hk⟩ : ∃ k, k = (n - 10957) / 146097 := ⟨_, rfl⟩
 obtain ⟨r, hr⟩ : ∃ r, r = (n - 10957) % 146097 := ⟨_, rfl⟩
 obtain ⟨q, mm, yd, rfl, hq, rfl, hmm, hyd, hyd0, hyd1, hc1, hc2, rfl⟩ := h.era (k := k) (r := r) (by omega) (by omega) (by omega)
 clear h
 have L := hide (fun i w => IsLeap i w)
 have C := hide (fun m w => MonthDays q m w (by omega) (by omega))
 have Hyd := hide hyd
 have Hc1 := hide hc1
 have Hc2 := hide hc2
 clear hyd hc1 hc2
 have hcase : (10957 ≤ n ∧ k = (n - 10957) / 146097 ∧ r = (n - 10957) % 146097) ∨ (∃ z : Nat, n - 10957 = -(z : Int) ∧ 1 ≤ z ∧ (n - 10957).tdiv 146097 = -((z : Int) / 146097) ∧ (n - 10957).tmod 146097 = -((z : Int) % 146097)) := by
  by_cases h : 10957 ≤ n
  ·exact .inl ⟨h, hk, hr⟩
  ·refine .inr ⟨(10957 - n).toNat, by omega, by omega, ?_, ?_⟩
   ·rw [show n - 10957 = -(((10957 - n).toNat : Nat) : Int) by omega, Int.neg_tdiv, Int.tdiv_eq_ediv_of_nonneg (by omega)]
   ·rw [show n - 10957 = -(((10957 - n).toNat : Nat) : Int) by omega, Int.neg_tmod, Int.tmod_eq_emod_of_nonneg (by omega)]
 have Hk := hide hk
 have Hr := hide hr
 clear hk hr
 have hr0 : 0 ≤ r ∧ r < 146097 := by have := Hr.out; omega
 have hk0 : -10000000000 ≤ k ∧ k ≤ 10000000000 := by have := Hk.out; omega
 obtain ⟨r0, r1⟩ := hr0
 obtain ⟨k0, k1⟩ := hk0
 rcases hcase with ⟨hn, e1, e2⟩ | ⟨z, hz, hz1, e1, e2⟩
 ·clear e1 e2
  go_enter Tryz.func118, Tryz.ntmps118
  go_wp2
  go_loop [6, 7] (fun n y => ∃ (j : Nat) (v : Int), j ≤ q ∧ y = .int .i64 j ∧ n = .int .i64 v ∧ Hid (v = r - (ystart (2000 + j) - 10957))) (fun _ y => q - (intOf y).toNat)
  case atStart => exact ⟨0, _, by omega, rfl, rfl, hide (by rw [show ystart (2000 + ((0 : Nat) : Int)) = 10957 from rfl]; have := Hr.out; omega)⟩
  case round =>
   obtain ⟨j, v, hj, rfl, rfl, hv⟩ := hrel
   have hvv := hv.out
   have hs1 : 10957 ≤ ystart (2000 + j) := ystart_mono (show (2000 : Int) ≤ 2000 + j by omega)
   have hst := ystart_succ (2000 + j)
   unfold ylen at hst
   rw [leap_2000] at hst
   have L1 := hide (fun w => L.out j w (by omega) (by omega))
   have hyy := Hyd.out
   have hb := ylen_bd q
   by_cases hlt : j < q
   ·have hs2 : ystart (2000 + j + 1) ≤ ystart (2000 + q) := ystart_mono (by omega)
    have Hst := hide (show v - (if leap (j : Int) = true then 366 else 365) = r - (ystart (2000 + ((j + 1 : Nat) : Int)) - 10957) by
     rw [show (2000 : Int) + ((j + 1 : Nat) : Int) = 2000 + j + 1 by omega]; omega)
    have hge : (if leap (j : Int) = true then 366 else 365) ≤ v := by omega
    have hv1 : v ≤ 146097 := by omega
    clear hst hvv hs1 hs2 hyy hb
    generalize leap (j : Int) = b at *
    cases b
    all_goals
     simp at hge
     go_wp2_with (go_at_call 139; refine (L1.out _).mono ?_; rintro e w' ⟨rfl, rfl⟩)
     go_round
     case rel => exact ⟨j + 1, _, by omega, by go_num, rfl, hide (by have := Hst.out; rw [show ((j + 1 : Nat) : Int) = (j : Int) + 1 by omega] at this ⊢; simp at this; omega)⟩
     case measure => simp [intOf]; omega
   ·obtain rfl : j = q := by omega
    have hvy : v = yd := by omega
    have hlt2 : yd < (if leap (j : Int) = true then 366 else 365) := hyd1
    subst hvy
    clear hst hvv hs1 hyy hb hlt hv hyd1
    have F0 := hide (show v - cum j 0 = v by simp [cum])
    generalize leap (j : Int) = b at *
    cases b
    all_goals
     simp at hlt2
     go_wp2_with (go_at_call 139; refine (L1.out _).mono ?_; rintro e w' ⟨rfl, rfl⟩)
     go_loop [6, 9] (fun n m => ∃ (i : Nat) (u : Int), i ≤ mm ∧ m = .int .i64 ((i : Int) + 1) ∧ n = .int .i64 u ∧ Hid (u = v - cum j i)) (fun _ m => mm + 1 - (intOf m).toNat)
     case atStart => exact ⟨0, _, by omega, rfl, rfl, hide F0.out.symm⟩
     case round =>
      obtain ⟨i, u, hi, rfl, rfl, hu⟩ := hrel
      have huu := hu.out
      have C1 := hide (C.out ((i : Int) + 1))
      have b2 := mdays_bd j ((i : Int) + 1)
      have b1 := cum_bd j i
      have hcs : cum j (i + 1) = cum j i + mdays j ((i : Int) + 1) := rfl
      have h1 := Hc1.out
      have h2 := Hc2.out
      by_cases hlt : i < mm
      ·have hcm := cum_mono j (show i + 1 ≤ mm by omega)
       have hge : mdays j ((i : Int) + 1) ≤ u := by omega
       have hun := hide (show u - mdays j ((i : Int) + 1) = v - cum j (i + 1) by omega)
       have hub : u ≤ 366 := by omega
       clear huu hcs h1 h2 hcm b1
       generalize mdays j ((i : Int) + 1) = x at *
       obtain ⟨b2, b3⟩ := b2
       go_wp2_with (go_at_call 140; refine (C1.out _).mono ?_; rintro e w' ⟨rfl, rfl⟩)
       go_round
       case rel => exact ⟨i + 1, _, by omega, by go_num, rfl, hun⟩
       case measure => simp [intOf]; omega
      ·obtain rfl : i = mm := by omega
       have hlt2 : u < mdays j ((i : Int) + 1) := by omega
       have hu0 : 0 ≤ u := by omega
       have hD := hide (show u + 1 = v - cum j i + 1 by omega)
       clear huu hcs h1 h2 b1
       generalize mdays j ((i : Int) + 1) = x at *
       obtain ⟨b2, b3⟩ := b2
       have hkk := Hk.out
       go_wp2_with (go_at_call 140; refine (C1.out _).mono ?_; rintro e w' ⟨rfl, rfl⟩)
       go_ret3
       exact ⟨ret3i (by have := Hk.out; omega) rfl hD.out, rfl⟩
 ·rcases (show 0 < (z : Int) % 146097 ∨ (z : Int) % 146097 = 0 by omega) with hz2 | hz2
  all_goals
   have Z := hide (And.intro hz hz2)
   have hzb : (z : Int) ≤ 2000000000000000 := by omega
   clear hz
  ·go_enter Tryz.func118, Tryz.ntmps118
   go_wp2
   go_loop [6, 7] (fun n y => ∃ (j : Nat) (v : Int), j ≤ q ∧ y = .int .i64 j ∧ n = .int .i64 v ∧ Hid (v = r - (ystart (2000 + j) - 10957))) (fun _ y => q - (intOf y).toNat)
   case atStart => exact ⟨0, _, by omega, rfl, rfl, hide (by rw [show ystart (2000 + ((0 : Nat) : Int)) = 10957 from rfl]; have := Hr.out; have := Z.out; omega)⟩
   case round =>
    obtain ⟨j, v, hj, rfl, rfl, hv⟩ := hrel
    have hvv := hv.out
    have hs1 : 10957 ≤ ystart (2000 + j) := ystart_mono (show (2000 : Int) ≤ 2000 + j by omega)
    have hst := ystart_succ (2000 + j)
    unfold ylen at hst
    rw [leap_2000] at hst
    have L1 := hide (fun w => L.out j w (by omega) (by omega))
    have hyy := Hyd.out
    have hb := ylen_bd q
    by_cases hlt : j < q
    ·have hs2 : ystart (2000 + j + 1) ≤ ystart (2000 + q) := ystart_mono (by omega)
     have Hst := hide (show v - (if leap (j : Int) = true then 366 else 365) = r - (ystart (2000 + ((j + 1 : Nat) : Int)) - 10957) by
      rw [show (2000 : Int) + ((j + 1 : Nat) : Int) = 2000 + j + 1 by omega]; omega)
     have hge : (if leap (j : Int) = true then 366 else 365) ≤ v := by omega
     have hv1 : v ≤ 146097 := by omega
     clear hst hvv hs1 hs2 hyy hb
     generalize leap (j : Int) = b at *
     cases b
     all_goals
      simp at hge
      go_wp2_with (go_at_call 139; refine (L1.out _).mono ?_; rintro e w' ⟨rfl, rfl⟩)
      go_round
      case rel => exact ⟨j + 1, _, by omega, by go_num, rfl, hide (by have := Hst.out; rw [show ((j + 1 : Nat) : Int) = (j : Int) + 1 by omega] at this ⊢; simp at this; omega)⟩
      case measure => simp [intOf]; omega
    ·obtain rfl : j = q := by omega
     have hvy : v = yd := by omega
     have hlt2 : yd < (if leap (j : Int) = true then 366 else 365) := hyd1
     subst hvy
     clear hst hvv hs1 hyy hb hlt hv hyd1
     have F0 := hide (show v - cum j 0 = v by simp [cum])
     generalize leap (j : Int) = b at *
     cases b
     all_goals
      simp at hlt2
      go_wp2_with (go_at_call 139; refine (L1.out _).mono ?_; rintro e w' ⟨rfl, rfl⟩)
      go_loop [6, 9] (fun n m => ∃ (i : Nat) (u : Int), i ≤ mm ∧ m = .int .i64 ((i : Int) + 1) ∧ n = .int .i64 u ∧ Hid (u = v - cum j i)) (fun _ m => mm + 1 - (intOf m).toNat)
      case atStart => exact ⟨0, _, by omega, rfl, rfl, hide F0.out.symm⟩
      case round =>
       obtain ⟨i, u, hi, rfl, rfl, hu⟩ := hrel
       have huu := hu.out
       have C1 := hide (C.out ((i : Int) + 1))
       have b2 := mdays_bd j ((i : Int) + 1)
       have b1 := cum_bd j i
       have hcs : cum j (i + 1) = cum j i + mdays j ((i : Int) + 1) := rfl
       have h1 := Hc1.out
       have h2 := Hc2.out
       by_cases hlt : i < mm
       ·have hcm := cum_mono j (show i + 1 ≤ mm by omega)
        have hge : mdays j ((i : Int) + 1) ≤ u := by omega
        have hun := hide (show u - mdays j ((i : Int) + 1) = v - cum j (i + 1) by omega)
        have hub : u ≤ 366 := by omega
        clear huu hcs h1 h2 hcm b1
        generalize mdays j ((i : Int) + 1) = x at *
        obtain ⟨b2, b3⟩ := b2
        go_wp2_with (go_at_call 140; refine (C1.out _).mono ?_; rintro e w' ⟨rfl, rfl⟩)
        go_round
        case rel => exact ⟨i + 1, _, by omega, by go_num, rfl, hun⟩
        case measure => simp [intOf]; omega
       ·obtain rfl : i = mm := by omega
        have hlt2 : u < mdays j ((i : Int) + 1) := by omega
        have hu0 : 0 ≤ u := by omega
        have hD := hide (show u + 1 = v - cum j i + 1 by omega)
        clear huu hcs h1 h2 b1
        generalize mdays j ((i : Int) + 1) = x at *
        obtain ⟨b2, b3⟩ := b2
        have hkk := Hk.out
        go_wp2_with (go_at_call 140; refine (C1.out _).mono ?_; rintro e w' ⟨rfl, rfl⟩)
        go_ret3
        exact ⟨ret3i (by have := Hk.out; have := Z.out; omega) rfl hD.out, rfl⟩
  ·rw [hz2, Int.neg_zero] at e2
   clear hz2
   go_enter Tryz.func118, Tryz.ntmps118
   go_wp2
   go_loop [6, 7] (fun n y => ∃ (j : Nat) (v : Int), j ≤ q ∧ y = .int .i64 j ∧ n = .int .i64 v ∧ Hid (v = r - (ystart (2000 + j) - 10957))) (fun _ y => q - (intOf y).toNat)
   case atStart => exact ⟨0, _, by omega, rfl, rfl, hide (by rw [show ystart (2000 + ((0 : Nat) : Int)) = 10957 from rfl]; have := Hr.out; have := Z.out; omega)⟩
   case round =>
    obtain ⟨j, v, hj, rfl, rfl, hv⟩ := hrel
    have hvv := hv.out
    have hs1 : 10957 ≤ ystart (2000 + j) := ystart_mono (show (2000 : Int) ≤ 2000 + j by omega)
    have hst := ystart_succ (2000 + j)
    unfold ylen at hst
    rw [leap_2000] at hst
    have L1 := hide (fun w => L.out j w (by omega) (by omega))
    have hyy := Hyd.out
    have hb := ylen_bd q
    by_cases hlt : j < q
    ·have hs2 : ystart (2000 + j + 1) ≤ ystart (2000 + q) := ystart_mono (by omega)
     have Hst := hide (show v - (if leap (j : Int) = true then 366 else 365) = r - (ystart (2000 + ((j + 1 : Nat) : Int)) - 10957) by
      rw [show (2000 : Int) + ((j + 1 : Nat) : Int) = 2000 + j + 1 by omega]; omega)
     have hge : (if leap (j : Int) = true then 366 else 365) ≤ v := by omega
     have hv1 : v ≤ 146097 := by omega
     clear hst hvv hs1 hs2 hyy hb
     generalize leap (j : Int) = b at *
     cases b
     all_goals
      simp at hge
      go_wp2_with (go_at_call 139; refine (L1.out _).mono ?_; rintro e w' ⟨rfl, rfl⟩)
      go_round
      case rel => exact ⟨j + 1, _, by omega, by go_num, rfl, hide (by have := Hst.out; rw [show ((j + 1 : Nat) : Int) = (j : Int) + 1 by omega] at this ⊢; simp at this; omega)⟩
      case measure => simp [intOf]; omega
    ·obtain rfl : j = q := by omega
     have hvy : v = yd := by omega
     have hlt2 : yd < (if leap (j : Int) = true then 366 else 365) := hyd1
     subst hvy
     clear hst hvv hs1 hyy hb hlt hv hyd1
     have F0 := hide (show v - cum j 0 = v by simp [cum])
     generalize leap (j : Int) = b at *
     cases b
     all_goals
      simp at hlt2
      go_wp2_with (go_at_call 139; refine (L1.out _).mono ?_; rintro e w' ⟨rfl, rfl⟩)
      go_loop [6, 9] (fun n m => ∃ (i : Nat) (u : Int), i ≤ mm ∧ m = .int .i64 ((i : Int) + 1) ∧ n = .int .i64 u ∧ Hid (u = v - cum j i)) (fun _ m => mm + 1 - (intOf m).toNat)
      case atStart => exact ⟨0, _, by omega, rfl, rfl, hide F0.out.symm⟩
      case round =>
       obtain ⟨i, u, hi, rfl, rfl, hu⟩ := hrel
       have huu := hu.out
       have C1 := hide (C.out ((i : Int) + 1))
       have b2 := mdays_bd j ((i : Int) + 1)
       have b1 := cum_bd j i
       have hcs : cum j (i + 1) = cum j i + mdays j ((i : Int) + 1) := rfl
       have h1 := Hc1.out
       have h2 := Hc2.out
       by_cases hlt : i < mm
       ·have hcm := cum_mono j (show i + 1 ≤ mm by omega)
        have hge : mdays j ((i : Int) + 1) ≤ u := by omega
        have hun := hide (show u - mdays j ((i : Int) + 1) = v - cum j (i + 1) by omega)
        have hub : u ≤ 366 := by omega
        clear huu hcs h1 h2 hcm b1
        generalize mdays j ((i : Int) + 1) = x at *
        obtain ⟨b2, b3⟩ := b2
        go_wp2_with (go_at_call 140; refine (C1.out _).mono ?_; rintro e w' ⟨rfl, rfl⟩)
        go_round
        case rel => exact ⟨i + 1, _, by omega, by go_num, rfl, hun⟩
        case measure => simp [intOf]; omega
       ·obtain rfl : i = mm := by omega
        have hlt2 : u < mdays j ((i : Int) + 1) := by omega
        have hu0 : 0 ≤ u := by omega
        have hD := hide (show u + 1 = v - cum j i + 1 by omega)
        clear huu hcs h1 h2 b1
        generalize mdays j ((i : Int) + 1) = x at *
        obtain ⟨b2, b3⟩ := b2
        have hkk := Hk.out
        go_wp2_with (go_at_call 140; refine (C1.out _).mono ?_; rintro e w' ⟨rfl, rfl⟩)
        go_ret3
        exact ⟨ret3i (by have := Hk.out; have := Z.out; omega) rfl hD.out, rfl⟩
end r4_
end Go.Proofs.YtbehflfpdkedgaaGreatDoor
