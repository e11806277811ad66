/-
  Texts of mine in one file: Civil, Tab. Their conditions stand in the theorems.
-/
import Derived.Test.YtbehflfpdkedgaaGreatDoorQ02
import Derived.Lib.LaidTab
import Derived.MakeChecks
import Derived.LaidHandle
namespace Go.Proofs.YtbehflfpdkedgaaGreatDoor
set_option linter.unusedVariables false
set_option linter.unusedSimpArgs false
set_option maxRecDepth 100000
set_option maxHeartbeats 16000000
open Go.ChangeShapes Go.WideShapes Go.ChangeAt Go.RowKit
def Tb (w : World) : Prop := 1 < w.heap.size ∧ ∀ (i : Nat) (v : Int), [31, 28, 31, 30, 31, 30, 31, 31, 30, 31, 30, 31][i]? = some v → w.cell? ⟨1, i, none⟩ = some (.int .i64 v)
theorem Tb.below {w w' : World} (h : Tb w) (hb : Below w.heap.size w w') : Tb w' := ⟨Nat.lt_of_lt_of_le h.1 hb.size, fun i v hi => cellE hb (h.2 i v hi)⟩
namespace cv_
theorem divide_ (v n : Int) (w : World) (hn : n = 400 ∨ n = 146097 ∨ n = 7) (h0 : -9223372036854775808 ≤ v) (h1 : v < 9223372036854775808) :
 Calls Tryz.prog 199 #[.int .i64 v, .int .i64 n] w fun e w' => e = .returned (.tuple #[.int .i64 (v / n), .int .i64 (v % n)]) ∧ Below w.heap.size w w' := by
 by_cases hp : 0 ≤ v
 ·rcases hn with rfl | rfl | rfl
  all_goals
   go_enter Tryz.func199, Tryz.ntmps199
   go_wp2
   go_region
   go_wp2
   go_ret2
   exact ⟨rfl, bl_drew (bl_refl _)⟩
 ·rcases hn with rfl | rfl | rfl
  all_goals
   obtain ⟨z, hz⟩ : ∃ z : Nat, v = -(z : Int) := ⟨(-v).toNat, by omega⟩
  ·have e1 : v.tdiv 400 = -((z : Int) / 400) := by rw [hz, Int.neg_tdiv, Int.tdiv_eq_ediv_of_nonneg (by omega)]
   have e2 : v.tmod 400 = -((z : Int) % 400) := by rw [hz, Int.neg_tmod, Int.tmod_eq_emod_of_nonneg (by omega)]
   go_enter Tryz.func199, Tryz.ntmps199
   go_wp2
   go_region
   go_wp2
   all_goals go_ret2
   all_goals exact ⟨ret2i (by omega) (by omega), bl_drew (bl_refl _)⟩
  ·have e1 : v.tdiv 146097 = -((z : Int) / 146097) := by rw [hz, Int.neg_tdiv, Int.tdiv_eq_ediv_of_nonneg (by omega)]
   have e2 : v.tmod 146097 = -((z : Int) % 146097) := by rw [hz, Int.neg_tmod, Int.tmod_eq_emod_of_nonneg (by omega)]
   go_enter Tryz.func199, Tryz.ntmps199
   go_wp2
   go_region
   go_wp2
   all_goals go_ret2
   all_goals exact ⟨ret2i (by omega) (by omega), bl_drew (bl_refl _)⟩
  ·have e1 : v.tdiv 7 = -((z : Int) / 7) := by rw [hz, Int.neg_tdiv, Int.tdiv_eq_ediv_of_nonneg (by omega)]
   have e2 : v.tmod 7 = -((z : Int) % 7) := by rw [hz, Int.neg_tmod, Int.tmod_eq_emod_of_nonneg (by omega)]
   go_enter Tryz.func199, Tryz.ntmps199
   go_wp2
   go_region
   go_wp2
   all_goals go_ret2
   all_goals exact ⟨ret2i (by omega) (by omega), bl_drew (bl_refl _)⟩
theorem yearStart_ (y : Int) (w : World) (h0 : -2000000000000 ≤ y) (h1 : y ≤ 2000000000000) :
 Calls Tryz.prog 201 #[.int .i64 y] w fun e w' => e = .returned (.int .i64 (ystart y + 719528)) ∧ Below w.heap.size w w' := by
 have D := hide (divide_ y 400 w (.inl rfl) (by omega) (by omega))
 obtain ⟨k, hk⟩ : ∃ k, k = y / 400 := ⟨_, rfl⟩
 obtain ⟨r, hr⟩ : ∃ r, r = y % 400 := ⟨_, rfl⟩
 rw [← hk, ← hr] at D
 have hr0 : 0 ≤ r := by omega
 have hr1 : r < 400 := by omega
 have hk0 : -5000000010 ≤ k := by omega
 have hk1 : k ≤ 5000000010 := by omega
 have hf := hide (show ystart y + 719528 = if r = 0 then k * 146097 + 365 * r else k * 146097 + 365 * r + 1 + (r - 1) / 4 - (r - 1) / 100 by
  unfold ystart
  split <;> omega)
 clear hk hr
 generalize ystart y + 719528 = v at *
 by_cases hz : r = 0
 ·subst hz
  go_enter Tryz.func201, Tryz.ntmps201
  go_wp2_with fail
  refine (D.out).mono ?_
  rintro e w1 ⟨rfl, hb⟩
  replace hb := hide hb
  go_wp2
  go_ret
  exact ⟨reti (by rw [hf.out]; simp), hb.out⟩
 ·go_enter Tryz.func201, Tryz.ntmps201
  go_wp2_with fail
  refine (D.out).mono ?_
  rintro e w1 ⟨rfl, hb⟩
  replace hb := hide hb
  go_wp2
  go_ret
  exact ⟨reti (by rw [hf.out, if_neg hz]), hb.out⟩
theorem epoch_ (w : World) : Calls Tryz.prog 200 #[] w fun e w' => e = .returned (.int .i64 719528) ∧ Below w.heap.size w w' := by
 have D := hide (yearStart_ 1970 w (by omega) (by omega))
 rw [show ystart 1970 + 719528 = 719528 from rfl] at D
 go_enter Tryz.func200, Tryz.ntmps200
 go_wp2_with fail
 refine (D.out).mono ?_
 rintro e w1 ⟨rfl, hb⟩
 replace hb := hide hb
 go_wp2
 go_ret
 exact ⟨rfl, hb.out⟩
theorem IsLeap_ (y : Int) (w : World) (h0 : -9223372036854775808 ≤ y) (h1 : y < 9223372036854775808) :
 Calls Tryz.prog 211 #[.int .i64 y] w fun e w' => e = .returned (.bool (leap y)) ∧ w = w' := by
 go_enter Tryz.func211, Tryz.ntmps211
 go_wp2
 all_goals go_ret
 all_goals
  refine ⟨retb ?_, rfl⟩
  have k1 := tmodI y 400
  have k2 := tmodI y 4
  have k3 := tmodI y 100
  rw [Bool.eq_iff_iff, leap_iff]
  simp_all
  try omega
theorem IsLeap (y : Int) (w : World) (hT : Tb w) (h0 : -1099511627776 ≤ y) (h1 : y ≤ 1099511627776) :
 Calls Tryz.prog 211 #[.int .i64 y] w fun e w' => e = .returned (.bool (leap y)) ∧ Below w.heap.size w w' :=
 (IsLeap_ y w (by omega) (by omega)).mono (by rintro e w' ⟨rfl, rfl⟩; exact ⟨rfl, bl_refl _⟩)
theorem MonthDays_ (y m : Int) (w : World) (hT : Tb w) (h0 : -9223372036854775808 ≤ y) (h1 : y < 9223372036854775808) (h2 : 1 ≤ m) (h3 : m ≤ 12) :
 Calls Tryz.prog 202 #[.int .i64 y, .int .i64 m] w fun e w' => e = .returned (.int .i64 (mdays y m)) ∧ w = w' := by
 have C := hide (IsLeap_ y w h0 h1)
 obtain ⟨k, rfl⟩ : ∃ k : Nat, m = (k : Int) + 1 := ⟨(m - 1).toNat, by omega⟩
 have hk : k ≤ 11 := by omega
 by_cases hm : k = 1
 ·subst hm
  have hcell : w.cell? ⟨1, 1, none⟩ = some (.int .i64 28) := hT.2 1 28 rfl
  have hf := hide (show mdays y (((1 : Nat) : Int) + 1) = if leap y then 29 else 28 from rfl)
  generalize leap y = b at *
  cases b
  all_goals
   go_enter Tryz.func202, Tryz.ntmps202
   go_wp2_with (go_at_call 211; refine (C.out).mono ?_; rintro e w' ⟨rfl, rfl⟩)
   go_ret
   exact ⟨reti (by rw [hf.out]; rfl), rfl⟩
 ·have hcell : ∃ v, w.cell? ⟨1, k, none⟩ = some (.int .i64 v) ∧ Hid (v = mdays y ((k : Int) + 1)) := by
   have h := hT.2 k
   rcases (show k = 0 ∨ k = 2 ∨ k = 3 ∨ k = 4 ∨ k = 5 ∨ k = 6 ∨ k = 7 ∨ k = 8 ∨ k = 9 ∨ k = 10 ∨ k = 11 by omega) with rfl | rfl | rfl | rfl | rfl | rfl | rfl | rfl | rfl | rfl | rfl
   all_goals exact ⟨_, h _ rfl, hide (by simp [mdays])⟩
  obtain ⟨v, hc, hv⟩ := hcell
  go_enter Tryz.func202, Tryz.ntmps202
  go_wp2
  go_ret
  exact ⟨reti hv.out, rfl⟩
theorem MonthDays (y m : Int) (w : World) (hT : Tb w) (h0 : -1099511627776 ≤ y) (h1 : y ≤ 1099511627776) (h2 : 1 ≤ m) (h3 : m ≤ 12) :
 Calls Tryz.prog 202 #[.int .i64 y, .int .i64 m] w fun e w' => e = .returned (.int .i64 (mdays y m)) ∧ Below w.heap.size w w' :=
 (MonthDays_ y m w hT (by omega) (by omega) h2 h3).mono (by rintro e w' ⟨rfl, rfl⟩; exact ⟨rfl, bl_refl _⟩)
theorem YearDay_ (y m d : Int) (w : World) (hT : Tb w) (h0 : -9223372036854775808 ≤ y) (h1 : y < 9223372036854775808) (hm0 : 1 ≤ m) (hm1 : m ≤ 12) (hd0 : 1 ≤ d) (hd1 : d ≤ 31) :
 Calls Tryz.prog 226 #[.int .i64 y, .int .i64 m, .int .i64 d] w fun e w' => e = .returned (.int .i64 (yday y m d)) ∧ w = w' := by
 obtain ⟨q, rfl⟩ : ∃ q : Nat, m = (q : Int) + 1 := ⟨(m - 1).toNat, by omega⟩
 have hq : q ≤ 11 := by omega
 have hfin := hide (show yday y ((q : Int) + 1) d = d - 1 + cum y q by unfold yday; rw [show ((q : Int) + 1 - 1).toNat = q by omega]; omega)
 have C := hide (fun m => MonthDays_ y m w hT h0 h1)
 have B := hide (cum_bd y)
 have D := hide (mdays_bd y)
 clear hm0 hm1 hT
 go_enter Tryz.func226, Tryz.ntmps226
 go_wp2
 go_loop [7, 8] (fun n k => ∃ j : Nat, j ≤ q ∧ k = .int .i64 ((j : Int) + 1) ∧ n = .int .i64 (d - 1 + cum y j)) (fun _ k => q + 1 - (intOf k).toNat)
 case atStart => exact ⟨0, by omega, rfl, by simp [cum]⟩
 case round =>
  obtain ⟨j, hj, rfl, rfl⟩ := hrel
  by_cases hlt : j < q
  ·have b1 := B.out j
   have b2 := D.out ((j : Int) + 1)
   have s1 := hide (show cum y (j + 1) = cum y j + mdays y ((j : Int) + 1) from rfl)
   have C1 := hide (C.out ((j : Int) + 1) (by omega) (by omega))
   generalize cum y j = c at *
   generalize mdays y ((j : Int) + 1) = x at *
   obtain ⟨b1, b1'⟩ := b1
   obtain ⟨b2, b2'⟩ := b2
   go_wp2_with (go_at_call 202; refine (C1.out).mono ?_; rintro e w' ⟨rfl, rfl⟩)
   go_round
   case rel => exact ⟨j + 1, by omega, by go_num, by rw [s1.out]; exact congrArg _ (by omega)⟩
   case measure => simp [intOf]; omega
  ·obtain rfl : j = q := by omega
   go_wp2
   go_ret
   exact ⟨reti hfin.out.symm, rfl⟩
theorem Vd.bd {y m d : Int} (h : Vd y m d) : -1099511627776 ≤ y ∧ y ≤ 1099511627776 ∧ 1 ≤ m ∧ m ≤ 12 ∧ 1 ≤ d ∧ d ≤ 31 := by
 obtain ⟨h1, h2, h3, h4, h5, h6⟩ := h
 have := mdays_bd y m
 omega
theorem YearDay (y m d : Int) (w : World) (hT : Tb w) (h : Vd y m d) :
 Calls Tryz.prog 226 #[.int .i64 y, .int .i64 m, .int .i64 d] w fun e w' => e = .returned (.int .i64 (yday y m d)) ∧ Below w.heap.size w w' := by
 obtain ⟨a, b, c, e, f, g⟩ := Vd.bd h
 exact (YearDay_ y m d w hT (by omega) (by omega) c e f g).mono (by rintro e w' ⟨rfl, rfl⟩; exact ⟨rfl, bl_refl _⟩)
theorem Days (y m d : Int) (w : World) (hT : Tb w) (h : Vd y m d) :
 Calls Tryz.prog 213 #[.int .i64 y, .int .i64 m, .int .i64 d] w fun e w' => e = .returned (.int .i64 (days y m d)) ∧ Below w.heap.size w w' := by
 obtain ⟨a, b, c, e, f, g⟩ := Vd.bd h
 have Y := hide (fun w hT => YearDay y m d w hT h)
 have S := hide (yearStart_ y w (by omega) (by omega))
 have hyb : 0 ≤ yday y m d ∧ yday y m d ≤ 400 := by
  have := cum_bd y (m - 1).toNat
  unfold yday
  omega
 have hsb : -500000000000000 ≤ ystart y ∧ ystart y ≤ 500000000000000 := by unfold ystart; omega
 have hf := hide (show days y m d = ystart y + yday y m d from rfl)
 generalize days y m d = v at *
 generalize ystart y = s at *
 generalize yday y m d = yd at *
 obtain ⟨hyb, hyb'⟩ := hyb
 obtain ⟨hsb, hsb'⟩ := hsb
 have HT := hide hT
 clear hT h
 go_enter Tryz.func213, Tryz.ntmps213
 go_wp2_with fail
 refine (S.out).mono ?_
 rintro e w1 ⟨rfl, h1⟩
 have hb := hide h1
 replace HT := hide (HT.out.below h1)
 clear h1
 go_wp2_with fail
 refine (epoch_ _).mono ?_
 rintro e w2 ⟨rfl, h1⟩
 replace hb := hide (bel_next hb.out h1)
 replace HT := hide (HT.out.below h1)
 clear h1
 go_wp2_with fail
 refine (Y.out _ HT.out).mono ?_
 rintro e w3 ⟨rfl, h1⟩
 replace hb := hide (bel_next hb.out h1)
 clear h1
 go_wp2
 go_ret
 exact ⟨reti (by have := hf.out; omega), hb.out⟩
theorem Weekday (n : Int) (w : World) (hT : Tb w) (h0 : loDay ≤ n) (h1 : n ≤ hiDay) :
 Calls Tryz.prog 193 #[.int .i64 n] w fun e w' => e = .returned (.int .i64 ((n + 4) % 7)) ∧ Below w.heap.size w w' := by
 have hl : -500000000000000 ≤ loDay := by decide +kernel
 have hh : hiDay ≤ 500000000000000 := by decide +kernel
 have g0 : -500000000000000 ≤ n := by omega
 have g1 : n ≤ 500000000000000 := by omega
 clear h0 h1 hl hh
 obtain ⟨t, ht⟩ : ∃ t, t = n.tmod 7 := ⟨_, rfl⟩
 have htb : -7 < t ∧ t < 7 ∧ (t + 4) % 7 = (n + 4) % 7 := by
  by_cases hp : 0 ≤ n
  ·rw [Int.tmod_eq_emod_of_nonneg hp] at ht
   omega
  ·obtain ⟨z, hz⟩ : ∃ z : Nat, n = -(z : Int) := ⟨(-n).toNat, by omega⟩
   rw [hz, Int.neg_tmod, Int.tmod_eq_emod_of_nonneg (by omega)] at ht
   omega
 obtain ⟨t0, t1, t2⟩ := htb
 have H2 := hide t2
 clear t2
 have D := hide (divide_ (t + 4) 7 w (.inr (.inr rfl)) (by omega) (by omega))
 go_enter Tryz.func193, Tryz.ntmps193
 have ht' := ht.symm
 clear ht
 go_wp2_with fail
 refine (D.out).mono ?_
 rintro e w1 ⟨rfl, hb⟩
 replace hb := hide hb
 go_wp2
 go_ret
 exact ⟨reti H2.out, hb.out⟩
theorem Date (n Y M D : Int) (w : World) (hT : Tb w) (h0 : loDay ≤ n) (h1 : n ≤ hiDay) (h : IsDate n Y M D) :
 Calls Tryz.prog 192 #[.int .i64 n] w fun e w' => e = .returned (.tuple #[.int .i64 Y, .int .i64 M, .int .i64 D]) ∧ Below w.heap.size w w' := by
 have hl : -500000000000000 ≤ loDay := by decide +kernel
 have hh : hiDay ≤ 500000000000000 := by decide +kernel
 have g0 : -500000000000000 ≤ n := by omega
 have g1 : n ≤ 500000000000000 := by omega
 clear h0 h1 hl hh
 obtain ⟨k, hk⟩ : ∃ k, k = (n + 719528) / 146097 := ⟨_, rfl⟩
 obtain ⟨r, hr⟩ : ∃ r, r = (n + 719528) % 146097 := ⟨_, rfl⟩
 obtain ⟨q, mm, yd, rfl, hq, rfl, hmm, hyd, hyd0, hyd1, hc1, hc2, rfl⟩ := h.era (k := k - 5) (r := r) (by omega) (by omega) (by omega)
 clear h
 have q0 : (0 : Int) ≤ q := by omega
 have q1 : (q : Int) < 400 := by omega
 generalize (q : Int) = q at *
 clear hq
 have hs : ystart (2000 + q) = ystart q + 730485 := by
  have := ystart_per q 5
  rw [show (2000 : Int) + q = q + 400 * 5 by omega, this]
  omega
 rw [hs] at hyd
 have hq1 : ystart (q + 1) = ystart q + ylen q := ystart_succ q
 have hyl := ylen_bd q
 have hsb : ystart q = 365 * q + ((q - 1) / 4 - (q - 1) / 100 + (q - 1) / 400) - 719527 := rfl
 have hsb1 : ystart (q + 1) = 365 * (q + 1) + ((q + 1 - 1) / 4 - (q + 1 - 1) / 100 + (q + 1 - 1) / 400) - 719527 := rfl
 have hr0 : 0 ≤ r := by omega
 have hr1 : r < 146097 := by omega
 have hk0 : -3500000000 ≤ k := by omega
 have hk1 : k ≤ 3500000000 := by omega
 have D1 := hide (fun w => divide_ (n + 719528) 146097 w (.inr (.inl rfl)) (by omega) (by omega))
 rw [← hk, ← hr] at D1
 have S := hide (fun i w h0 h1 => yearStart_ i w h0 h1)
 have HT := hide hT
 have Hc1 := hide hc1
 have Hc2 := hide hc2
 have Hy : ∃ u : Int, r.tdiv 366 = u ∧ ((q = u ∧ r < ystart (u + 1) + 719528) ∨ (q = u + 1 ∧ ystart (u + 1) + 719528 ≤ r)) ∧ r - (ystart q + 719528) = yd := by
  refine ⟨r / 366, Int.tdiv_eq_ediv_of_nonneg hr0, ?_, by omega⟩
  by_cases hu : r / 366 = q
  ·exact .inl ⟨hu.symm, by rw [hu]; omega⟩
  ·have : r / 366 + 1 = q := by omega
   refine .inr ⟨this.symm, ?_⟩
   rw [this]
   omega
 obtain ⟨u, hu, hcase, hyd2⟩ := Hy
 have hu0 : u < 400 := by omega
 have hu1 : 0 ≤ u := by rw [← hu, Int.tdiv_eq_ediv_of_nonneg hr0]; omega
 have hqb : 0 ≤ ystart q + 719528 ∧ ystart q + 719528 ≤ 146097 := by omega
 have hub : 0 ≤ ystart (u + 1) + 719528 ∧ ystart (u + 1) + 719528 ≤ 146098 + 366 := by
  have : ystart (u + 1) = 365 * (u + 1) + ((u + 1 - 1) / 4 - (u + 1 - 1) / 100 + (u + 1 - 1) / 400) - 719527 := rfl
  omega
 have hyb : yd ≤ 366 := by omega
 have C := hide (fun m w hT h2 h3 => MonthDays_ q m w hT (by omega) (by omega) h2 h3)
 have B := hide (cum_bd q)
 have D := hide (mdays_bd q)
 have CM := hide (fun (j k : Nat) (h : j ≤ k) => cum_mono q h)
 have CS := hide (show ∀ i : Nat, cum q (i + 1) = cum q i + mdays q ((i : Int) + 1) from fun _ => rfl)
 have C0 := hide (show cum q 0 = 0 from rfl)
 have hfy := hide (show k * 400 + q = 2000 + 400 * (k - 5) + q by omega)
 have S1 := hide (fun w => S.out (u + 1) w (by omega) (by omega))
 have S2 := hide (fun w => S.out q w (by omega) (by omega))
 clear hT hk hr hyd hs hq1 hyl hsb hsb1 hc1 hc2 hyd1 S
 generalize ystart (u + 1) + 719528 = s1 at *
 generalize ystart q + 719528 = s2 at *
 generalize cum q = cf at *
 generalize mdays q = mf at *
 obtain ⟨hqb, hqb'⟩ := hqb
 obtain ⟨hub, hub'⟩ := hub
 rcases hcase with ⟨rfl, hlt⟩ | ⟨rfl, hlt⟩
 all_goals
  go_enter Tryz.func192, Tryz.ntmps192
  go_wp2_with fail
  refine (epoch_ _).mono ?_
  rintro e w1 ⟨rfl, h1⟩
  have hb := hide h1
  replace HT := hide (HT.out.below h1)
  clear h1
  go_wp2_with fail
  refine (D1.out _).mono ?_
  rintro e w1 ⟨rfl, h1⟩
  replace hb := hide (bel_next hb.out h1)
  replace HT := hide (HT.out.below h1)
  clear h1
  go_wp2_with fail
  refine (S1.out _).mono ?_
  rintro e w1 ⟨rfl, h1⟩
  replace hb := hide (bel_next hb.out h1)
  replace HT := hide (HT.out.below h1)
  clear h1
  go_wp2_with fail
  refine (S2.out _).mono ?_
  rintro e w1 ⟨rfl, h1⟩
  replace hb := hide (bel_next hb.out h1)
  replace HT := hide (HT.out.below h1)
  clear h1
  go_wp2
  go_loop [8, 9] (fun m n => ∃ (i : Nat) (v : Int), i ≤ mm ∧ m = .int .i64 ((i : Int) + 1) ∧ n = .int .i64 v ∧ Hid (v = yd - cf i)) (fun m _ => mm + 1 - (intOf m).toNat)
  case atStart => exact ⟨0, _, by omega, rfl, rfl, hide (by rw [C0.out]; omega)⟩
  case round =>
   obtain ⟨i, v, hi, rfl, rfl, hv⟩ := hrel
   have hvv := hv.out
   have C1 := hide (C.out ((i : Int) + 1) _ HT.out (by omega) (by omega))
   obtain ⟨b2, b3⟩ := D.out ((i : Int) + 1)
   obtain ⟨b1, b4⟩ := B.out i
   have hcs := CS.out i
   have h1 := Hc1.out
   have h2 := Hc2.out
   by_cases hlt2 : i < mm
   ·have hcm := CM.out (i + 1) mm (by omega)
    have hge : mf ((i : Int) + 1) ≤ v := by omega
    have hun := hide (show v - mf ((i : Int) + 1) = yd - cf (i + 1) by omega)
    have hvb : v ≤ 366 := by omega
    clear hvv hcs h1 h2 hcm b1 b4
    generalize mf ((i : Int) + 1) = x at *
    go_wp2_with (go_at_call 202; refine (C1.out).mono ?_; rintro e w' ⟨rfl, rfl⟩)
    go_round
    case rel => exact ⟨i + 1, _, by omega, by go_num, rfl, hun⟩
    case measure => simp [intOf]; omega
   ·obtain rfl : i = mm := by omega
    have hlt3 : v < mf ((i : Int) + 1) := by omega
    have hv0 : 0 ≤ v := by omega
    have hD := hide (show v + 1 = yd - cf i + 1 by omega)
    clear hvv hcs h1 h2 b1 b4
    generalize mf ((i : Int) + 1) = x at *
    go_wp2_with (go_at_call 202; refine (C1.out).mono ?_; rintro e w' ⟨rfl, rfl⟩)
    go_ret3
    exact ⟨ret3i (by have := hfy.out; omega) rfl hD.out, hb.out⟩
end cv_
end Go.Proofs.YtbehflfpdkedgaaGreatDoor
