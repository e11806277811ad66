/-
  THE WALKS OF THE LAWS OF LAYER 4 (zoneinfolaw04): for every input the law returns true and writes nothing that was there, if the table of month lengths lies as the program's text lays it.
-/
import Derived.Test.YtinfbppbnjjdhaaDoorTab
namespace Go.Proofs.YtinfbppbnjjdhaaDoor
open Go.ChangeShapes Go.WideShapes Go.ChangeAt Go.RowKit
set_option linter.unusedVariables false
theorem lo_bd : -1000000000000000 ≤ loDay ∧ hiDay ≤ 1000000000000000 ∧ loDay ≤ -135140 ∧ 11017 ≤ hiDay := by unfold loDay hiDay ystart; omega
theorem vd_of {y m d : Int} (h0 : -1099511627776 ≤ y) (h1 : y ≤ 1099511627776) (h2 : 1 ≤ m) (h3 : m ≤ 12) (h4 : 1 ≤ d) (h5 : d ≤ mdays y m) : Vd y m d := ⟨h0, h1, h2, h3, h4, h5⟩
theorem isd {n y m d : Int} (h2 : 1 ≤ m) (h3 : m ≤ 12) (h4 : 1 ≤ d) (h5 : d ≤ mdays y m) (h : days y m d = n) : IsDate n y m d := ⟨⟨h2, h3, h4, h5⟩, h⟩
theorem vd_jan (y : Int) (h0 : -1099511627776 ≤ y) (h1 : y ≤ 1099511627776) : Vd y 1 1 := ⟨h0, h1, by omega, by omega, by omega, by have := mdays_bd y 1; omega⟩
theorem bit {a b : Int} (h : a = b) : Ending.returned (.int .i64 a) = .returned (.int .i64 b) := by rw [h]
namespace cv_
theorem IsLeap_is {y : Int} {w : World} (b : Bool) (hT : Tb w) (h0 : -1099511627776 ≤ y) (h1 : y ≤ 1099511627776) (hb : leap y = b) :
    Calls Tryd.prog 15 #[.int .i64 y] w fun e w' => e = .returned (.bool b) ∧ Below w.heap.size w w' := by subst hb; exact IsLeap y w hT h0 h1
theorem MonthDays_is {y m : Int} {w : World} (k : Int) (hT : Tb w) (h0 : -1099511627776 ≤ y) (h1 : y ≤ 1099511627776) (h2 : 1 ≤ m) (h3 : m ≤ 12) (hb : mdays y m = k) :
    Calls Tryd.prog 17 #[.int .i64 y, .int .i64 m] w fun e w' => e = .returned (.int .i64 k) ∧ Below w.heap.size w w' := by subst hb; exact MonthDays y m w hT h0 h1 h2 h3
theorem YearDay_is {y m d : Int} {w : World} (k : Int) (hT : Tb w) (h : Vd y m d) (hb : yday y m d = k) :
    Calls Tryd.prog 21 #[.int .i64 y, .int .i64 m, .int .i64 d] w fun e w' => e = .returned (.int .i64 k) ∧ Below w.heap.size w w' := by subst hb; exact YearDay y m d w hT h
theorem Days_is {y m d : Int} {w : World} (k : Int) (hT : Tb w) (h : Vd y m d) (hb : days y m d = k) :
    Calls Tryd.prog 19 #[.int .i64 y, .int .i64 m, .int .i64 d] w fun e w' => e = .returned (.int .i64 k) ∧ Below w.heap.size w w' := by subst hb; exact Days y m d w hT h
theorem Weekday_is {n : Int} {w : World} (k : Int) (hT : Tb w) (h0 : loDay ≤ n) (h1 : n ≤ hiDay) (hb : (n + 4) % 7 = k) :
    Calls Tryd.prog 12 #[.int .i64 n] w fun e w' => e = .returned (.int .i64 k) ∧ Below w.heap.size w w' := by subst hb; exact Weekday n w hT h0 h1
end cv_
theorem vd_b {y m d : Int} (h : Vd y m d) : -1099511627776 ≤ y ∧ y ≤ 1099511627776 := ⟨h.1, h.2.1⟩
theorem vd_c {y m d : Int} (h : Vd y m d) : 1 ≤ m ∧ m ≤ 12 ∧ 1 ≤ d ∧ d ≤ 31 := by
  obtain ⟨_, _, h1, h2, h3, h4⟩ := h
  have := mdays_bd y m
  omega
theorem r4_.InRange_is {n : Int} {w : World} (b : Bool) (hb : (decide (loDay ≤ n) && decide (n ≤ hiDay)) = b) : Calls Tryd.prog 9 #[.int .i64 n] w fun e w' => e = .returned (.bool b) ∧ w = w' := by subst hb; exact r4_.InRange n w
namespace l4_
set_option maxRecDepth 100000 in
set_option maxHeartbeats 4000000 in
theorem awake (w : World) (hT : Tb w) : Calls Tryd.prog 8 #[] w fun e w' => e = .returned (.bool true) ∧ Below w.heap.size w w' := by
  obtain ⟨lb1, lb2, lb3, lb4⟩ := lo_bd
  have hb := hide (Below.refl w.heap.size w)
  have HT := hide hT
  clear hT
  have Lo := hide (And.intro lb3 lb4)
  clear lb1 lb2 lb3 lb4
  go_enter Tryd.func8, Tryd.ntmps8
  go_wp2_with fail
  refine (cv_.Date _ 2000 2 29 _ HT.out (by have := Lo.out; omega) (by have := Lo.out; omega) (isd (by decide) (by decide) (by decide) (by decide) (by decide))).mono ?_
  rintro e w1 ⟨rfl, h1⟩
  replace HT := hide (HT.out.below h1)
  replace hb := hide (bel_next hb.out h1)
  clear h1
  go_wp2_with fail
  refine (cv_.Date _ 1969 12 31 _ HT.out (by have := Lo.out; omega) (by have := Lo.out; omega) (isd (by decide) (by decide) (by decide) (by decide) (by decide))).mono ?_
  rintro e w2 ⟨rfl, h1⟩
  replace HT := hide (HT.out.below h1)
  replace hb := hide (bel_next hb.out h1)
  clear h1
  go_wp2_with fail
  refine (cv_.Days_is 11017 HT.out (vd_of (by decide) (by decide) (by decide) (by decide) (by decide) (by decide)) (by decide)).mono ?_
  rintro e w3 ⟨rfl, h1⟩
  replace HT := hide (HT.out.below h1)
  replace hb := hide (bel_next hb.out h1)
  clear h1
  go_wp2_with fail
  refine (cv_.Days_is 0 HT.out (vd_of (by decide) (by decide) (by decide) (by decide) (by decide) (by decide)) (by decide)).mono ?_
  rintro e w4 ⟨rfl, h1⟩
  replace HT := hide (HT.out.below h1)
  replace hb := hide (bel_next hb.out h1)
  clear h1
  go_wp2_with fail
  refine (cv_.Days_is (-135140) HT.out (vd_of (by decide) (by decide) (by decide) (by decide) (by decide) (by decide)) (by decide)).mono ?_
  rintro e w5 ⟨rfl, h1⟩
  replace HT := hide (HT.out.below h1)
  replace hb := hide (bel_next hb.out h1)
  clear h1
  go_wp2_with fail
  refine (cv_.Weekday_is 4 HT.out (by have := Lo.out; omega) (by have := Lo.out; omega) (by decide)).mono ?_
  rintro e w6 ⟨rfl, h1⟩
  replace HT := hide (HT.out.below h1)
  replace hb := hide (bel_next hb.out h1)
  clear h1
  go_wp2_with fail
  refine (cv_.Weekday_is 0 HT.out (by have := Lo.out; omega) (by have := Lo.out; omega) (by decide)).mono ?_
  rintro e w7 ⟨rfl, h1⟩
  replace HT := hide (HT.out.below h1)
  replace hb := hide (bel_next hb.out h1)
  clear h1
  go_wp2_with fail
  refine (cv_.IsLeap_is true HT.out (by decide) (by decide) (by decide)).mono ?_
  rintro e w8 ⟨rfl, h1⟩
  replace HT := hide (HT.out.below h1)
  replace hb := hide (bel_next hb.out h1)
  clear h1
  go_wp2_with fail
  refine (cv_.IsLeap_is false HT.out (by decide) (by decide) (by decide)).mono ?_
  rintro e w8 ⟨rfl, h1⟩
  replace HT := hide (HT.out.below h1)
  replace hb := hide (bel_next hb.out h1)
  clear h1
  go_wp2_with fail
  refine (cv_.IsLeap_is true HT.out (by decide) (by decide) (by decide)).mono ?_
  rintro e w8 ⟨rfl, h1⟩
  replace HT := hide (HT.out.below h1)
  replace hb := hide (bel_next hb.out h1)
  clear h1
  go_wp2_with fail
  refine (cv_.IsLeap_is true HT.out (by decide) (by decide) (by decide)).mono ?_
  rintro e w8 ⟨rfl, h1⟩
  replace HT := hide (HT.out.below h1)
  replace hb := hide (bel_next hb.out h1)
  clear h1
  go_wp2_with fail
  refine (cv_.MonthDays_is 28 HT.out (by decide) (by decide) (by decide) (by decide) (by decide)).mono ?_
  rintro e w8 ⟨rfl, h1⟩
  replace HT := hide (HT.out.below h1)
  replace hb := hide (bel_next hb.out h1)
  clear h1
  go_wp2_with fail
  refine (cv_.MonthDays_is 29 HT.out (by decide) (by decide) (by decide) (by decide) (by decide)).mono ?_
  rintro e w8 ⟨rfl, h1⟩
  replace HT := hide (HT.out.below h1)
  replace hb := hide (bel_next hb.out h1)
  clear h1
  go_wp2_with fail
  refine (cv_.YearDay_is 365 HT.out (vd_of (by decide) (by decide) (by decide) (by decide) (by decide) (by decide)) (by decide)).mono ?_
  rintro e w8 ⟨rfl, h1⟩
  replace HT := hide (HT.out.below h1)
  replace hb := hide (bel_next hb.out h1)
  clear h1
  go_wp2_with fail
  refine (cv_.YearDay_is 0 HT.out (vd_of (by decide) (by decide) (by decide) (by decide) (by decide) (by decide)) (by decide)).mono ?_
  rintro e w8 ⟨rfl, h1⟩
  replace hb := hide (bel_next hb.out h1)
  clear h1
  go_wp2
  go_ret
  exact ⟨rfl, hb.out⟩
theorem lo_bd2 : -1000000000000000 ≤ loDay := lo_bd.1
theorem hi_bd2 : hiDay ≤ 1000000000000000 := lo_bd.2.1
end l4_
end Go.Proofs.YtinfbppbnjjdhaaDoor
