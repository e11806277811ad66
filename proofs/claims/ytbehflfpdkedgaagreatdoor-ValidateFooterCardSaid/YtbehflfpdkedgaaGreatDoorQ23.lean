/-
  Texts of mine in one file: Tx, RdRef2, RdRW, DtRef, Ref11. Their conditions stand in the theorems.
-/
import Derived.Test.YtbehflfpdkedgaaGreatDoorQ07
import Derived.Test.YtbehflfpdkedgaaGreatDoorQ05
import Derived.Test.YtbehflfpdkedgaaGreatDoorQ15
import Derived.Deep.RegionHeld3
import Derived.Deep.DeepCutAuto
import Derived.Test.YtbehflfpdkedgaaGreatDoorQ19
import Derived.Test.YtbehflfpdkedgaaGreatDoorQ02
namespace Go.Proofs.YtbehflfpdkedgaaGreatDoor
set_option linter.unusedVariables false
set_option linter.unusedSimpArgs false
set_option maxRecDepth 100000
set_option maxHeartbeats 16000000
open Go.ChangeShapes Go.WideShapes Go.ChangeAt Go.RowKit
namespace tf_
theorem beyondDay (x : Int) (w : World) : Calls Tryz.prog 48 #[.int .i64 x] w fun e w' => e = .returned (.bool (decide (x < 0 ∨ 86400 < x))) ∧ w = w' := by
 rcases (show x < 0 ∨ (0 ≤ x ∧ 86400 < x) ∨ (0 ≤ x ∧ x ≤ 86400) by omega) with a | ⟨a, b⟩ | ⟨a, b⟩
 all_goals
  go_enter Tryz.func48, Tryz.ntmps48
  go_wp2
  go_ret
  exact ⟨retb (by rw [Bool.eq_iff_iff]; simp; try omega), rfl⟩
theorem Extended (std : ByteArray) (so : Int) (hd : Bool) (dst : ByteArray) (dof : Int) (st en : RD) (w : World) (hp : prOk (byt std, so, hd, byt dst, dof, st, en)) :
 Calls Tryz.prog 20 #[vrule std so hd dst dof st en] w fun e w' => e = .returned (.bool (hd && (lateD st || lateD en))) ∧ Below w.heap.size w w' := by
 have hv : (hd && (lateD st || lateD en)) = (lateD st || lateD en) := by
  obtain ⟨_, _, hr⟩ := hp
  simp only at hr
  cases hd
  ·simp only [Bool.false_eq_true, if_false] at hr
   obtain ⟨_, _, rfl, rfl⟩ := hr
   rfl
  ·rfl
 rw [hv]
 clear hv hp
 have LS := hide (fun w => beyondDay st.2.2.2.2.2 w)
 have LE := hide (fun w => beyondDay en.2.2.2.2.2 w)
 unfold vrule
 obtain ⟨a, ha⟩ : ∃ a, lateD st = a := ⟨_, rfl⟩
 obtain ⟨b, hbb⟩ : ∃ b, lateD en = b := ⟨_, rfl⟩
 rw [ha, hbb]
 unfold lateD at ha hbb
 rw [ha] at LS
 rw [hbb] at LE
 clear ha hbb
 have R := hide (Ro.new w #[.string std, .int .i64 so, .bool hd, .string dst, .int .i64 dof, .int .i64 st.1, .int .i64 st.2.1, .int .i64 st.2.2.1, .int .i64 st.2.2.2.1, .int .i64 st.2.2.2.2.1, .int .i64 st.2.2.2.2.2, .int .i64 en.1, .int .i64 en.2.1, .int .i64 en.2.2.1, .int .i64 en.2.2.2.1, .int .i64 en.2.2.2.2.1, .int .i64 en.2.2.2.2.2] 51)
 have hB := hide (bl_new w (.cells #[.string std, .int .i64 so, .bool hd, .string dst, .int .i64 dof, .int .i64 st.1, .int .i64 st.2.1, .int .i64 st.2.2.1, .int .i64 st.2.2.2.1, .int .i64 st.2.2.2.2.1, .int .i64 st.2.2.2.2.2, .int .i64 en.1, .int .i64 en.2.1, .int .i64 en.2.2.1, .int .i64 en.2.2.2.1, .int .i64 en.2.2.2.2.1, .int .i64 en.2.2.2.2.2] 51))
 cases a
 ·go_enter Tryz.func20, Tryz.ntmps20
  go_upto_region 1 with fail
  generalize w.alloc (.cells #[.string std, .int .i64 so, .bool hd, .string dst, .int .i64 dof, .int .i64 st.1, .int .i64 st.2.1, .int .i64 st.2.2.1, .int .i64 st.2.2.2.1, .int .i64 st.2.2.2.2.1, .int .i64 st.2.2.2.2.2, .int .i64 en.1, .int .i64 en.2.1, .int .i64 en.2.2.1, .int .i64 en.2.2.2.1, .int .i64 en.2.2.2.2.1, .int .i64 en.2.2.2.2.2] 51) = v0 at *
  have x10 := (ro_cf R.out 10 _ rfl).1
  have x16 := (ro_cf R.out 16 _ rfl).1
  go_wp2_with fail
  refine (LS.out _).mono ?_
  rintro e w1 ⟨rfl, rfl⟩
  go_wp2_with fail
  refine (LE.out _).mono ?_
  rintro e w1 ⟨rfl, rfl⟩
  go_wp2
  go_ret
  exact ⟨rfl, hB.out⟩
 ·go_enter Tryz.func20, Tryz.ntmps20
  go_upto_region 1 with fail
  generalize w.alloc (.cells #[.string std, .int .i64 so, .bool hd, .string dst, .int .i64 dof, .int .i64 st.1, .int .i64 st.2.1, .int .i64 st.2.2.1, .int .i64 st.2.2.2.1, .int .i64 st.2.2.2.2.1, .int .i64 st.2.2.2.2.2, .int .i64 en.1, .int .i64 en.2.1, .int .i64 en.2.2.1, .int .i64 en.2.2.2.1, .int .i64 en.2.2.2.2.1, .int .i64 en.2.2.2.2.2] 51) = v0 at *
  have x10 := (ro_cf R.out 10 _ rfl).1
  have x16 := (ro_cf R.out 16 _ rfl).1
  go_wp2_with fail
  refine (LS.out _).mono ?_
  rintro e w1 ⟨rfl, rfl⟩
  go_wp2
  go_ret
  exact ⟨rfl, hB.out⟩
end tf_
def Cnt (s f wk : Int) (k : Nat) (fd bs : Int) : Prop := 0 ≤ fd ∧ fd ≤ wk ∧ (fd = ((k : Int) - (f - s) + 6) / 7 ∨ (wk ≤ ((k : Int) - (f - s) + 6) / 7 ∧ fd = wk)) ∧ (fd = 0 → bs = s) ∧ (1 ≤ fd → bs = f + 7 * (fd - 1))
namespace r6_
end r6_
namespace r6w_
theorem ystart_bd {y : Int} (h0 : -600000000001 ≤ y) (h1 : y ≤ 600000000001) : -240000000000000 ≤ ystart y ∧ ystart y ≤ 240000000000000 := by unfold ystart; omega
end r6w_
theorem rday_bdw {K D M Wk Wd T y : Int} (hv : RdOk K D M Wk Wd T) (h0 : -600000000001 ≤ y) (h1 : y ≤ 600000000001) : -270000000000000 ≤ rday K D M Wk Wd y ∧ rday K D M Wk Wd y ≤ 270000000000000 := by
 have hs := r6w_.ystart_bd h0 h1
 obtain ⟨_, _, ⟨rfl, h2, h3, _⟩ | ⟨rfl, h2, h3, _⟩ | ⟨rfl, _, h2, h3, h4, h5, h6, h7⟩⟩ := hv
 ·unfold rday rdj
  simp
  split <;> omega
 ·unfold rday
  simp
  omega
 ·have := rdm_bd y M Wk Wd h6 h7 h4 h5
  have hc := cum_bd y (M - 1).toNat
  have hm := mdays_bd y M
  have hd : days y M 1 = ystart y + (cum y (M - 1).toNat + 1 - 1) := rfl
  unfold rday
  simp
  omega
namespace r6w_
theorem Day_zero (D M Wk Wd T y : Int) (w : World) (h0 : -600000000001 ≤ y) (h1 : y ≤ 600000000001) (hk : 0 ≤ D) (hk' : D ≤ 366) :
 Calls Tryz.prog 138 #[vrd 2 D M Wk Wd T, .int .i64 y] w fun e w' => e = .returned (.int .i64 (ystart y + D)) ∧ Below w.heap.size w w' := by
 have hb := ystart_bd h0 h1
 have C := hide (fun w => r4_.Days y 1 1 w (by omega) (by omega) (by omega) (by omega) (by omega) (by omega))
 rw [days_first] at C
 generalize ystart y = s at *
 obtain ⟨b0, b1⟩ := hb
 unfold vrd
 go_enter Tryz.func138, Tryz.ntmps138
 go_wp2_with fail
 refine (C.out _).mono ?_
 rintro e w1 ⟨rfl, rfl⟩
 go_wp2
 go_ret
 exact ⟨rfl, bl_new _ _⟩
theorem Day_julian (D M Wk Wd T y : Int) (w : World) (h0 : -600000000001 ≤ y) (h1 : y ≤ 600000000001) (hk : 1 ≤ D) (hk' : D ≤ 365) :
 Calls Tryz.prog 138 #[vrd 1 D M Wk Wd T, .int .i64 y] w fun e w' => e = .returned (.int .i64 (rdj y D)) ∧ Below w.heap.size w w' := by
 obtain ⟨k, hk11, hc1, hc2⟩ := julian hk hk'
 have hj := julian_day (y := y) hk11 hc1 hc2
 have hb := hide (bl_new w (.cells #[.int .i64 1, .int .i64 D, .int .i64 M, .int .i64 Wk, .int .i64 Wd, .int .i64 T] 49))
 have C := hide (fun w => r4_.Days y 1 1 w (by omega) (by omega) (by omega) (by omega) (by omega) (by omega))
 have C2 := hide (fun w => r4_.Days y ((k : Int) + 1) (D - cum 2001 k) w (by omega) (by omega) (by omega) (by omega) (by have := hj.2.2.2.1; omega) (by have := hj.2.2.2.2; have := mdays_bd y ((k : Int) + 1); omega))
 have Mo := hide (fun m w => r4_.MonthDays 2001 m w (by omega) (by omega))
 rw [hj.1] at C2
 have Hc1 := hide hc1
 have Hc2 := hide hc2
 have F0 := hide (show D - cum 2001 0 = D by simp [cum])
 clear hj hc1 hc2
 generalize days y 1 1 = s at *
 generalize rdj y D = res at *
 unfold vrd
 go_enter Tryz.func138, Tryz.ntmps138
 go_wp2_with fail
 refine (C.out _).mono ?_
 rintro e w1 ⟨rfl, rfl⟩
 go_wp2_with fail
 go_loop [6, 7] (fun m d => ∃ (i : Nat) (v : Int), i ≤ k ∧ m = .int .i64 ((i : Int) + 1) ∧ d = .int .i64 v ∧ Hid (v = D - cum 2001 i)) (fun m _ => k + 2 - (intOf m).toNat)
 case atStart => exact ⟨0, _, by omega, rfl, rfl, hide F0.out.symm⟩
 case round =>
  obtain ⟨i, v, hi, rfl, rfl, hv⟩ := hrel
  have hvv := hv.out
  have M1 := hide (Mo.out ((i : Int) + 1))
  have b2 := mdays_bd 2001 ((i : Int) + 1)
  have b1 := cum_bd 2001 i
  have hcs : cum 2001 (i + 1) = cum 2001 i + mdays 2001 ((i : Int) + 1) := rfl
  have g1 := Hc1.out
  have g2 := Hc2.out
  by_cases hlt : i < k
  ·have hcm := cum_mono 2001 (show i + 1 ≤ k by omega)
   have hge : mdays 2001 ((i : Int) + 1) < v := by omega
   have hun := hide (show v - mdays 2001 ((i : Int) + 1) = D - cum 2001 (i + 1) by omega)
   have hub : v ≤ 366 := by omega
   clear hvv hcs g1 g2 hcm b1
   generalize mdays 2001 ((i : Int) + 1) = x at *
   obtain ⟨b2, b3⟩ := b2
   go_wp2_with (go_at_call 140; refine (M1.out _).mono ?_; rintro e w' ⟨rfl, rfl⟩)
   go_round
   case rel => exact ⟨i + 1, _, by omega, by go_num, rfl, hun⟩
   case measure => simp [intOf]; omega
  ·obtain rfl : i = k := by omega
   have hle : v ≤ mdays 2001 ((i : Int) + 1) := by omega
   rw [← hvv] at C2
   clear hvv hcs g1 g2 b1
   generalize mdays 2001 ((i : Int) + 1) = x at *
   go_wp2_with (first
    | (go_at_call 140; refine (M1.out _).mono ?_; rintro e w' ⟨rfl, rfl⟩)
    | (go_at_call 168; refine (C2.out _).mono ?_; rintro e w' ⟨rfl, rfl⟩))
   go_ret
   exact ⟨rfl, hb.out⟩
theorem Day_month (D M Wk Wd T y : Int) (w : World) (h0 : -600000000001 ≤ y) (h1 : y ≤ 600000000001) (m0 : 1 ≤ M) (m1 : M ≤ 12) (k0 : 1 ≤ Wk) (k1 : Wk ≤ 5) (d0 : 0 ≤ Wd) (d1 : Wd ≤ 6) :
 Calls Tryz.prog 138 #[vrd 3 D M Wk Wd T, .int .i64 y] w fun e w' => e = .returned (.int .i64 (rdm y M Wk Wd)) ∧ Below w.heap.size w w' := by
 have hb := hide (bl_new w (.cells #[.int .i64 3, .int .i64 D, .int .i64 M, .int .i64 Wk, .int .i64 Wd, .int .i64 T] 49))
 have bx := hide (Bx.new w [.int .i64 3, .int .i64 D, .int .i64 M, .int .i64 Wk, .int .i64 Wd, .int .i64 T] 49)
 have C := hide (fun w => r4_.Days y 1 1 w (by omega) (by omega) (by omega) (by omega) (by omega) (by omega))
 have C2 := hide (fun w => r4_.Days y M 1 w (by omega) (by omega) m0 m1 (by omega) (by omega))
 have Mo := hide (fun w => r4_.MonthDays y M w (by omega) (by omega))
 have hsb : -300000000000000 ≤ days y M 1 ∧ days y M 1 ≤ 300000000000000 := by
  have := ystart_bd h0 h1
  have := cum_bd y (M - 1).toNat
  unfold days yday
  omega
 have hf := rfirst_bd y M Wd d0 d1
 have hlen := mdays_bd y M
 have hres : Hid (rdm y M Wk Wd = if Wk ≤ 4 then rfirst y M Wd + 7 * (Wk - 1) else if rfirst y M Wd + 28 < days y M 1 + mdays y M then rfirst y M Wd + 28 else rfirst y M Wd + 21) := hide rfl
 generalize rdm y M Wk Wd = res at *
 generalize rfirst y M Wd = f at *
 generalize days y M 1 = s at *
 generalize hln : mdays y M = len at *
 have hln := hide hln
 generalize days y 1 1 = s1 at *
 obtain ⟨sb0, sb1⟩ := hsb
 obtain ⟨f0, f1, f2⟩ := hf
 have F := hide (And.intro f0 (And.intro f1 f2))
 obtain ⟨l0, l1⟩ := hlen
 obtain ⟨L, rfl⟩ : ∃ L : Nat, len = L := ⟨len.toNat, by omega⟩
 clear f0 f1 f2 h0 h1
 unfold vrd
 go_enter Tryz.func138, Tryz.ntmps138
 go_wp2_with fail
 refine (C.out _).mono ?_
 rintro e w1 ⟨rfl, rfl⟩
 go_wp2_with fail
 refine (C2.out _).mono ?_
 rintro e w1 ⟨rfl, rfl⟩
 go_wp2_with fail
 go_loopw [9, 10, 11] (fun fdv bsv nv wr => ∃ (k : Nat) (fd bs : Int), k ≤ L ∧ fdv = .int .i64 fd ∧ bsv = .int .i64 bs ∧ nv = .int .i64 (s + k) ∧ Hid (Cnt s f Wk k fd bs) ∧ Hid (Bx wr w.heap.size [.int .i64 3, .int .i64 D, .int .i64 M, .int .i64 Wk, .int .i64 Wd, .int .i64 T]) ∧ Hid (Below w.heap.size w wr)) (fun _ _ nv _ => (s + L - intOf nv).toNat)
 case atStart => exact ⟨0, 0, s, by omega, rfl, rfl, by simp, hide ⟨by omega, by omega, by have := F.out; omega, fun _ => rfl, fun h => by omega⟩, bx, hb⟩
 case round =>
  clear bx hb
  obtain ⟨k, fd, bs, hk, rfl, rfl, rfl, hc, bx, hb⟩ := hrel
  have hcc := hc.out
  obtain ⟨fd0, fd1, fd2, fd3, fd4⟩ := hcc
  have fd2 := hide fd2
  have fd3 := hide fd3
  have fd4 := hide fd4
  obtain ⟨x0, x1, x2, x3, x4, x5⟩ := cells6 bx.out
  by_cases hlt : k < L
  ·have Wd1 := hide (fun w => flip6 (r4_.Weekday (s + k) w (by omega) (by omega)))
   by_cases hm : (s + (k : Int) + 4) % 7 = Wd
   ·rw [hm] at Wd1
    have Hm := hide hm
    clear hm
    by_cases hfd : fd < Wk
    ·have hnew := hide (show Cnt s f Wk (k + 1) (fd + 1) (s + k) from ⟨by omega, by omega, by have := fd2.out; have := Hm.out; have := F.out; omega, fun h => by omega, fun _ => by have := fd2.out; have := Hm.out; have := F.out; omega⟩)
     go_wp2_with (go_at_call 140; refine (Mo.out _).mono ?_; rintro e w' ⟨rfl, rfl⟩)
     go_quiet ((go_at_call 119; refine Calls.quiet_of_same (Wd1.out _)))
     go_wp2
     go_roundw
     case rel => exact ⟨k + 1, _, _, by omega, rfl, rfl, by go_num, hnew, bx, hide (bel_drewN hb.out _)⟩
     case measure => simp [intOf]; omega
    ·have hnew := hide (show Cnt s f Wk (k + 1) fd bs from ⟨by omega, by omega, by have := fd2.out; have := Hm.out; have := F.out; omega, fd3.out, fd4.out⟩)
     go_wp2_with (go_at_call 140; refine (Mo.out _).mono ?_; rintro e w' ⟨rfl, rfl⟩)
     go_quiet ((go_at_call 119; refine Calls.quiet_of_same (Wd1.out _)))
     go_wp2
     go_roundw
     case rel => exact ⟨k + 1, _, _, by omega, rfl, rfl, by go_num, hnew, bx, hide (bel_drewN hb.out _)⟩
     case measure => simp [intOf]; omega
   ·have hnew := hide (show Cnt s f Wk (k + 1) fd bs from ⟨by omega, by omega, by have := fd2.out; have := F.out; omega, fd3.out, fd4.out⟩)
    have hne : ((s + (k : Int) + 4) % 7 == Wd) = false := by simpa using hm
    generalize (s + (k : Int) + 4) % 7 = x at *
    clear hm
    go_wp2_with (go_at_call 140; refine (Mo.out _).mono ?_; rintro e w' ⟨rfl, rfl⟩)
    go_quiet ((go_at_call 119; refine Calls.quiet_of_same (Wd1.out _)))
    go_wp2
    go_roundw
    case rel => exact ⟨k + 1, _, _, by omega, rfl, rfl, by go_num, hnew, bx, hide (bel_drewN hb.out _)⟩
    case measure => simp [intOf]; omega
  ·obtain rfl : k = L := by omega
   have hend := hide (show bs = res by
    rw [hres.out]
    have := fd2.out
    have := fd3.out
    have := fd4.out
    have := F.out
    split
    ·omega
    ·split <;> omega)
   go_wp2_with (go_at_call 140; refine (Mo.out _).mono ?_; rintro e w' ⟨rfl, rfl⟩)
   go_ret
   exact ⟨reti hend.out, hb.out⟩
theorem Day {K D M Wk Wd T : Int} (y : Int) (w : World) (hv : RdOk K D M Wk Wd T) (h0 : -600000000001 ≤ y) (h1 : y ≤ 600000000001) :
 Calls Tryz.prog 138 #[vrd K D M Wk Wd T, .int .i64 y] w fun e w' => e = .returned (.int .i64 (rday K D M Wk Wd y)) ∧ Below w.heap.size w w' := by
 obtain ⟨_, _, ⟨rfl, h2, h3, _⟩ | ⟨rfl, h2, h3, _⟩ | ⟨rfl, _, h2, h3, h4, h5, h6, h7⟩⟩ := hv
 ·exact Day_julian D M Wk Wd T y w h0 h1 h2 h3
 ·exact Day_zero D M Wk Wd T y w h0 h1 h2 (by omega)
 ·exact Day_month D M Wk Wd T y w h0 h1 h2 h3 h4 h5 h6 h7
end r6w_
def vdt (Y M D h m s W : Int) : Value := .agg #[.int .i64 Y, .int .i64 M, .int .i64 D, .int .i64 h, .int .i64 m, .int .i64 s, .int .i64 W]
def vof (t Y M D : Int) : Value := vdt Y M D (t % 86400 / 3600) (t % 86400 % 3600 / 60) (t % 86400 % 60) ((t / 86400 + 4) % 7)
theorem cells7 {w : World} {g : Nat} {a b c d e f k : Value} (h : Bx w g [a, b, c, d, e, f, k]) : w.cell? ⟨g, 0, none⟩ = some a ∧ w.cell? ⟨g, 1, none⟩ = some b ∧ w.cell? ⟨g, 2, none⟩ = some c ∧ w.cell? ⟨g, 3, none⟩ = some d ∧ w.cell? ⟨g, 4, none⟩ = some e ∧ w.cell? ⟨g, 5, none⟩ = some f ∧ w.cell? ⟨g, 6, none⟩ = some k :=
 ⟨h.2.1 0 _ rfl, h.2.1 1 _ rfl, h.2.1 2 _ rfl, h.2.1 3 _ rfl, h.2.1 4 _ rfl, h.2.1 5 _ rfl, h.2.1 6 _ rfl⟩
namespace r5_
theorem boolInt (b : Bool) (w : World) : Calls Tryz.prog 115 #[.bool b] w fun e w' => e = .returned (.int .i64 (if b then 1 else 0)) ∧ w = w' := by
 cases b
 all_goals
  go_enter Tryz.func115, Tryz.ntmps115
  go_wp2
  go_ret
  exact ⟨rfl, rfl⟩
theorem Split (t : Int) (w : World) (h0 : -9223372036854775808 ≤ t) (h1 : t < 9223372036854775808) :
 Calls Tryz.prog 85 #[.int .i64 t] w fun e w' => e = .returned (.tuple #[.int .i64 (t / 86400), .int .i64 (t % 86400)]) ∧ w = w' := by
 have B := hide boolInt
 by_cases hp : 0 ≤ t
 ·go_enter Tryz.func85, Tryz.ntmps85
  go_wp2_with (go_at_call 115; refine (B.out _ _).mono ?_; rintro e w' ⟨rfl, rfl⟩)
  go_ret2
  exact ⟨ret2i (by omega) rfl, rfl⟩
 ·obtain ⟨z, hz⟩ : ∃ z : Nat, t = -(z : Int) := ⟨(-t).toNat, by omega⟩
  have hzb : (z : Int) ≤ 9223372036854775808 := by omega
  have e1 : t.tmod 86400 = -((z : Int) % 86400) := by rw [hz, Int.neg_tmod, Int.tmod_eq_emod_of_nonneg (by omega)]
  have e3 : (t + (z : Int) % 86400).tdiv 86400 = -((z : Int) / 86400) := by
   rw [show t + (z : Int) % 86400 = -(86400 * ((z : Int) / 86400)) by omega, Int.neg_tdiv, Int.tdiv_eq_ediv_of_nonneg (by omega), Int.mul_ediv_cancel_left _ (by decide)]
  rcases (show 0 < (z : Int) % 86400 ∨ (z : Int) % 86400 = 0 by omega) with hz2 | hz2
  ·have Z := hide hz
   clear hz
   go_enter Tryz.func85, Tryz.ntmps85
   go_wp2_with (go_at_call 115; refine (B.out _ _).mono ?_; rintro e w' ⟨rfl, rfl⟩)
   go_ret2
   exact ⟨ret2i (by have := Z.out; omega) (by have := Z.out; omega), rfl⟩
  ·rw [hz2, Int.neg_zero] at e1
   rw [hz2, Int.add_zero] at e3
   have Z := hide (And.intro hz hz2)
   clear hz hz2
   go_enter Tryz.func85, Tryz.ntmps85
   go_wp2_with (go_at_call 115; refine (B.out _ _).mono ?_; rintro e w' ⟨rfl, rfl⟩)
   go_ret2
   exact ⟨ret2i (by have := Z.out; omega) (by have := Z.out; omega), rfl⟩
theorem Of (t Y M D : Int) (w : World) (h0 : -9223372036854775808 ≤ t) (h1 : t < 9223372036854775808) (hd : IsDate (t / 86400) Y M D) :
 Calls Tryz.prog 87 #[.int .i64 t] w fun e w' => e = .returned (vof t Y M D) ∧ Below w.heap.size w w' := by
 have C1 := hide (fun w => Split t w h0 h1)
 have hb : -110000000000000 ≤ t / 86400 ∧ t / 86400 ≤ 110000000000000 := by omega
 have hs : 0 ≤ t % 86400 ∧ t % 86400 < 86400 := by omega
 have C2 := hide (fun w => r4_.Date (t / 86400) Y M D w (by omega) (by omega) hd)
 have C3 := hide (fun w => r4_.Weekday (t / 86400) w (by omega) (by omega))
 unfold vof
 clear hd
 generalize t / 86400 = n at *
 generalize t % 86400 = s at *
 obtain ⟨s0, s1⟩ := hs
 go_enter Tryz.func87, Tryz.ntmps87
 go_wp2_with fail
 refine (C1.out _).mono ?_
 rintro e w1 ⟨rfl, rfl⟩
 go_wp2_with fail
 refine (C2.out _).mono ?_
 rintro e w1 ⟨rfl, rfl⟩
 go_wp2_with fail
 refine (C3.out _).mono ?_
 rintro e w1 ⟨rfl, rfl⟩
 go_wp2
 refine bodyPost_ret (v := vdt Y M D (s / 3600) (s % 3600 / 60) (s % 60) ((n + 4) % 7)) (by simp [results, Tryz.results87, go_sem, vdt]) rfl ⟨rfl, bl_new _ _⟩
end r5_
def cmpI (a b c d : Int) : Int := if a < c ∨ (a = c ∧ b < d) then -1 else if a = c ∧ b = d then 0 else 1
namespace r11_
theorem Compare (a b c d : Int) (w : World) : Calls Tryz.prog 117 #[.agg #[.int .i64 a, .int .i64 b], .agg #[.int .i64 c, .int .i64 d]] w fun e w' => e = .returned (.int .i64 (cmpI a b c d)) ∧ Below w.heap.size w w' := by
 have hb := hide (bl_alloc (bl_new w (.cells #[.int .i64 a, .int .i64 b] 117)) (.cells #[.int .i64 c, .int .i64 d] 117))
 rcases (show a < c ∨ (a = c ∧ b < d) ∨ (a = c ∧ b = d) ∨ (a = c ∧ d < b) ∨ c < a by omega) with h | ⟨rfl, h⟩ | ⟨rfl, rfl⟩ | ⟨rfl, h⟩ | h
 all_goals
  go_enter Tryz.func117, Tryz.ntmps117
  go_wp2
  go_ret
  refine ⟨reti ?_, hb.out⟩
  unfold cmpI
  first
   | rfl
   | (rw [if_pos (by omega)])
   | (rw [if_neg (by omega), if_pos (by omega)])
   | (rw [if_neg (by omega), if_neg (by omega)])
theorem shift (day sec : Int) (w : World) (h0 : -300000000000000 ≤ day) (h1 : day ≤ 300000000000000) (s0 : -800000 ≤ sec) (s1 : sec ≤ 800000) :
 Calls Tryz.prog 137 #[.int .i64 day, .int .i64 sec] w fun e w' => e = .returned (.agg #[.int .i64 ((day * 86400 + sec) / 86400), .int .i64 ((day * 86400 + sec) % 86400)]) ∧ Below w.heap.size w w' := by
 obtain ⟨Q, hQ⟩ : ∃ Q, day * 86400 + sec = Q := ⟨_, rfl⟩
 have q0 : -25920000000000800000 ≤ Q := by omega
 have q1 : Q ≤ 25920000000000800000 := by omega
 rw [hQ]
 have hb := hide (bl_new w (.cells #[.int .i64 0, .int .i64 0] 117))
 go_enter Tryz.func137, Tryz.ntmps137
 go_wp2_with fail
 go_loopw [0, 1] (fun dv sv wr => ∃ x y : Int, dv = .int .i64 x ∧ sv = .int .i64 y ∧ x * 86400 + y = Q ∧ -800000 ≤ y ∧ y ≤ 800000 ∧ -300000000000100 ≤ x ∧ x ≤ 300000000000100 ∧ wr = w.alloc (.cells #[.int .i64 0, .int .i64 0] 117)) (fun _ sv _ => (0 - intOf sv).toNat)
 case atStart => exact ⟨day, sec, rfl, rfl, hQ, s0, s1, by omega, by omega, rfl⟩
 case round =>
  clear h0 h1 s0 s1 hQ
  obtain ⟨x, y, rfl, rfl, e, y0, y1, x0, x1, rfl⟩ := hrel
  by_cases hy : y < 0
  ·go_wp2
   go_roundw
   case rel => exact ⟨x - 1, y + 86400, by go_num, by go_num, by omega, by omega, by omega, by omega, by omega, by first | rfl | trivial⟩
   case measure => simp [intOf]; omega
  ·go_wp2_with fail
   go_loopw [0, 1] (fun dv sv wr => ∃ x y : Int, dv = .int .i64 x ∧ sv = .int .i64 y ∧ x * 86400 + y = Q ∧ 0 ≤ y ∧ y ≤ 800000 ∧ -300000000000200 ≤ x ∧ x ≤ 300000000000200 ∧ wr = w.alloc (.cells #[.int .i64 0, .int .i64 0] 117)) (fun _ sv _ => (intOf sv).toNat)
   case atStart => exact ⟨x, y, rfl, rfl, e, by omega, y1, by omega, by omega, rfl⟩
   case round =>
    clear e y0 y1 x0 x1 hy
    obtain ⟨x, y, rfl, rfl, e, y0, y1, x0, x1, rfl⟩ := hrel
    by_cases hy : 86400 ≤ y
    ·go_wp2
     go_roundw
     case rel => exact ⟨x + 1, y - 86400, by go_num, by go_num, by omega, by omega, by omega, by omega, by omega, by first | rfl | trivial⟩
     case measure => simp [intOf]; omega
    ·go_wp2
     exact bodyPost_ret (v := .agg #[.int .i64 x, .int .i64 y]) (by simp [results, Tryz.results137, go_sem]) rfl ⟨by rw [show x = Q / 86400 by omega, show y = Q % 86400 by omega], bl_new _ _⟩
end r11_
end Go.Proofs.YtbehflfpdkedgaaGreatDoor
