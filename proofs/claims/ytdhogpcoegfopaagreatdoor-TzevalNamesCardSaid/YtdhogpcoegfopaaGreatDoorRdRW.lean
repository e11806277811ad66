/-
  CONTRACTS OF zoneinforef06.Day for years up to 600,000,000,001 in absolute value (XRdRef, XRdRef2 have the narrower ones).
-/
import Derived.Test.YtdhogpcoegfopaaGreatDoorRdRef2
namespace Go.Proofs.YtdhogpcoegfopaaGreatDoor
open Go.ChangeShapes Go.WideShapes Go.ChangeAt Go.RowKit
set_option linter.unusedVariables false
namespace r6w_
theorem ystart_bd {y : Int} (h0 : -600000000001 ≤ y) (h1 : y ≤ 600000000001) : -240000000000000 ≤ ystart y ∧ ystart y ≤ 240000000000000 := by unfold ystart; omega
end r6w_
theorem rday_bdw {K D M Wk Wd T y : Int} (hv : RdOk K D M Wk Wd T) (h0 : -600000000001 ≤ y) (h1 : y ≤ 600000000001) : -270000000000000 ≤ rday K D M Wk Wd y ∧ rday K D M Wk Wd y ≤ 270000000000000 := by
  have hs := r6w_.ystart_bd h0 h1
  obtain ⟨_, _, ⟨rfl, h2, h3, _⟩ | ⟨rfl, h2, h3, _⟩ | ⟨rfl, _, h2, h3, h4, h5, h6, h7⟩⟩ := hv
  · unfold rday rdj
    simp
    split <;> omega
  · unfold rday
    simp
    omega
  · have := rdm_bd y M Wk Wd h6 h7 h4 h5
    have hc := cum_bd y (M - 1).toNat
    have hm := mdays_bd y M
    have hd : days y M 1 = ystart y + (cum y (M - 1).toNat + 1 - 1) := rfl
    unfold rday
    simp
    omega
namespace r6w_
set_option maxHeartbeats 4000000 in
theorem Day_zero (D M Wk Wd T y : Int) (w : World) (h0 : -600000000001 ≤ y) (h1 : y ≤ 600000000001) (hk : 0 ≤ D) (hk' : D ≤ 366) :
    Calls Tryz.prog 46 #[vrd 2 D M Wk Wd T, .int .i64 y] w fun e w' => e = .returned (.int .i64 (ystart y + D)) ∧ Below w.heap.size w w' := by
  have hb := ystart_bd h0 h1
  have C := hide (fun w => r4_.Days y 1 1 w (by omega) (by omega) (by omega) (by omega) (by omega) (by omega))
  rw [days_first] at C
  generalize ystart y = s at *
  obtain ⟨b0, b1⟩ := hb
  unfold vrd
  go_enter Tryz.func46, Tryz.ntmps46
  go_wp2_with fail
  refine (C.out _).mono ?_
  rintro e w1 ⟨rfl, rfl⟩
  go_wp2
  go_ret
  exact ⟨rfl, bl_new _ _⟩
set_option maxHeartbeats 4000000 in
theorem Day_julian (D M Wk Wd T y : Int) (w : World) (h0 : -600000000001 ≤ y) (h1 : y ≤ 600000000001) (hk : 1 ≤ D) (hk' : D ≤ 365) :
    Calls Tryz.prog 46 #[vrd 1 D M Wk Wd T, .int .i64 y] w fun e w' => e = .returned (.int .i64 (rdj y D)) ∧ Below w.heap.size w w' := by
  obtain ⟨k, hk11, hc1, hc2⟩ := julian hk hk'
  have hj := julian_day (y := y) hk11 hc1 hc2
  have hb := hide (bl_new w (.cells #[.int .i64 1, .int .i64 D, .int .i64 M, .int .i64 Wk, .int .i64 Wd, .int .i64 T] 23))
  have C := hide (fun w => r4_.Days y 1 1 w (by omega) (by omega) (by omega) (by omega) (by omega) (by omega))
  have C2 := hide (fun w => r4_.Days y ((k : Int) + 1) (D - cum 2001 k) w (by omega) (by omega) (by omega) (by omega) (by have := hj.2.2.2.1; omega) (by have := hj.2.2.2.2; have := mdays_bd y ((k : Int) + 1); omega))
  have Mo := hide (fun m w => r4_.MonthDays 2001 m w (by omega) (by omega))
  rw [hj.1] at C2
  have Hc1 := hide hc1
  have Hc2 := hide hc2
  have F0 := hide (show D - cum 2001 0 = D by simp [cum])
  clear hj hc1 hc2
  generalize days y 1 1 = s at *
  generalize rdj y D = res at *
  unfold vrd
  go_enter Tryz.func46, Tryz.ntmps46
  go_wp2_with fail
  refine (C.out _).mono ?_
  rintro e w1 ⟨rfl, rfl⟩
  go_wp2_with fail
  go_loop [6, 7] (fun m d => ∃ (i : Nat) (v : Int), i ≤ k ∧ m = .int .i64 ((i : Int) + 1) ∧ d = .int .i64 v ∧ Hid (v = D - cum 2001 i)) (fun m _ => k + 2 - (intOf m).toNat)
  case atStart => exact ⟨0, _, by omega, rfl, rfl, hide F0.out.symm⟩
  case round =>
    obtain ⟨i, v, hi, rfl, rfl, hv⟩ := hrel
    have hvv := hv.out
    have M1 := hide (Mo.out ((i : Int) + 1))
    have b2 := mdays_bd 2001 ((i : Int) + 1)
    have b1 := cum_bd 2001 i
    have hcs : cum 2001 (i + 1) = cum 2001 i + mdays 2001 ((i : Int) + 1) := rfl
    have g1 := Hc1.out
    have g2 := Hc2.out
    by_cases hlt : i < k
    · have hcm := cum_mono 2001 (show i + 1 ≤ k by omega)
      have hge : mdays 2001 ((i : Int) + 1) < v := by omega
      have hun := hide (show v - mdays 2001 ((i : Int) + 1) = D - cum 2001 (i + 1) by omega)
      have hub : v ≤ 366 := by omega
      clear hvv hcs g1 g2 hcm b1
      generalize mdays 2001 ((i : Int) + 1) = x at *
      obtain ⟨b2, b3⟩ := b2
      go_wp2_with (go_at_call 61; refine (M1.out _).mono ?_; rintro e w' ⟨rfl, rfl⟩)
      go_round
      case rel => exact ⟨i + 1, _, by omega, by go_num, rfl, hun⟩
      case measure => simp [intOf]; omega
    · obtain rfl : i = k := by omega
      have hle : v ≤ mdays 2001 ((i : Int) + 1) := by omega
      rw [← hvv] at C2
      clear hvv hcs g1 g2 b1
      generalize mdays 2001 ((i : Int) + 1) = x at *
      go_wp2_with (first
        | (go_at_call 61; refine (M1.out _).mono ?_; rintro e w' ⟨rfl, rfl⟩)
        | (go_at_call 62; refine (C2.out _).mono ?_; rintro e w' ⟨rfl, rfl⟩))
      go_ret
      exact ⟨rfl, hb.out⟩
set_option maxHeartbeats 8000000 in
theorem Day_month (D M Wk Wd T y : Int) (w : World) (h0 : -600000000001 ≤ y) (h1 : y ≤ 600000000001) (m0 : 1 ≤ M) (m1 : M ≤ 12) (k0 : 1 ≤ Wk) (k1 : Wk ≤ 5) (d0 : 0 ≤ Wd) (d1 : Wd ≤ 6) :
    Calls Tryz.prog 46 #[vrd 3 D M Wk Wd T, .int .i64 y] w fun e w' => e = .returned (.int .i64 (rdm y M Wk Wd)) ∧ Below w.heap.size w w' := by
  have hb := hide (bl_new w (.cells #[.int .i64 3, .int .i64 D, .int .i64 M, .int .i64 Wk, .int .i64 Wd, .int .i64 T] 23))
  have bx := hide (Bx.new w [.int .i64 3, .int .i64 D, .int .i64 M, .int .i64 Wk, .int .i64 Wd, .int .i64 T] 23)
  have C := hide (fun w => r4_.Days y 1 1 w (by omega) (by omega) (by omega) (by omega) (by omega) (by omega))
  have C2 := hide (fun w => r4_.Days y M 1 w (by omega) (by omega) m0 m1 (by omega) (by omega))
  have Mo := hide (fun w => r4_.MonthDays y M w (by omega) (by omega))
  have hsb : -300000000000000 ≤ days y M 1 ∧ days y M 1 ≤ 300000000000000 := by
    have := ystart_bd h0 h1
    have := cum_bd y (M - 1).toNat
    unfold days yday
    omega
  have hf := rfirst_bd y M Wd d0 d1
  have hlen := mdays_bd y M
  have hres : Hid (rdm y M Wk Wd = if Wk ≤ 4 then rfirst y M Wd + 7 * (Wk - 1) else if rfirst y M Wd + 28 < days y M 1 + mdays y M then rfirst y M Wd + 28 else rfirst y M Wd + 21) := hide rfl
  generalize rdm y M Wk Wd = res at *
  generalize rfirst y M Wd = f at *
  generalize days y M 1 = s at *
  generalize hln : mdays y M = len at *
  have hln := hide hln
  generalize days y 1 1 = s1 at *
  obtain ⟨sb0, sb1⟩ := hsb
  obtain ⟨f0, f1, f2⟩ := hf
  have F := hide (And.intro f0 (And.intro f1 f2))
  obtain ⟨l0, l1⟩ := hlen
  obtain ⟨L, rfl⟩ : ∃ L : Nat, len = L := ⟨len.toNat, by omega⟩
  clear f0 f1 f2 h0 h1
  unfold vrd
  go_enter Tryz.func46, Tryz.ntmps46
  go_wp2_with fail
  refine (C.out _).mono ?_
  rintro e w1 ⟨rfl, rfl⟩
  go_wp2_with fail
  refine (C2.out _).mono ?_
  rintro e w1 ⟨rfl, rfl⟩
  go_wp2_with fail
  go_loopw [9, 10, 11] (fun fdv bsv nv wr => ∃ (k : Nat) (fd bs : Int), k ≤ L ∧ fdv = .int .i64 fd ∧ bsv = .int .i64 bs ∧ nv = .int .i64 (s + k) ∧ Hid (Cnt s f Wk k fd bs) ∧ Hid (Bx wr w.heap.size [.int .i64 3, .int .i64 D, .int .i64 M, .int .i64 Wk, .int .i64 Wd, .int .i64 T]) ∧ Hid (Below w.heap.size w wr)) (fun _ _ nv _ => (s + L - intOf nv).toNat)
  case atStart => exact ⟨0, 0, s, by omega, rfl, rfl, by simp, hide ⟨by omega, by omega, by have := F.out; omega, fun _ => rfl, fun h => by omega⟩, bx, hb⟩
  case round =>
    clear bx hb
    obtain ⟨k, fd, bs, hk, rfl, rfl, rfl, hc, bx, hb⟩ := hrel
    have hcc := hc.out
    obtain ⟨fd0, fd1, fd2, fd3, fd4⟩ := hcc
    have fd2 := hide fd2
    have fd3 := hide fd3
    have fd4 := hide fd4
    obtain ⟨x0, x1, x2, x3, x4, x5⟩ := cells6 bx.out
    by_cases hlt : k < L
    · have Wd1 := hide (fun w => flip6 (r4_.Weekday (s + k) w (by omega) (by omega)))
      by_cases hm : (s + (k : Int) + 4) % 7 = Wd
      · rw [hm] at Wd1
        have Hm := hide hm
        clear hm
        by_cases hfd : fd < Wk
        · have hnew := hide (show Cnt s f Wk (k + 1) (fd + 1) (s + k) from ⟨by omega, by omega, by have := fd2.out; have := Hm.out; have := F.out; omega, fun h => by omega, fun _ => by have := fd2.out; have := Hm.out; have := F.out; omega⟩)
          go_wp2_with (go_at_call 61; refine (Mo.out _).mono ?_; rintro e w' ⟨rfl, rfl⟩)
          go_quiet ((go_at_call 44; refine Calls.quiet_of_same (Wd1.out _)))
          go_wp2
          go_roundw
          case rel => exact ⟨k + 1, _, _, by omega, rfl, rfl, by go_num, hnew, bx, hide (bel_drewN hb.out _)⟩
          case measure => simp [intOf]; omega
        · have hnew := hide (show Cnt s f Wk (k + 1) fd bs from ⟨by omega, by omega, by have := fd2.out; have := Hm.out; have := F.out; omega, fd3.out, fd4.out⟩)
          go_wp2_with (go_at_call 61; refine (Mo.out _).mono ?_; rintro e w' ⟨rfl, rfl⟩)
          go_quiet ((go_at_call 44; refine Calls.quiet_of_same (Wd1.out _)))
          go_wp2
          go_roundw
          case rel => exact ⟨k + 1, _, _, by omega, rfl, rfl, by go_num, hnew, bx, hide (bel_drewN hb.out _)⟩
          case measure => simp [intOf]; omega
      · have hnew := hide (show Cnt s f Wk (k + 1) fd bs from ⟨by omega, by omega, by have := fd2.out; have := F.out; omega, fd3.out, fd4.out⟩)
        have hne : ((s + (k : Int) + 4) % 7 == Wd) = false := by simpa using hm
        generalize (s + (k : Int) + 4) % 7 = x at *
        clear hm
        go_wp2_with (go_at_call 61; refine (Mo.out _).mono ?_; rintro e w' ⟨rfl, rfl⟩)
        go_quiet ((go_at_call 44; refine Calls.quiet_of_same (Wd1.out _)))
        go_wp2
        go_roundw
        case rel => exact ⟨k + 1, _, _, by omega, rfl, rfl, by go_num, hnew, bx, hide (bel_drewN hb.out _)⟩
        case measure => simp [intOf]; omega
    · obtain rfl : k = L := by omega
      have hend := hide (show bs = res by
        rw [hres.out]
        have := fd2.out
        have := fd3.out
        have := fd4.out
        have := F.out
        split
        · omega
        · split <;> omega)
      go_wp2_with (go_at_call 61; refine (Mo.out _).mono ?_; rintro e w' ⟨rfl, rfl⟩)
      go_ret
      exact ⟨reti hend.out, hb.out⟩
theorem Day {K D M Wk Wd T : Int} (y : Int) (w : World) (hv : RdOk K D M Wk Wd T) (h0 : -600000000001 ≤ y) (h1 : y ≤ 600000000001) :
    Calls Tryz.prog 46 #[vrd K D M Wk Wd T, .int .i64 y] w fun e w' => e = .returned (.int .i64 (rday K D M Wk Wd y)) ∧ Below w.heap.size w w' := by
  obtain ⟨_, _, ⟨rfl, h2, h3, _⟩ | ⟨rfl, h2, h3, _⟩ | ⟨rfl, _, h2, h3, h4, h5, h6, h7⟩⟩ := hv
  · exact Day_julian D M Wk Wd T y w h0 h1 h2 h3
  · exact Day_zero D M Wk Wd T y w h0 h1 h2 (by omega)
  · exact Day_month D M Wk Wd T y w h0 h1 h2 h3 h4 h5 h6 h7
end r6w_
end Go.Proofs.YtdhogpcoegfopaaGreatDoor
