/-
  CONTRACTS OF PACKAGE zoneinforef06, the second part: the days of months (Mm.w.d), Day and At as a whole.
-/
import Derived.Test.YtdhogpcoegfopaaGreatDoorRdRef
import Derived.Deep.RegionHeld3
import Derived.Deep.DeepCutAuto
namespace Go.Proofs.YtdhogpcoegfopaaGreatDoor
open Go.ChangeShapes Go.WideShapes Go.ChangeAt Go.RowKit
set_option linter.unusedVariables false
/-- what the count over a month's days holds behind its first k days. -/
def Cnt (s f wk : Int) (k : Nat) (fd bs : Int) : Prop := 0 ≤ fd ∧ fd ≤ wk ∧ (fd = ((k : Int) - (f - s) + 6) / 7 ∨ (wk ≤ ((k : Int) - (f - s) + 6) / 7 ∧ fd = wk)) ∧ (fd = 0 → bs = s) ∧ (1 ≤ fd → bs = f + 7 * (fd - 1))
theorem rday_bd {K D M Wk Wd T y : Int} (hv : RdOk K D M Wk Wd T) (h0 : -200000000001 ≤ y) (h1 : y ≤ 200000000001) : -90000000000000 ≤ rday K D M Wk Wd y ∧ rday K D M Wk Wd y ≤ 90000000000000 := by
  have hs := r6_.ystart_bd h0 h1
  obtain ⟨_, _, ⟨rfl, h2, h3, _⟩ | ⟨rfl, h2, h3, _⟩ | ⟨rfl, _, h2, h3, h4, h5, h6, h7⟩⟩ := hv
  · unfold rday rdj
    simp
    split <;> omega
  · unfold rday
    simp
    omega
  · have := rdm_bd y M Wk Wd h6 h7 h4 h5
    have hc := cum_bd y (M - 1).toNat
    have hm := mdays_bd y M
    have hd : days y M 1 = ystart y + (cum y (M - 1).toNat + 1 - 1) := rfl
    unfold rday
    simp
    omega
namespace r6_
set_option maxHeartbeats 8000000 in
theorem Day_month (D M Wk Wd T y : Int) (w : World) (h0 : -200000000001 ≤ y) (h1 : y ≤ 200000000001) (m0 : 1 ≤ M) (m1 : M ≤ 12) (k0 : 1 ≤ Wk) (k1 : Wk ≤ 5) (d0 : 0 ≤ Wd) (d1 : Wd ≤ 6) :
    Calls Tryz.prog 46 #[vrd 3 D M Wk Wd T, .int .i64 y] w fun e w' => e = .returned (.int .i64 (rdm y M Wk Wd)) ∧ Below w.heap.size w w' := by
  have hb := hide (bl_new w (.cells #[.int .i64 3, .int .i64 D, .int .i64 M, .int .i64 Wk, .int .i64 Wd, .int .i64 T] 23))
  have bx := hide (Bx.new w [.int .i64 3, .int .i64 D, .int .i64 M, .int .i64 Wk, .int .i64 Wd, .int .i64 T] 23)
  have C := hide (fun w => r4_.Days y 1 1 w (by omega) (by omega) (by omega) (by omega) (by omega) (by omega))
  have C2 := hide (fun w => r4_.Days y M 1 w (by omega) (by omega) m0 m1 (by omega) (by omega))
  have Mo := hide (fun w => r4_.MonthDays y M w (by omega) (by omega))
  have hsb : -100000000000000 ≤ days y M 1 ∧ days y M 1 ≤ 100000000000000 := by
    have := ystart_bd h0 h1
    have := cum_bd y (M - 1).toNat
    unfold days yday
    omega
  have hf := rfirst_bd y M Wd d0 d1
  have hlen := mdays_bd y M
  have hres : Hid (rdm y M Wk Wd = if Wk ≤ 4 then rfirst y M Wd + 7 * (Wk - 1) else if rfirst y M Wd + 28 < days y M 1 + mdays y M then rfirst y M Wd + 28 else rfirst y M Wd + 21) := hide rfl
  generalize rdm y M Wk Wd = res at *
  generalize rfirst y M Wd = f at *
  generalize days y M 1 = s at *
  generalize hln : mdays y M = len at *
  have hln := hide hln
  generalize days y 1 1 = s1 at *
  obtain ⟨sb0, sb1⟩ := hsb
  obtain ⟨f0, f1, f2⟩ := hf
  have F := hide (And.intro f0 (And.intro f1 f2))
  obtain ⟨l0, l1⟩ := hlen
  obtain ⟨L, rfl⟩ : ∃ L : Nat, len = L := ⟨len.toNat, by omega⟩
  clear f0 f1 f2 h0 h1
  unfold vrd
  go_enter Tryz.func46, Tryz.ntmps46
  go_wp2_with fail
  refine (C.out _).mono ?_
  rintro e w1 ⟨rfl, rfl⟩
  go_wp2_with fail
  refine (C2.out _).mono ?_
  rintro e w1 ⟨rfl, rfl⟩
  go_wp2_with fail
  go_loopw [9, 10, 11] (fun fdv bsv nv wr => ∃ (k : Nat) (fd bs : Int), k ≤ L ∧ fdv = .int .i64 fd ∧ bsv = .int .i64 bs ∧ nv = .int .i64 (s + k) ∧ Hid (Cnt s f Wk k fd bs) ∧ Hid (Bx wr w.heap.size [.int .i64 3, .int .i64 D, .int .i64 M, .int .i64 Wk, .int .i64 Wd, .int .i64 T]) ∧ Hid (Below w.heap.size w wr)) (fun _ _ nv _ => (s + L - intOf nv).toNat)
  case atStart => exact ⟨0, 0, s, by omega, rfl, rfl, by simp, hide ⟨by omega, by omega, by have := F.out; omega, fun _ => rfl, fun h => by omega⟩, bx, hb⟩
  case round =>
    clear bx hb
    obtain ⟨k, fd, bs, hk, rfl, rfl, rfl, hc, bx, hb⟩ := hrel
    have hcc := hc.out
    obtain ⟨fd0, fd1, fd2, fd3, fd4⟩ := hcc
    have fd2 := hide fd2
    have fd3 := hide fd3
    have fd4 := hide fd4
    obtain ⟨x0, x1, x2, x3, x4, x5⟩ := cells6 bx.out
    by_cases hlt : k < L
    · have Wd1 := hide (fun w => flip6 (r4_.Weekday (s + k) w (by omega) (by omega)))
      by_cases hm : (s + (k : Int) + 4) % 7 = Wd
      · rw [hm] at Wd1
        have Hm := hide hm
        clear hm
        by_cases hfd : fd < Wk
        · have hnew := hide (show Cnt s f Wk (k + 1) (fd + 1) (s + k) from ⟨by omega, by omega, by have := fd2.out; have := Hm.out; have := F.out; omega, fun h => by omega, fun _ => by have := fd2.out; have := Hm.out; have := F.out; omega⟩)
          go_wp2_with (go_at_call 61; refine (Mo.out _).mono ?_; rintro e w' ⟨rfl, rfl⟩)
          go_quiet ((go_at_call 44; refine Calls.quiet_of_same (Wd1.out _)))
          go_wp2
          go_roundw
          case rel => exact ⟨k + 1, _, _, by omega, rfl, rfl, by go_num, hnew, bx, hide (bel_drewN hb.out _)⟩
          case measure => simp [intOf]; omega
        · have hnew := hide (show Cnt s f Wk (k + 1) fd bs from ⟨by omega, by omega, by have := fd2.out; have := Hm.out; have := F.out; omega, fd3.out, fd4.out⟩)
          go_wp2_with (go_at_call 61; refine (Mo.out _).mono ?_; rintro e w' ⟨rfl, rfl⟩)
          go_quiet ((go_at_call 44; refine Calls.quiet_of_same (Wd1.out _)))
          go_wp2
          go_roundw
          case rel => exact ⟨k + 1, _, _, by omega, rfl, rfl, by go_num, hnew, bx, hide (bel_drewN hb.out _)⟩
          case measure => simp [intOf]; omega
      · have hnew := hide (show Cnt s f Wk (k + 1) fd bs from ⟨by omega, by omega, by have := fd2.out; have := F.out; omega, fd3.out, fd4.out⟩)
        have hne : ((s + (k : Int) + 4) % 7 == Wd) = false := by simpa using hm
        generalize (s + (k : Int) + 4) % 7 = x at *
        clear hm
        go_wp2_with (go_at_call 61; refine (Mo.out _).mono ?_; rintro e w' ⟨rfl, rfl⟩)
        go_quiet ((go_at_call 44; refine Calls.quiet_of_same (Wd1.out _)))
        go_wp2
        go_roundw
        case rel => exact ⟨k + 1, _, _, by omega, rfl, rfl, by go_num, hnew, bx, hide (bel_drewN hb.out _)⟩
        case measure => simp [intOf]; omega
    · obtain rfl : k = L := by omega
      have hend := hide (show bs = res by
        rw [hres.out]
        have := fd2.out
        have := fd3.out
        have := fd4.out
        have := F.out
        split
        · omega
        · split <;> omega)
      go_wp2_with (go_at_call 61; refine (Mo.out _).mono ?_; rintro e w' ⟨rfl, rfl⟩)
      go_ret
      exact ⟨reti hend.out, hb.out⟩
theorem Day {K D M Wk Wd T : Int} (y : Int) (w : World) (hv : RdOk K D M Wk Wd T) (h0 : -200000000001 ≤ y) (h1 : y ≤ 200000000001) :
    Calls Tryz.prog 46 #[vrd K D M Wk Wd T, .int .i64 y] w fun e w' => e = .returned (.int .i64 (rday K D M Wk Wd y)) ∧ Below w.heap.size w w' := by
  obtain ⟨_, _, ⟨rfl, h2, h3, _⟩ | ⟨rfl, h2, h3, _⟩ | ⟨rfl, _, h2, h3, h4, h5, h6, h7⟩⟩ := hv
  · exact Day_julian D M Wk Wd T y w h0 h1 h2 h3
  · exact Day_zero D M Wk Wd T y w h0 h1 h2 (by omega)
  · exact Day_month D M Wk Wd T y w h0 h1 h2 h3 h4 h5 h6 h7
end r6_
end Go.Proofs.YtdhogpcoegfopaaGreatDoor
