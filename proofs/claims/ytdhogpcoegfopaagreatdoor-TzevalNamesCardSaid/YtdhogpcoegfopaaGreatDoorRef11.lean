/-
  CONTRACTS of zoneinforef11 (the reference of layer 11): Compare, shift. A condition on shift: at most 800000 seconds, a day within 64 bits' reach.
-/
import Derived.Test.YtdhogpcoegfopaaGreatDoorRdRW
import Derived.Test.YtdhogpcoegfopaaGreatDoorDtRef
import Derived.Test.YtdhogpcoegfopaaGreatDoorTeMath
import Derived.Test.YtdhogpcoegfopaaGreatDoorPoW
import Derived.Test.YtdhogpcoegfopaaGreatDoorRow2
namespace Go.Proofs.YtdhogpcoegfopaaGreatDoor
open Go.ChangeShapes Go.WideShapes Go.ChangeAt Go.RowKit
set_option linter.unusedVariables false
/-- how two instants compare. -/
def cmpI (a b c d : Int) : Int := if a < c ∨ (a = c ∧ b < d) then -1 else if a = c ∧ b = d then 0 else 1
namespace r11_
set_option maxHeartbeats 2000000 in
theorem Compare (a b c d : Int) (w : World) : Calls Tryz.prog 26 #[.agg #[.int .i64 a, .int .i64 b], .agg #[.int .i64 c, .int .i64 d]] w fun e w' => e = .returned (.int .i64 (cmpI a b c d)) ∧ Below w.heap.size w w' := by
  have hb := hide (bl_alloc (bl_new w (.cells #[.int .i64 a, .int .i64 b] 38)) (.cells #[.int .i64 c, .int .i64 d] 38))
  rcases (show a < c ∨ (a = c ∧ b < d) ∨ (a = c ∧ b = d) ∨ (a = c ∧ d < b) ∨ c < a by omega) with h | ⟨rfl, h⟩ | ⟨rfl, rfl⟩ | ⟨rfl, h⟩ | h
  all_goals
    go_enter Tryz.func26, Tryz.ntmps26
    go_wp2
    go_ret
    refine ⟨reti ?_, hb.out⟩
    unfold cmpI
    first
      | rfl
      | (rw [if_pos (by omega)])
      | (rw [if_neg (by omega), if_pos (by omega)])
      | (rw [if_neg (by omega), if_neg (by omega)])
set_option maxHeartbeats 4000000 in
theorem shift (day sec : Int) (w : World) (h0 : -300000000000000 ≤ day) (h1 : day ≤ 300000000000000) (s0 : -800000 ≤ sec) (s1 : sec ≤ 800000) :
    Calls Tryz.prog 45 #[.int .i64 day, .int .i64 sec] w fun e w' => e = .returned (.agg #[.int .i64 ((day * 86400 + sec) / 86400), .int .i64 ((day * 86400 + sec) % 86400)]) ∧ Below w.heap.size w w' := by
  obtain ⟨Q, hQ⟩ : ∃ Q, day * 86400 + sec = Q := ⟨_, rfl⟩
  have q0 : -25920000000000800000 ≤ Q := by omega
  have q1 : Q ≤ 25920000000000800000 := by omega
  rw [hQ]
  have hb := hide (bl_new w (.cells #[.int .i64 0, .int .i64 0] 38))
  go_enter Tryz.func45, Tryz.ntmps45
  go_wp2_with fail
  go_loopw [0, 1] (fun dv sv wr => ∃ x y : Int, dv = .int .i64 x ∧ sv = .int .i64 y ∧ x * 86400 + y = Q ∧ -800000 ≤ y ∧ y ≤ 800000 ∧ -300000000000100 ≤ x ∧ x ≤ 300000000000100 ∧ wr = w.alloc (.cells #[.int .i64 0, .int .i64 0] 38)) (fun _ sv _ => (0 - intOf sv).toNat)
  case atStart => exact ⟨day, sec, rfl, rfl, hQ, s0, s1, by omega, by omega, rfl⟩
  case round =>
    clear h0 h1 s0 s1 hQ
    obtain ⟨x, y, rfl, rfl, e, y0, y1, x0, x1, rfl⟩ := hrel
    by_cases hy : y < 0
    · go_wp2
      go_roundw
      case rel => exact ⟨x - 1, y + 86400, by go_num, by go_num, by omega, by omega, by omega, by omega, by omega, by first | rfl | trivial⟩
      case measure => simp [intOf]; omega
    · go_wp2_with fail
      go_loopw [0, 1] (fun dv sv wr => ∃ x y : Int, dv = .int .i64 x ∧ sv = .int .i64 y ∧ x * 86400 + y = Q ∧ 0 ≤ y ∧ y ≤ 800000 ∧ -300000000000200 ≤ x ∧ x ≤ 300000000000200 ∧ wr = w.alloc (.cells #[.int .i64 0, .int .i64 0] 38)) (fun _ sv _ => (intOf sv).toNat)
      case atStart => exact ⟨x, y, rfl, rfl, e, by omega, y1, by omega, by omega, rfl⟩
      case round =>
        clear e y0 y1 x0 x1 hy
        obtain ⟨x, y, rfl, rfl, e, y0, y1, x0, x1, rfl⟩ := hrel
        by_cases hy : 86400 ≤ y
        · go_wp2
          go_roundw
          case rel => exact ⟨x + 1, y - 86400, by go_num, by go_num, by omega, by omega, by omega, by omega, by omega, by first | rfl | trivial⟩
          case measure => simp [intOf]; omega
        · go_wp2
          exact bodyPost_ret (v := .agg #[.int .i64 x, .int .i64 y]) (by simp [results, Tryz.results45, go_sem]) rfl ⟨by rw [show x = Q / 86400 by omega, show y = Q % 86400 by omega], bl_new _ _⟩
end r11_
end Go.Proofs.YtdhogpcoegfopaaGreatDoor
