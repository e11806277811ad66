/-
  CONTRACTS OF PACKAGE zoneinforef05 (the reference of layer 5).
-/
import Derived.Test.YtdhogpcoegfopaaGreatDoorCvRef
namespace Go.Proofs.YtdhogpcoegfopaaGreatDoor
open Go.ChangeShapes Go.WideShapes Go.ChangeAt Go.RowKit
set_option linter.unusedVariables false
/-- a date-time as a value. -/
def vdt (Y M D h m s W : Int) : Value := .agg #[.int .i64 Y, .int .i64 M, .int .i64 D, .int .i64 h, .int .i64 m, .int .i64 s, .int .i64 W]
def DtOk (Y M D h m s W : Int) : Prop := Vd Y M D ∧ 0 ≤ h ∧ h ≤ 23 ∧ 0 ≤ m ∧ m ≤ 59 ∧ 0 ≤ s ∧ s ≤ 59 ∧ W = (days Y M D + 4) % 7
/-- the date-time of a timestamp whose day has the date Y, M, D. -/
def vof (t Y M D : Int) : Value := vdt Y M D (t % 86400 / 3600) (t % 86400 % 3600 / 60) (t % 86400 % 60) ((t / 86400 + 4) % 7)
theorem cells7 {w : World} {g : Nat} {a b c d e f k : Value} (h : Bx w g [a, b, c, d, e, f, k]) : w.cell? ⟨g, 0, none⟩ = some a ∧ w.cell? ⟨g, 1, none⟩ = some b ∧ w.cell? ⟨g, 2, none⟩ = some c ∧ w.cell? ⟨g, 3, none⟩ = some d ∧ w.cell? ⟨g, 4, none⟩ = some e ∧ w.cell? ⟨g, 5, none⟩ = some f ∧ w.cell? ⟨g, 6, none⟩ = some k :=
  ⟨h.2.1 0 _ rfl, h.2.1 1 _ rfl, h.2.1 2 _ rfl, h.2.1 3 _ rfl, h.2.1 4 _ rfl, h.2.1 5 _ rfl, h.2.1 6 _ rfl⟩
theorem rett {k : IntKind} {a b : Int} {p q : Bool} (h : a = b) (h' : p = q) : Ending.returned (.tuple #[.int k a, .bool p]) = .returned (.tuple #[.int k b, .bool q]) := by rw [h, h']
theorem flip {P : Program} {f : FuncId} {a : Array Value} {w : World} {x : Ending} (h : Calls P f a w fun e w' => e = x ∧ w = w') : Calls P f a w fun e w' => e = x ∧ w' = w := h.mono fun _ _ h => ⟨h.1, h.2.symm⟩
theorem lo_bd : -1000000000000000 ≤ loDay ∧ hiDay ≤ 1000000000000000 ∧ loDay ≤ -135140 ∧ 11017 ≤ hiDay := by unfold loDay hiDay ystart; omega
namespace r5_
theorem boolInt (b : Bool) (w : World) : Calls Tryz.prog 35 #[.bool b] w fun e w' => e = .returned (.int .i64 (if b then 1 else 0)) ∧ w = w' := by
  cases b
  all_goals
    go_enter Tryz.func35, Tryz.ntmps35
    go_wp2
    go_ret
    exact ⟨rfl, rfl⟩
theorem Split (t : Int) (w : World) (h0 : -9223372036854775808 ≤ t) (h1 : t < 9223372036854775808) :
    Calls Tryz.prog 15 #[.int .i64 t] w fun e w' => e = .returned (.tuple #[.int .i64 (t / 86400), .int .i64 (t % 86400)]) ∧ w = w' := by
  have B := hide boolInt
  by_cases hp : 0 ≤ t
  · go_enter Tryz.func15, Tryz.ntmps15
    go_wp2_with (go_at_call 35; refine (B.out _ _).mono ?_; rintro e w' ⟨rfl, rfl⟩)
    go_ret2
    exact ⟨ret2i (by omega) rfl, rfl⟩
  · obtain ⟨z, hz⟩ : ∃ z : Nat, t = -(z : Int) := ⟨(-t).toNat, by omega⟩
    have hzb : (z : Int) ≤ 9223372036854775808 := by omega
    have e1 : t.tmod 86400 = -((z : Int) % 86400) := by rw [hz, Int.neg_tmod, Int.tmod_eq_emod_of_nonneg (by omega)]
    have e3 : (t + (z : Int) % 86400).tdiv 86400 = -((z : Int) / 86400) := by
      rw [show t + (z : Int) % 86400 = -(86400 * ((z : Int) / 86400)) by omega, Int.neg_tdiv, Int.tdiv_eq_ediv_of_nonneg (by omega), Int.mul_ediv_cancel_left _ (by decide)]
    rcases (show 0 < (z : Int) % 86400 ∨ (z : Int) % 86400 = 0 by omega) with hz2 | hz2
    · have Z := hide hz
      clear hz
      go_enter Tryz.func15, Tryz.ntmps15
      go_wp2_with (go_at_call 35; refine (B.out _ _).mono ?_; rintro e w' ⟨rfl, rfl⟩)
      go_ret2
      exact ⟨ret2i (by have := Z.out; omega) (by have := Z.out; omega), rfl⟩
    · rw [hz2, Int.neg_zero] at e1
      rw [hz2, Int.add_zero] at e3
      have Z := hide (And.intro hz hz2)
      clear hz hz2
      go_enter Tryz.func15, Tryz.ntmps15
      go_wp2_with (go_at_call 35; refine (B.out _ _).mono ?_; rintro e w' ⟨rfl, rfl⟩)
      go_ret2
      exact ⟨ret2i (by have := Z.out; omega) (by have := Z.out; omega), rfl⟩
theorem Of (t Y M D : Int) (w : World) (h0 : -9223372036854775808 ≤ t) (h1 : t < 9223372036854775808) (hd : IsDate (t / 86400) Y M D) :
    Calls Tryz.prog 23 #[.int .i64 t] w fun e w' => e = .returned (vof t Y M D) ∧ Below w.heap.size w w' := by
  have C1 := hide (fun w => Split t w h0 h1)
  have hb : -110000000000000 ≤ t / 86400 ∧ t / 86400 ≤ 110000000000000 := by omega
  have hs : 0 ≤ t % 86400 ∧ t % 86400 < 86400 := by omega
  have C2 := hide (fun w => r4_.Date (t / 86400) Y M D w (by omega) (by omega) hd)
  have C3 := hide (fun w => r4_.Weekday (t / 86400) w (by omega) (by omega))
  unfold vof
  clear hd
  generalize t / 86400 = n at *
  generalize t % 86400 = s at *
  obtain ⟨s0, s1⟩ := hs
  go_enter Tryz.func23, Tryz.ntmps23
  go_wp2_with fail
  refine (C1.out _).mono ?_
  rintro e w1 ⟨rfl, rfl⟩
  go_wp2_with fail
  refine (C2.out _).mono ?_
  rintro e w1 ⟨rfl, rfl⟩
  go_wp2_with fail
  refine (C3.out _).mono ?_
  rintro e w1 ⟨rfl, rfl⟩
  go_wp2
  refine bodyPost_ret (v := vdt Y M D (s / 3600) (s % 3600 / 60) (s % 60) ((n + 4) % 7)) (by simp [results, Tryz.results23, go_sem, vdt]) rfl ⟨rfl, bl_new _ _⟩
end r5_
end Go.Proofs.YtdhogpcoegfopaaGreatDoor
