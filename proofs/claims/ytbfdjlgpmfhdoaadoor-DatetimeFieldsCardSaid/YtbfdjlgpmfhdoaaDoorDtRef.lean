/-
  CONTRACTS OF PACKAGE zoneinforef05 (the reference of layer 5).
-/
import Derived.Test.YtbfdjlgpmfhdoaaDoorCvRef
namespace Go.Proofs.YtbfdjlgpmfhdoaaDoor
open Go.ChangeShapes Go.WideShapes Go.ChangeAt Go.RowKit
set_option linter.unusedVariables false
/-- a date-time as a value. -/
def vdt (Y M D h m s W : Int) : Value := .agg #[.int .i64 Y, .int .i64 M, .int .i64 D, .int .i64 h, .int .i64 m, .int .i64 s, .int .i64 W]
def DtOk (Y M D h m s W : Int) : Prop := Vd Y M D ∧ 0 ≤ h ∧ h ≤ 23 ∧ 0 ≤ m ∧ m ≤ 59 ∧ 0 ≤ s ∧ s ≤ 59 ∧ W = (days Y M D + 4) % 7
/-- the date-time of a timestamp whose day has the date Y, M, D. -/
def vof (t Y M D : Int) : Value := vdt Y M D (t % 86400 / 3600) (t % 86400 % 3600 / 60) (t % 86400 % 60) ((t / 86400 + 4) % 7)
theorem cells7 {w : World} {g : Nat} {a b c d e f k : Value} (h : Bx w g [a, b, c, d, e, f, k]) : w.cell? ⟨g, 0, none⟩ = some a ∧ w.cell? ⟨g, 1, none⟩ = some b ∧ w.cell? ⟨g, 2, none⟩ = some c ∧ w.cell? ⟨g, 3, none⟩ = some d ∧ w.cell? ⟨g, 4, none⟩ = some e ∧ w.cell? ⟨g, 5, none⟩ = some f ∧ w.cell? ⟨g, 6, none⟩ = some k :=
  ⟨h.2.1 0 _ rfl, h.2.1 1 _ rfl, h.2.1 2 _ rfl, h.2.1 3 _ rfl, h.2.1 4 _ rfl, h.2.1 5 _ rfl, h.2.1 6 _ rfl⟩
theorem rett {k : IntKind} {a b : Int} {p q : Bool} (h : a = b) (h' : p = q) : Ending.returned (.tuple #[.int k a, .bool p]) = .returned (.tuple #[.int k b, .bool q]) := by rw [h, h']
theorem flip {P : Program} {f : FuncId} {a : Array Value} {w : World} {x : Ending} (h : Calls P f a w fun e w' => e = x ∧ w = w') : Calls P f a w fun e w' => e = x ∧ w' = w := h.mono fun _ _ h => ⟨h.1, h.2.symm⟩
theorem lo_bd : -1000000000000000 ≤ loDay ∧ hiDay ≤ 1000000000000000 ∧ loDay ≤ -135140 ∧ 11017 ≤ hiDay := by unfold loDay hiDay ystart; omega
namespace r5_
theorem boolInt (b : Bool) (w : World) : Calls Tryd.prog 18 #[.bool b] w fun e w' => e = .returned (.int .i64 (if b then 1 else 0)) ∧ w = w' := by
  cases b
  all_goals
    go_enter Tryd.func18, Tryd.ntmps18
    go_wp2
    go_ret
    exact ⟨rfl, rfl⟩
theorem Split (t : Int) (w : World) (h0 : -9223372036854775808 ≤ t) (h1 : t < 9223372036854775808) :
    Calls Tryd.prog 10 #[.int .i64 t] w fun e w' => e = .returned (.tuple #[.int .i64 (t / 86400), .int .i64 (t % 86400)]) ∧ w = w' := by
  have B := hide boolInt
  by_cases hp : 0 ≤ t
  · go_enter Tryd.func10, Tryd.ntmps10
    go_wp2_with (go_at_call 18; refine (B.out _ _).mono ?_; rintro e w' ⟨rfl, rfl⟩)
    go_ret2
    exact ⟨ret2i (by omega) rfl, rfl⟩
  · obtain ⟨z, hz⟩ : ∃ z : Nat, t = -(z : Int) := ⟨(-t).toNat, by omega⟩
    have hzb : (z : Int) ≤ 9223372036854775808 := by omega
    have e1 : t.tmod 86400 = -((z : Int) % 86400) := by rw [hz, Int.neg_tmod, Int.tmod_eq_emod_of_nonneg (by omega)]
    have e3 : (t + (z : Int) % 86400).tdiv 86400 = -((z : Int) / 86400) := by
      rw [show t + (z : Int) % 86400 = -(86400 * ((z : Int) / 86400)) by omega, Int.neg_tdiv, Int.tdiv_eq_ediv_of_nonneg (by omega), Int.mul_ediv_cancel_left _ (by decide)]
    rcases (show 0 < (z : Int) % 86400 ∨ (z : Int) % 86400 = 0 by omega) with hz2 | hz2
    · have Z := hide hz
      clear hz
      go_enter Tryd.func10, Tryd.ntmps10
      go_wp2_with (go_at_call 18; refine (B.out _ _).mono ?_; rintro e w' ⟨rfl, rfl⟩)
      go_ret2
      exact ⟨ret2i (by have := Z.out; omega) (by have := Z.out; omega), rfl⟩
    · rw [hz2, Int.neg_zero] at e1
      rw [hz2, Int.add_zero] at e3
      have Z := hide (And.intro hz hz2)
      clear hz hz2
      go_enter Tryd.func10, Tryd.ntmps10
      go_wp2_with (go_at_call 18; refine (B.out _ _).mono ?_; rintro e w' ⟨rfl, rfl⟩)
      go_ret2
      exact ⟨ret2i (by have := Z.out; omega) (by have := Z.out; omega), rfl⟩
theorem Valid_yes (Y M D h m s W : Int) (w : World) (hv : DtOk Y M D h m s W) : Calls Tryd.prog 16 #[vdt Y M D h m s W] w fun e w' => e = .returned (.bool true) ∧ Below w.heap.size w w' := by
  obtain ⟨h1, h2, h3, h4, h5, h6, h7, rfl⟩ := hv
  have C1 := hide (fun w => r4_.Valid_yes Y M D w h1)
  have C2 := hide (fun w => flip (r4_.Days Y M D w (by have := h1.1; omega) (by have := h1.2.1; omega) h1.2.2.1 h1.2.2.2.1 h1.2.2.2.2.1 (by have := h1.2.2.2.2.2; have := mdays_bd Y M; omega)))
  have hb := h1.day
  have hl := lo_bd
  have C3 := hide (fun w => flip (r4_.Weekday (days Y M D) w (by omega) (by omega)))
  clear hl hb h1
  generalize days Y M D = n at *
  unfold vdt
  go_enter Tryd.func16, Tryd.ntmps16
  go_wp2_with (go_at_call 27; refine (C1.out _).mono ?_; rintro e w' ⟨rfl, rfl⟩)
  go_quiet ((first | (go_at_call 17; refine Calls.quiet_of_same (C2.out _)) | (go_at_call 26; refine Calls.quiet_of_same (C3.out _))))
  go_wp2
  go_ret
  exact ⟨rfl, bel_drewN (bl_new _ _) _⟩
set_option maxHeartbeats 4000000 in
theorem Valid_no (Y M D h m s W : Int) (w : World) (hv : ¬ DtOk Y M D h m s W) : Calls Tryd.prog 16 #[vdt Y M D h m s W] w fun e w' => e = .returned (.bool false) ∧ Below w.heap.size w w' := by
  by_cases h1 : Vd Y M D
  · have C1 := hide (fun w => r4_.Valid_yes Y M D w h1)
    have C2 := hide (fun w => flip (r4_.Days Y M D w (by have := h1.1; omega) (by have := h1.2.1; omega) h1.2.2.1 h1.2.2.2.1 h1.2.2.2.2.1 (by have := h1.2.2.2.2.2; have := mdays_bd Y M; omega)))
    have hb := h1.day
    have hl := lo_bd
    have C3 := hide (fun w => flip (r4_.Weekday (days Y M D) w (by omega) (by omega)))
    have hc : (h < 0 ∨ (0 ≤ h ∧ 23 < h) ∨ (0 ≤ h ∧ h ≤ 23 ∧ m < 0) ∨ (0 ≤ h ∧ h ≤ 23 ∧ 0 ≤ m ∧ 59 < m) ∨ (0 ≤ h ∧ h ≤ 23 ∧ 0 ≤ m ∧ m ≤ 59 ∧ s < 0) ∨ (0 ≤ h ∧ h ≤ 23 ∧ 0 ≤ m ∧ m ≤ 59 ∧ 0 ≤ s ∧ 59 < s)) ∨ ((0 ≤ h ∧ h ≤ 23 ∧ 0 ≤ m ∧ m ≤ 59 ∧ 0 ≤ s ∧ s ≤ 59) ∧ (W == (days Y M D + 4) % 7) = false) := by
      by_cases hh : 0 ≤ h ∧ h ≤ 23 ∧ 0 ≤ m ∧ m ≤ 59 ∧ 0 ≤ s ∧ s ≤ 59
      · refine .inr ⟨hh, ?_⟩
        have : ¬ W = (days Y M D + 4) % 7 := fun hw => hv ⟨h1, hh.1, hh.2.1, hh.2.2.1, hh.2.2.2.1, hh.2.2.2.2.1, hh.2.2.2.2.2, hw⟩
        simpa using this
      · exact .inl (by omega)
    clear hv hb hl h1
    generalize days Y M D = n at *
    unfold vdt
    rcases hc with hc | ⟨⟨hc, hc2, hc3, hc4, hc5, hc6⟩, hc7⟩
    · rcases hc with hc | ⟨hc, hc2⟩ | ⟨hc, hc2, hc3⟩ | ⟨hc, hc2, hc3, hc4⟩ | ⟨hc, hc2, hc3, hc4, hc5⟩ | ⟨hc, hc2, hc3, hc4, hc5, hc6⟩
      all_goals
        go_enter Tryd.func16, Tryd.ntmps16
        go_wp2_with (go_at_call 27; refine (C1.out _).mono ?_; rintro e w' ⟨rfl, rfl⟩)
        go_ret
        exact ⟨rfl, bl_new _ _⟩
    · go_enter Tryd.func16, Tryd.ntmps16
      go_wp2_with (go_at_call 27; refine (C1.out _).mono ?_; rintro e w' ⟨rfl, rfl⟩)
      go_quiet ((first | (go_at_call 17; refine Calls.quiet_of_same (C2.out _)) | (go_at_call 26; refine Calls.quiet_of_same (C3.out _))))
      go_wp2
      go_ret
      exact ⟨rfl, bel_drewN (bl_new _ _) _⟩
  · have C1 := hide (fun w => r4_.Valid_no Y M D w h1)
    clear hv h1
    unfold vdt
    go_enter Tryd.func16, Tryd.ntmps16
    go_wp2_with (go_at_call 27; refine (C1.out _).mono ?_; rintro e w' ⟨rfl, rfl⟩)
    go_ret
    exact ⟨rfl, bl_new _ _⟩
theorem Of (t Y M D : Int) (w : World) (h0 : -9223372036854775808 ≤ t) (h1 : t < 9223372036854775808) (hd : IsDate (t / 86400) Y M D) :
    Calls Tryd.prog 14 #[.int .i64 t] w fun e w' => e = .returned (vof t Y M D) ∧ Below w.heap.size w w' := by
  have C1 := hide (fun w => Split t w h0 h1)
  have hb : -110000000000000 ≤ t / 86400 ∧ t / 86400 ≤ 110000000000000 := by omega
  have hs : 0 ≤ t % 86400 ∧ t % 86400 < 86400 := by omega
  have C2 := hide (fun w => r4_.Date (t / 86400) Y M D w (by omega) (by omega) hd)
  have C3 := hide (fun w => r4_.Weekday (t / 86400) w (by omega) (by omega))
  unfold vof
  clear hd
  generalize t / 86400 = n at *
  generalize t % 86400 = s at *
  obtain ⟨s0, s1⟩ := hs
  go_enter Tryd.func14, Tryd.ntmps14
  go_wp2_with fail
  refine (C1.out _).mono ?_
  rintro e w1 ⟨rfl, rfl⟩
  go_wp2_with fail
  refine (C2.out _).mono ?_
  rintro e w1 ⟨rfl, rfl⟩
  go_wp2_with fail
  refine (C3.out _).mono ?_
  rintro e w1 ⟨rfl, rfl⟩
  go_wp2
  refine bodyPost_ret (v := vdt Y M D (s / 3600) (s % 3600 / 60) (s % 60) ((n + 4) % 7)) (by simp [results, Tryd.results14, go_sem, vdt]) rfl ⟨rfl, bl_new _ _⟩
set_option maxHeartbeats 4000000 in
theorem Unix_yes (Y M D h m s W : Int) (w : World) (hv : DtOk Y M D h m s W) (v : Int) (hv2 : days Y M D * 86400 + (h * 3600 + m * 60 + s) = v) (h0 : -9223372036854775808 ≤ v) (h1 : v < 9223372036854775808) :
    Calls Tryd.prog 12 #[vdt Y M D h m s W] w fun e w' => e = .returned (.tuple #[.int .i64 v, .bool true]) ∧ Below w.heap.size w w' := by
  have C1 := hide (fun w => Valid_yes Y M D h m s W w hv)
  have C2 := hide (fun w => r4_.Days Y M D w (by have := hv.1.1; omega) (by have := hv.1.2.1; omega) hv.1.2.2.1 hv.1.2.2.2.1 hv.1.2.2.2.2.1 (by have := hv.1.2.2.2.2.2; have := mdays_bd Y M; omega))
  have S1 := hide (fun w => Split (-9223372036854775808) w (by omega) (by omega))
  have S2 := hide (fun w => Split 9223372036854775807 w (by omega) (by omega))
  rw [show (-9223372036854775808 : Int) / 86400 = -106751991167301 from rfl, show (-9223372036854775808 : Int) % 86400 = 30592 from rfl] at S1
  rw [show (9223372036854775807 : Int) / 86400 = 106751991167300 from rfl, show (9223372036854775807 : Int) % 86400 = 55807 from rfl] at S2
  obtain ⟨h1', h2, h3, h4, h5, h6, h7, hw⟩ := hv
  clear h1' hw
  generalize days Y M D = n at *
  have hc : (n < 0 ∧ (-106751991167301 < n ∨ (n = -106751991167301 ∧ 30592 ≤ h * 3600 + m * 60 + s))) ∨ (0 ≤ n ∧ (n < 106751991167300 ∨ (n = 106751991167300 ∧ h * 3600 + m * 60 + s ≤ 55807))) := by omega
  have hb : -106751991167301 ≤ n ∧ n ≤ 106751991167300 := by omega
  obtain ⟨hb1, hb2⟩ := hb
  unfold vdt at *
  rcases hc with ⟨c1, c2 | ⟨rfl, c2⟩⟩ | ⟨c1, c2 | ⟨rfl, c2⟩⟩
  all_goals
    go_enter Tryd.func12, Tryd.ntmps12
    go_wp2_with fail
    refine (C1.out _).mono ?_
    rintro e w1 ⟨rfl, hb⟩
    have hx := hide ((Bx.new w [.int .i64 Y, .int .i64 M, .int .i64 D, .int .i64 h, .int .i64 m, .int .i64 s, .int .i64 W] 23).below hb)
    have hfin := hide (bel_next (bl_new w (.cells #[.int .i64 Y, .int .i64 M, .int .i64 D, .int .i64 h, .int .i64 m, .int .i64 s, .int .i64 W] 23)) hb)
    clear hb
    obtain ⟨x0, x1, x2, x3, x4, x5, x6⟩ := cells7 hx.out
    go_wp2_with fail
    refine (C2.out _).mono ?_
    rintro e w2 ⟨rfl, rfl⟩
    go_wp2_with fail
    refine (S1.out _).mono ?_
    rintro e w2 ⟨rfl, rfl⟩
    go_wp2_with fail
    refine (S2.out _).mono ?_
    rintro e w2 ⟨rfl, rfl⟩
    clear x0 x1 x2 x3 x4 x5 x6
    go_wp2
    go_ret2
    exact ⟨rett (by omega) rfl, hfin.out⟩
set_option maxHeartbeats 4000000 in
theorem Unix_far (Y M D h m s W : Int) (w : World) (hv : DtOk Y M D h m s W) (v : Int) (hv2 : days Y M D * 86400 + (h * 3600 + m * 60 + s) = v) (hr : v < -9223372036854775808 ∨ 9223372036854775808 ≤ v) :
    Calls Tryd.prog 12 #[vdt Y M D h m s W] w fun e w' => e = .returned (.tuple #[.int .i64 0, .bool false]) ∧ Below w.heap.size w w' := by
  have C1 := hide (fun w => Valid_yes Y M D h m s W w hv)
  have C2 := hide (fun w => r4_.Days Y M D w (by have := hv.1.1; omega) (by have := hv.1.2.1; omega) hv.1.2.2.1 hv.1.2.2.2.1 hv.1.2.2.2.2.1 (by have := hv.1.2.2.2.2.2; have := mdays_bd Y M; omega))
  have S1 := hide (fun w => Split (-9223372036854775808) w (by omega) (by omega))
  have S2 := hide (fun w => Split 9223372036854775807 w (by omega) (by omega))
  rw [show (-9223372036854775808 : Int) / 86400 = -106751991167301 from rfl, show (-9223372036854775808 : Int) % 86400 = 30592 from rfl] at S1
  rw [show (9223372036854775807 : Int) / 86400 = 106751991167300 from rfl, show (9223372036854775807 : Int) % 86400 = 55807 from rfl] at S2
  obtain ⟨h1', h2, h3, h4, h5, h6, h7, hw⟩ := hv
  clear h1' hw
  generalize days Y M D = n at *
  have hc : n < -106751991167301 ∨ (n = -106751991167301 ∧ h * 3600 + m * 60 + s < 30592) ∨ 106751991167300 < n ∨ (n = 106751991167300 ∧ 55807 < h * 3600 + m * 60 + s) := by omega
  clear hr hv2
  unfold vdt at *
  rcases hc with c1 | ⟨rfl, c1⟩ | c1 | ⟨rfl, c1⟩
  all_goals
    go_enter Tryd.func12, Tryd.ntmps12
    go_wp2_with fail
    refine (C1.out _).mono ?_
    rintro e w1 ⟨rfl, hb⟩
    have hx := hide ((Bx.new w [.int .i64 Y, .int .i64 M, .int .i64 D, .int .i64 h, .int .i64 m, .int .i64 s, .int .i64 W] 23).below hb)
    have hfin := hide (bel_next (bl_new w (.cells #[.int .i64 Y, .int .i64 M, .int .i64 D, .int .i64 h, .int .i64 m, .int .i64 s, .int .i64 W] 23)) hb)
    clear hb
    obtain ⟨x0, x1, x2, x3, x4, x5, x6⟩ := cells7 hx.out
    go_wp2_with fail
    refine (C2.out _).mono ?_
    rintro e w2 ⟨rfl, rfl⟩
    go_wp2_with fail
    refine (S1.out _).mono ?_
    rintro e w2 ⟨rfl, rfl⟩
    go_wp2_with fail
    refine (S2.out _).mono ?_
    rintro e w2 ⟨rfl, rfl⟩
    clear x0 x1 x2 x3 x4 x5 x6
    go_wp2
    go_ret2
    exact ⟨rfl, hfin.out⟩
theorem Unix_bad (Y M D h m s W : Int) (w : World) (hv : ¬ DtOk Y M D h m s W) :
    Calls Tryd.prog 12 #[vdt Y M D h m s W] w fun e w' => e = .returned (.tuple #[.int .i64 0, .bool false]) ∧ Below w.heap.size w w' := by
  have C1 := hide (fun w => Valid_no Y M D h m s W w hv)
  clear hv
  unfold vdt at *
  go_enter Tryd.func12, Tryd.ntmps12
  go_wp2_with fail
  refine (C1.out _).mono ?_
  rintro e w1 ⟨rfl, hb⟩
  have hfin := hide (bel_next (bl_new w (.cells #[.int .i64 Y, .int .i64 M, .int .i64 D, .int .i64 h, .int .i64 m, .int .i64 s, .int .i64 W] 23)) hb)
  clear hb
  go_wp2
  go_ret2
  exact ⟨rfl, hfin.out⟩
end r5_
end Go.Proofs.YtbfdjlgpmfhdoaaDoor
