/-
  CONTRACTS OF PACKAGE datetime, as it landed at 196459b.
-/
import Derived.Test.YtdhogpcoegfopaaGreatDoorDtRef
import Derived.Test.YtdhogpcoegfopaaGreatDoorTab
import Derived.Deep.RegionHeld3
import Derived.Deep.DeepCutAuto
namespace Go.Proofs.YtdhogpcoegfopaaGreatDoor
open Go.ChangeShapes Go.WideShapes Go.ChangeAt Go.RowKit
set_option linter.unusedVariables false
theorem Bx.store7 {w : World} {g : Nat} {a b c d e f k a' b' c' d' e' f' k' : Value} (h : Bx w g [a', b', c', d', e', f', k']) :
    Bx (((((((w.setCell ⟨g, 0, none⟩ a).setCell ⟨g, 1, none⟩ b).setCell ⟨g, 2, none⟩ c).setCell ⟨g, 3, none⟩ d).setCell ⟨g, 4, none⟩ e).setCell ⟨g, 5, none⟩ f).setCell ⟨g, 6, none⟩ k) g [a, b, c, d, e, f, k] :=
  ((((((h.set 0 a (by simp)).set 1 b (by simp)).set 2 c (by simp)).set 3 d (by simp)).set 4 e (by simp)).set 5 f (by simp)).set 6 k (by simp)
theorem bl_set7 {w0 w : World} {a b c d e f k : Value} (h : Below w0.heap.size w0 w) {g : Nat} (hg : w0.heap.size ≤ g) :
    Below w0.heap.size w0 (((((((w.setCell ⟨g, 0, none⟩ a).setCell ⟨g, 1, none⟩ b).setCell ⟨g, 2, none⟩ c).setCell ⟨g, 3, none⟩ d).setCell ⟨g, 4, none⟩ e).setCell ⟨g, 5, none⟩ f).setCell ⟨g, 6, none⟩ k) :=
  bl_set (bl_set (bl_set (bl_set (bl_set (bl_set (bl_set h hg _) hg _) hg _) hg _) hg _) hg _) hg _
set_option maxRecDepth 100000
namespace dt_
theorem Split_ (t : Int) (w : World) (h0 : -9223372036854775808 ≤ t) (h1 : t < 9223372036854775808) :
    Calls Tryz.prog 47 #[.int .i64 t] w fun e w' => e = .returned (.tuple #[.int .i64 (t / 86400), .int .i64 (t % 86400)]) ∧ w = w' := by
  by_cases hp : 0 ≤ t
  · go_enter Tryz.func47, Tryz.ntmps47
    go_wp2
    go_ret2
    exact ⟨ret2i (by omega) rfl, rfl⟩
  · obtain ⟨z, hz⟩ : ∃ z : Nat, t = -(z : Int) := ⟨(-t).toNat, by omega⟩
    have hzb : (z : Int) ≤ 9223372036854775808 := by omega
    have e1 : t.tmod 86400 = -((z : Int) % 86400) := by rw [hz, Int.neg_tmod, Int.tmod_eq_emod_of_nonneg (by omega)]
    have e2 : t.tdiv 86400 = -((z : Int) / 86400) := by rw [hz, Int.neg_tdiv, Int.tdiv_eq_ediv_of_nonneg (by omega)]
    rcases (show 0 < (z : Int) % 86400 ∨ (z : Int) % 86400 = 0 by omega) with hz2 | hz2
    · have Z := hide hz
      clear hz
      go_enter Tryz.func47, Tryz.ntmps47
      go_wp2
      go_ret2
      exact ⟨ret2i (by have := Z.out; omega) (by have := Z.out; omega), rfl⟩
    · rw [hz2, Int.neg_zero] at e1
      have Z := hide (And.intro hz hz2)
      clear hz hz2
      go_enter Tryz.func47, Tryz.ntmps47
      go_wp2
      go_ret2
      exact ⟨ret2i (by have := Z.out; omega) (by have := Z.out; omega), rfl⟩
theorem Split (t : Int) (w : World) (hT : Tb w) (h0 : -9223372036854775808 ≤ t) (h1 : t < 9223372036854775808) :
    Calls Tryz.prog 47 #[.int .i64 t] w fun e w' => e = .returned (.tuple #[.int .i64 (t / 86400), .int .i64 (t % 86400)]) ∧ Below w.heap.size w w' :=
  (Split_ t w h0 h1).mono (by rintro e w' ⟨rfl, rfl⟩; exact ⟨rfl, bl_refl _⟩)
theorem compose_ (n s Y M D : Int) (w : World) (hT : Tb w) (h0 : loDay ≤ n) (h1 : n ≤ hiDay) (hs0 : 0 ≤ s) (hs1 : s < 86400) (hd : IsDate n Y M D) :
    Calls Tryz.prog 63 #[.int .i64 n, .int .i64 s] w fun e w' => e = .returned (vdt Y M D (s / 3600) (s % 3600 / 60) (s % 60) ((n + 4) % 7)) ∧ Below w.heap.size w w' := by
  have C1 := hide (fun w hT => cv_.Date n Y M D w hT h0 h1 hd)
  have C2 := hide (fun w hT => cv_.Weekday n w hT h0 h1)
  have hm : Hid (s / 60 % 60 = s % 3600 / 60) := hide (by omega)
  clear h0 h1 hd
  obtain ⟨wd, hwd⟩ : ∃ x, x = (n + 4) % 7 := ⟨_, rfl⟩
  rw [← hwd] at C2 ⊢
  clear hwd
  have hb := hide (bl_new w (.cells #[.int .i64 0, .int .i64 0, .int .i64 0, .int .i64 0, .int .i64 0, .int .i64 0, .int .i64 0] 54))
  have HT := hide (hT.below hb.out)
  have bx := hide (Bx.new w [.int .i64 0, .int .i64 0, .int .i64 0, .int .i64 0, .int .i64 0, .int .i64 0, .int .i64 0] 54)
  clear hT
  go_enter Tryz.func63, Tryz.ntmps63
  go_wp2_with fail
  refine (C1.out _ HT.out).mono ?_
  rintro e w1 ⟨rfl, h1⟩
  replace HT := hide (HT.out.below h1)
  replace hb := hide (bel_next hb.out h1)
  replace bx := hide (bx.out.below h1)
  clear h1
  go_wp2_with fail
  refine (C2.out _ HT.out).mono ?_
  rintro e w2 ⟨rfl, h1⟩
  replace HT := hide (HT.out.below h1)
  replace hb := hide (bel_next hb.out h1)
  replace bx := hide (bx.out.below h1)
  clear h1
  obtain ⟨x0, x1, x2, x3, x4, x5, x6⟩ := cells7 bx.out
  have hlt := bx.out.lt
  have hfr := bx.out.fr
  go_wp2
  obtain ⟨y0, y1, y2, y3, y4, y5, y6⟩ := cells7 (bx.out.store7 (a := .int .i64 Y) (b := .int .i64 M) (c := .int .i64 D) (d := .int .i64 (s / 3600)) (e := .int .i64 (s / 60 % 60)) (f := .int .i64 (s % 60)) (k := .int .i64 wd))
  refine bodyPost_ret (v := vdt Y M D (s / 3600) (s / 60 % 60) (s % 60) wd) (by simp [results, Tryz.results63, go_sem, vdt, y0, y1, y2, y3, y4, y5, y6]) rfl ⟨by rw [hm.out], bl_set7 hb.out (Nat.le_refl _)⟩
theorem Of (t Y M D : Int) (w : World) (hT : Tb w) (h0 : -9223372036854775808 ≤ t) (h1 : t < 9223372036854775808) (hd : IsDate (t / 86400) Y M D) :
    Calls Tryz.prog 48 #[.int .i64 t] w fun e w' => e = .returned (vof t Y M D) ∧ Below w.heap.size w w' := by
  have C1 := hide (fun w => Split_ t w h0 h1)
  have C2 := hide (fun w hT => compose_ (t / 86400) (t % 86400) Y M D w hT (by unfold loDay ystart; omega) (by unfold hiDay ystart; omega) (by omega) (by omega) hd)
  unfold vof
  clear hd
  unfold vdt at *
  generalize t / 86400 = n at *
  generalize t % 86400 = s at *
  generalize s / 3600 = s1 at *
  generalize s % 3600 / 60 = s2 at *
  generalize s % 60 = s3 at *
  generalize (n + 4) % 7 = s4 at *
  have hb := hide (bl_new w (.cells #[.int .i64 0, .int .i64 0, .int .i64 0, .int .i64 0, .int .i64 0, .int .i64 0, .int .i64 0] 54))
  have HT := hide (hT.below hb.out)
  have bx := hide (Bx.new w [.int .i64 0, .int .i64 0, .int .i64 0, .int .i64 0, .int .i64 0, .int .i64 0, .int .i64 0] 54)
  clear hT
  go_enter Tryz.func48, Tryz.ntmps48
  go_wp2_with fail
  refine (C1.out _).mono ?_
  rintro e w1 ⟨rfl, rfl⟩
  go_wp2_with fail
  refine (C2.out _ HT.out).mono ?_
  rintro e w2 ⟨rfl, h1⟩
  replace HT := hide (HT.out.below h1)
  replace hb := hide (bel_next hb.out h1)
  replace bx := hide (bx.out.below h1)
  clear h1
  obtain ⟨x0, x1, x2, x3, x4, x5, x6⟩ := cells7 bx.out
  have hlt := bx.out.lt
  have hfr := bx.out.fr
  go_wp2
  obtain ⟨y0, y1, y2, y3, y4, y5, y6⟩ := cells7 (bx.out.store7 (a := .int .i64 Y) (b := .int .i64 M) (c := .int .i64 D) (d := .int .i64 s1) (e := .int .i64 s2) (f := .int .i64 s3) (k := .int .i64 s4))
  refine bodyPost_ret (v := vdt Y M D s1 s2 s3 s4) (by simp [results, Tryz.results48, go_sem, vdt, y0, y1, y2, y3, y4, y5, y6]) rfl ⟨rfl, bl_set7 hb.out (Nat.le_refl _)⟩
theorem YearOf (t Y M D : Int) (w : World) (hT : Tb w) (h0 : -9223372036854775808 ≤ t) (h1 : t < 9223372036854775808) (hd : IsDate (t / 86400) Y M D) :
    Calls Tryz.prog 28 #[.int .i64 t] w fun e w' => e = .returned (.int .i64 Y) ∧ Below w.heap.size w w' := by
  have C1 := hide (Of t Y M D w hT h0 h1 hd)
  unfold vof vdt at C1
  clear hd
  generalize t % 86400 / 3600 = s1 at *
  generalize t % 86400 % 3600 / 60 = s2 at *
  generalize t % 86400 % 60 = s3 at *
  generalize (t / 86400 + 4) % 7 = s4 at *
  have hfld : ∀ w : World, (Instr.field 54 (.agg #[.int .i64 Y, .int .i64 M, .int .i64 D, .int .i64 s1, .int .i64 s2, .int .i64 s3, .int .i64 s4]) 0).run Tryz.prog w = .ok (.int .i64 Y) w := fun _ => rfl
  go_enter Tryz.func28, Tryz.ntmps28
  go_wp2_with fail
  refine (C1.out).mono ?_
  rintro e w1 ⟨rfl, h1⟩
  have hb := hide h1
  clear h1
  go_wp2
  go_ret
  exact ⟨rfl, hb.out⟩
theorem cells7H {w : World} {g : Nat} {a b c d e f k : Value} (h : Hid (Bx w g [a, b, c, d, e, f, k])) : w.cell? ⟨g, 0, none⟩ = some a ∧ w.cell? ⟨g, 1, none⟩ = some b ∧ w.cell? ⟨g, 2, none⟩ = some c ∧ w.cell? ⟨g, 3, none⟩ = some d ∧ w.cell? ⟨g, 4, none⟩ = some e ∧ w.cell? ⟨g, 5, none⟩ = some f ∧ w.cell? ⟨g, 6, none⟩ = some k := cells7 h.out
end dt_
end Go.Proofs.YtdhogpcoegfopaaGreatDoor
