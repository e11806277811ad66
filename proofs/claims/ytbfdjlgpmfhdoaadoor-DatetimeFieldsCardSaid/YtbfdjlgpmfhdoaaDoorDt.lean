/-
  CONTRACTS OF PACKAGE datetime, as it landed at 196459b.
-/
import Derived.Test.YtbfdjlgpmfhdoaaDoorDtRef
import Derived.Test.YtbfdjlgpmfhdoaaDoorTab
import Derived.Deep.RegionHeld3
import Derived.Deep.DeepCutAuto
namespace Go.Proofs.YtbfdjlgpmfhdoaaDoor
open Go.ChangeShapes Go.WideShapes Go.ChangeAt Go.RowKit
set_option linter.unusedVariables false
theorem Bx.store7 {w : World} {g : Nat} {a b c d e f k a' b' c' d' e' f' k' : Value} (h : Bx w g [a', b', c', d', e', f', k']) :
    Bx (((((((w.setCell ⟨g, 0, none⟩ a).setCell ⟨g, 1, none⟩ b).setCell ⟨g, 2, none⟩ c).setCell ⟨g, 3, none⟩ d).setCell ⟨g, 4, none⟩ e).setCell ⟨g, 5, none⟩ f).setCell ⟨g, 6, none⟩ k) g [a, b, c, d, e, f, k] :=
  ((((((h.set 0 a (by simp)).set 1 b (by simp)).set 2 c (by simp)).set 3 d (by simp)).set 4 e (by simp)).set 5 f (by simp)).set 6 k (by simp)
theorem bl_set7 {w0 w : World} {a b c d e f k : Value} (h : Below w0.heap.size w0 w) {g : Nat} (hg : w0.heap.size ≤ g) :
    Below w0.heap.size w0 (((((((w.setCell ⟨g, 0, none⟩ a).setCell ⟨g, 1, none⟩ b).setCell ⟨g, 2, none⟩ c).setCell ⟨g, 3, none⟩ d).setCell ⟨g, 4, none⟩ e).setCell ⟨g, 5, none⟩ f).setCell ⟨g, 6, none⟩ k) :=
  bl_set (bl_set (bl_set (bl_set (bl_set (bl_set (bl_set h hg _) hg _) hg _) hg _) hg _) hg _) hg _
namespace dt_
theorem Split_ (t : Int) (w : World) (h0 : -9223372036854775808 ≤ t) (h1 : t < 9223372036854775808) :
    Calls Tryd.prog 9 #[.int .i64 t] w fun e w' => e = .returned (.tuple #[.int .i64 (t / 86400), .int .i64 (t % 86400)]) ∧ w = w' := by
  by_cases hp : 0 ≤ t
  · go_enter Tryd.func9, Tryd.ntmps9
    go_wp2
    go_ret2
    exact ⟨ret2i (by omega) rfl, rfl⟩
  · obtain ⟨z, hz⟩ : ∃ z : Nat, t = -(z : Int) := ⟨(-t).toNat, by omega⟩
    have hzb : (z : Int) ≤ 9223372036854775808 := by omega
    have e1 : t.tmod 86400 = -((z : Int) % 86400) := by rw [hz, Int.neg_tmod, Int.tmod_eq_emod_of_nonneg (by omega)]
    have e2 : t.tdiv 86400 = -((z : Int) / 86400) := by rw [hz, Int.neg_tdiv, Int.tdiv_eq_ediv_of_nonneg (by omega)]
    rcases (show 0 < (z : Int) % 86400 ∨ (z : Int) % 86400 = 0 by omega) with hz2 | hz2
    · have Z := hide hz
      clear hz
      go_enter Tryd.func9, Tryd.ntmps9
      go_wp2
      go_ret2
      exact ⟨ret2i (by have := Z.out; omega) (by have := Z.out; omega), rfl⟩
    · rw [hz2, Int.neg_zero] at e1
      have Z := hide (And.intro hz hz2)
      clear hz hz2
      go_enter Tryd.func9, Tryd.ntmps9
      go_wp2
      go_ret2
      exact ⟨ret2i (by have := Z.out; omega) (by have := Z.out; omega), rfl⟩
theorem Split (t : Int) (w : World) (hT : Tb w) (h0 : -9223372036854775808 ≤ t) (h1 : t < 9223372036854775808) :
    Calls Tryd.prog 9 #[.int .i64 t] w fun e w' => e = .returned (.tuple #[.int .i64 (t / 86400), .int .i64 (t % 86400)]) ∧ Below w.heap.size w w' :=
  (Split_ t w h0 h1).mono (by rintro e w' ⟨rfl, rfl⟩; exact ⟨rfl, bl_refl _⟩)
theorem compose_ (n s Y M D : Int) (w : World) (hT : Tb w) (h0 : loDay ≤ n) (h1 : n ≤ hiDay) (hs0 : 0 ≤ s) (hs1 : s < 86400) (hd : IsDate n Y M D) :
    Calls Tryd.prog 22 #[.int .i64 n, .int .i64 s] w fun e w' => e = .returned (vdt Y M D (s / 3600) (s % 3600 / 60) (s % 60) ((n + 4) % 7)) ∧ Below w.heap.size w w' := by
  have C1 := hide (fun w hT => cv_.Date n Y M D w hT h0 h1 hd)
  have C2 := hide (fun w hT => cv_.Weekday n w hT h0 h1)
  have hm : Hid (s / 60 % 60 = s % 3600 / 60) := hide (by omega)
  clear h0 h1 hd
  obtain ⟨wd, hwd⟩ : ∃ x, x = (n + 4) % 7 := ⟨_, rfl⟩
  rw [← hwd] at C2 ⊢
  clear hwd
  have hb := hide (bl_new w (.cells #[.int .i64 0, .int .i64 0, .int .i64 0, .int .i64 0, .int .i64 0, .int .i64 0, .int .i64 0] 23))
  have HT := hide (hT.below hb.out)
  have bx := hide (Bx.new w [.int .i64 0, .int .i64 0, .int .i64 0, .int .i64 0, .int .i64 0, .int .i64 0, .int .i64 0] 23)
  clear hT
  go_enter Tryd.func22, Tryd.ntmps22
  go_wp2_with fail
  refine (C1.out _ HT.out).mono ?_
  rintro e w1 ⟨rfl, h1⟩
  replace HT := hide (HT.out.below h1)
  replace hb := hide (bel_next hb.out h1)
  replace bx := hide (bx.out.below h1)
  clear h1
  go_wp2_with fail
  refine (C2.out _ HT.out).mono ?_
  rintro e w2 ⟨rfl, h1⟩
  replace HT := hide (HT.out.below h1)
  replace hb := hide (bel_next hb.out h1)
  replace bx := hide (bx.out.below h1)
  clear h1
  obtain ⟨x0, x1, x2, x3, x4, x5, x6⟩ := cells7 bx.out
  have hlt := bx.out.lt
  have hfr := bx.out.fr
  go_wp2
  obtain ⟨y0, y1, y2, y3, y4, y5, y6⟩ := cells7 (bx.out.store7 (a := .int .i64 Y) (b := .int .i64 M) (c := .int .i64 D) (d := .int .i64 (s / 3600)) (e := .int .i64 (s / 60 % 60)) (f := .int .i64 (s % 60)) (k := .int .i64 wd))
  refine bodyPost_ret (v := vdt Y M D (s / 3600) (s / 60 % 60) (s % 60) wd) (by simp [results, Tryd.results22, go_sem, vdt, y0, y1, y2, y3, y4, y5, y6]) rfl ⟨by rw [hm.out], bl_set7 hb.out (Nat.le_refl _)⟩
theorem Of (t Y M D : Int) (w : World) (hT : Tb w) (h0 : -9223372036854775808 ≤ t) (h1 : t < 9223372036854775808) (hd : IsDate (t / 86400) Y M D) :
    Calls Tryd.prog 13 #[.int .i64 t] w fun e w' => e = .returned (vof t Y M D) ∧ Below w.heap.size w w' := by
  have C1 := hide (fun w => Split_ t w h0 h1)
  have C2 := hide (fun w hT => compose_ (t / 86400) (t % 86400) Y M D w hT (by unfold loDay ystart; omega) (by unfold hiDay ystart; omega) (by omega) (by omega) hd)
  unfold vof
  clear hd
  unfold vdt at *
  generalize t / 86400 = n at *
  generalize t % 86400 = s at *
  generalize s / 3600 = s1 at *
  generalize s % 3600 / 60 = s2 at *
  generalize s % 60 = s3 at *
  generalize (n + 4) % 7 = s4 at *
  have hb := hide (bl_new w (.cells #[.int .i64 0, .int .i64 0, .int .i64 0, .int .i64 0, .int .i64 0, .int .i64 0, .int .i64 0] 23))
  have HT := hide (hT.below hb.out)
  have bx := hide (Bx.new w [.int .i64 0, .int .i64 0, .int .i64 0, .int .i64 0, .int .i64 0, .int .i64 0, .int .i64 0] 23)
  clear hT
  go_enter Tryd.func13, Tryd.ntmps13
  go_wp2_with fail
  refine (C1.out _).mono ?_
  rintro e w1 ⟨rfl, rfl⟩
  go_wp2_with fail
  refine (C2.out _ HT.out).mono ?_
  rintro e w2 ⟨rfl, h1⟩
  replace HT := hide (HT.out.below h1)
  replace hb := hide (bel_next hb.out h1)
  replace bx := hide (bx.out.below h1)
  clear h1
  obtain ⟨x0, x1, x2, x3, x4, x5, x6⟩ := cells7 bx.out
  have hlt := bx.out.lt
  have hfr := bx.out.fr
  go_wp2
  obtain ⟨y0, y1, y2, y3, y4, y5, y6⟩ := cells7 (bx.out.store7 (a := .int .i64 Y) (b := .int .i64 M) (c := .int .i64 D) (d := .int .i64 s1) (e := .int .i64 s2) (f := .int .i64 s3) (k := .int .i64 s4))
  refine bodyPost_ret (v := vdt Y M D s1 s2 s3 s4) (by simp [results, Tryd.results13, go_sem, vdt, y0, y1, y2, y3, y4, y5, y6]) rfl ⟨rfl, bl_set7 hb.out (Nat.le_refl _)⟩
theorem YearOf (t Y M D : Int) (w : World) (hT : Tb w) (h0 : -9223372036854775808 ≤ t) (h1 : t < 9223372036854775808) (hd : IsDate (t / 86400) Y M D) :
    Calls Tryd.prog 15 #[.int .i64 t] w fun e w' => e = .returned (.int .i64 Y) ∧ Below w.heap.size w w' := by
  have C1 := hide (Of t Y M D w hT h0 h1 hd)
  unfold vof vdt at C1
  clear hd
  generalize t % 86400 / 3600 = s1 at *
  generalize t % 86400 % 3600 / 60 = s2 at *
  generalize t % 86400 % 60 = s3 at *
  generalize (t / 86400 + 4) % 7 = s4 at *
  have hfld : ∀ w : World, (Instr.field 23 (.agg #[.int .i64 Y, .int .i64 M, .int .i64 D, .int .i64 s1, .int .i64 s2, .int .i64 s3, .int .i64 s4]) 0).run Tryd.prog w = .ok (.int .i64 Y) w := fun _ => rfl
  go_enter Tryd.func15, Tryd.ntmps15
  go_wp2_with fail
  refine (C1.out).mono ?_
  rintro e w1 ⟨rfl, h1⟩
  have hb := hide h1
  clear h1
  go_wp2
  go_ret
  exact ⟨rfl, hb.out⟩
theorem between_ (v l h : Int) (w : World) (b : Bool) (hb : (decide (l ≤ v) && decide (v ≤ h)) = b) :
    Calls Tryd.prog 31 #[.int .i64 v, .int .i64 l, .int .i64 h] w fun e w' => e = .returned (.bool b) ∧ w = w' := by
  subst hb
  by_cases h1 : l ≤ v
  · by_cases h2 : v ≤ h
    all_goals
      go_enter Tryd.func31, Tryd.ntmps31
      go_wp2
      go_ret
      exact ⟨retb (by simp [h1, h2]), rfl⟩
  · go_enter Tryd.func31, Tryd.ntmps31
    go_wp2
    go_ret
    exact ⟨retb (by rw [decide_eq_false (by omega)]; rfl), rfl⟩
theorem isTime_ (h m s : Int) (w : World) :
    Calls Tryd.prog 20 #[.int .i64 h, .int .i64 m, .int .i64 s] w fun e w' => e = .returned (.bool (decide (0 ≤ h ∧ h ≤ 23 ∧ 0 ≤ m ∧ m ≤ 59 ∧ 0 ≤ s ∧ s ≤ 59))) ∧ w = w' := by
  obtain ⟨b1, e1⟩ : ∃ b, (decide (0 ≤ h) && decide (h ≤ 23)) = b := ⟨_, rfl⟩
  obtain ⟨b2, e2⟩ : ∃ b, (decide (0 ≤ m) && decide (m ≤ 59)) = b := ⟨_, rfl⟩
  obtain ⟨b3, e3⟩ : ∃ b, (decide (0 ≤ s) && decide (s ≤ 59)) = b := ⟨_, rfl⟩
  have C1 := hide (fun w => between_ h 0 23 w b1 e1)
  have C2 := hide (fun w => between_ m 0 59 w b2 e2)
  have C3 := hide (fun w => between_ s 0 59 w b3 e3)
  obtain ⟨r, hr⟩ : ∃ r, r = decide (0 ≤ h ∧ h ≤ 23 ∧ 0 ≤ m ∧ m ≤ 59 ∧ 0 ≤ s ∧ s ≤ 59) := ⟨_, rfl⟩
  have hrr := hide (show (b1 && b2 && b3) = r by
    rw [hr, ← e1, ← e2, ← e3, Bool.eq_iff_iff]
    simp only [Bool.and_eq_true, decide_eq_true_iff]
    omega)
  rw [← hr]
  clear hr e1 e2 e3
  cases b1
  · go_enter Tryd.func20, Tryd.ntmps20
    go_wp2_with (go_at_call 31; refine (C1.out _).mono ?_; rintro e w' ⟨rfl, rfl⟩)
    go_ret
    exact ⟨retb hrr.out, rfl⟩
  · cases b2
    · go_enter Tryd.func20, Tryd.ntmps20
      go_wp2_with (go_at_call 31; first | (with_reducible refine (C1.out _).mono ?_; rintro e w' ⟨rfl, rfl⟩) | (with_reducible refine (C2.out _).mono ?_; rintro e w' ⟨rfl, rfl⟩))
      go_ret
      exact ⟨retb hrr.out, rfl⟩
    · cases b3
      all_goals
        go_enter Tryd.func20, Tryd.ntmps20
        go_wp2_with (go_at_call 31; first | (with_reducible refine (C1.out _).mono ?_; rintro e w' ⟨rfl, rfl⟩) | (with_reducible refine (C2.out _).mono ?_; rintro e w' ⟨rfl, rfl⟩) | (with_reducible refine (C3.out _).mono ?_; rintro e w' ⟨rfl, rfl⟩))
        go_ret
        exact ⟨retb hrr.out, rfl⟩
theorem isDate_ (Y M D : Int) (w : World) (hT : Tb w) :
    Calls Tryd.prog 19 #[.int .i64 Y, .int .i64 M, .int .i64 D] w fun e w' => e = .returned (.bool (decide (Vd Y M D))) ∧ Below w.heap.size w w' := by
  obtain ⟨b1, e1⟩ : ∃ b, (decide (-1099511627776 ≤ Y) && decide (Y ≤ 1099511627776)) = b := ⟨_, rfl⟩
  obtain ⟨b2, e2⟩ : ∃ b, (decide (1 ≤ M) && decide (M ≤ 12)) = b := ⟨_, rfl⟩
  obtain ⟨b3, e3⟩ : ∃ b, (decide (1 ≤ D) && decide (D ≤ mdays Y M)) = b := ⟨_, rfl⟩
  have C1 := hide (fun w => between_ Y (-1099511627776) 1099511627776 w b1 e1)
  have C2 := hide (fun w => between_ M 1 12 w b2 e2)
  have C3 := hide (fun w => between_ D 1 (mdays Y M) w b3 e3)
  have C4 : Hid (b1 = true → b2 = true → ∀ w, Tb w → Calls Tryd.prog 32 #[.int .i64 Y, .int .i64 M] w fun e w' => e = .returned (.int .i64 (mdays Y M)) ∧ Below w.heap.size w w') := hide (by
    rintro rfl rfl w hT
    simp only [Bool.and_eq_true, decide_eq_true_iff] at e1 e2
    exact cv_.MonthDays Y M w hT e1.1 e1.2 e2.1 e2.2)
  obtain ⟨r, hr⟩ : ∃ r, r = decide (Vd Y M D) := ⟨_, rfl⟩
  have hrr := hide (show (b1 && b2 && b3) = r by
    rw [hr, ← e1, ← e2, ← e3, Bool.eq_iff_iff]
    simp only [Bool.and_eq_true, decide_eq_true_iff]
    unfold Vd DateOk
    exact ⟨fun h => ⟨h.1.1.1, h.1.1.2, h.1.2.1, h.1.2.2, h.2.1, h.2.2⟩, fun h => ⟨⟨⟨h.1, h.2.1⟩, h.2.2.1, h.2.2.2.1⟩, h.2.2.2.2.1, h.2.2.2.2.2⟩⟩)
  rw [← hr]
  clear hr e1 e2 e3
  generalize mdays Y M = x at *
  have HT := hide hT
  clear hT
  cases b1
  · go_enter Tryd.func19, Tryd.ntmps19
    go_wp2_with (go_at_call 31; refine (C1.out _).mono ?_; rintro e w' ⟨rfl, rfl⟩)
    go_ret
    exact ⟨retb hrr.out, bl_refl _⟩
  · cases b2
    · go_enter Tryd.func19, Tryd.ntmps19
      go_wp2_with (go_at_call 31; first | (with_reducible refine (C1.out _).mono ?_; rintro e w' ⟨rfl, rfl⟩) | (with_reducible refine (C2.out _).mono ?_; rintro e w' ⟨rfl, rfl⟩))
      go_ret
      exact ⟨retb hrr.out, bl_refl _⟩
    · have C5 := hide (C4.out rfl rfl w HT.out)
      cases b3
      all_goals
        go_enter Tryd.func19, Tryd.ntmps19
        go_wp2_with fail
        refine (C1.out _).mono ?_
        rintro e w' ⟨rfl, rfl⟩
        go_wp2_with fail
        refine (C2.out _).mono ?_
        rintro e w' ⟨rfl, rfl⟩
        go_wp2_with fail
        refine (C5.out).mono ?_
        rintro e w1 ⟨rfl, h1⟩
        have hb := hide h1
        clear h1
        go_wp2_with fail
        refine (C3.out _).mono ?_
        rintro e w' ⟨rfl, rfl⟩
        go_wp2
        go_ret
        exact ⟨retb hrr.out, hb.out⟩
theorem fits_ (n s : Int) (w : World) (hs0 : 0 ≤ s) (hs1 : s < 86400) (b : Bool) (hb : b = decide (-9223372036854775808 ≤ n * 86400 + s ∧ n * 86400 + s < 9223372036854775808)) :
    Calls Tryd.prog 23 #[.int .i64 n, .int .i64 s] w fun e w' => e = .returned (.bool b) ∧ w = w' := by
  have S1 := hide (fun w => Split_ (-9223372036854775808) w (by omega) (by omega))
  have S2 := hide (fun w => Split_ 9223372036854775807 w (by omega) (by omega))
  rw [show (-9223372036854775808 : Int) / 86400 = -106751991167301 from rfl, show (-9223372036854775808 : Int) % 86400 = 30592 from rfl] at S1
  rw [show (9223372036854775807 : Int) / 86400 = 106751991167300 from rfl, show (9223372036854775807 : Int) % 86400 = 55807 from rfl] at S2
  have hc : (n = -106751991167301 ∧ 30592 ≤ s ∧ b = true) ∨ (n = -106751991167301 ∧ s < 30592 ∧ b = false) ∨ (n = 106751991167300 ∧ s ≤ 55807 ∧ b = true) ∨ (n = 106751991167300 ∧ 55807 < s ∧ b = false) ∨ (n < -106751991167301 ∧ b = false) ∨ (106751991167300 < n ∧ b = false) ∨ (-106751991167301 < n ∧ n < 106751991167300 ∧ b = true) := by
    cases b
    · have := hb.symm
      simp only [decide_eq_false_iff_not] at this
      simp only [Bool.false_eq_true, and_false, false_or, or_false, and_true]
      omega
    · have := hb.symm
      simp only [decide_eq_true_iff] at this
      simp only [Bool.true_eq_false, and_false, false_or, and_true]
      omega
  clear hb
  rcases hc with ⟨rfl, c, rfl⟩ | ⟨rfl, c, rfl⟩ | ⟨rfl, c, rfl⟩ | ⟨rfl, c, rfl⟩ | ⟨c, rfl⟩ | ⟨c, rfl⟩ | ⟨c, c2, rfl⟩
  iterate 4
    · go_enter Tryd.func23, Tryd.ntmps23
      go_wp2_with fail
      refine (S1.out _).mono ?_
      rintro e w' ⟨rfl, rfl⟩
      go_wp2_with fail
      refine (S2.out _).mono ?_
      rintro e w' ⟨rfl, rfl⟩
      go_wp2
      go_ret
      exact ⟨retb (by simp; try omega), rfl⟩
  all_goals
    have f1 : (n == -106751991167301) = false := by simp; omega
    have f2 : (n == 106751991167300) = false := by simp; omega
    go_enter Tryd.func23, Tryd.ntmps23
    go_wp2_with fail
    refine (S1.out _).mono ?_
    rintro e w' ⟨rfl, rfl⟩
    go_wp2_with fail
    refine (S2.out _).mono ?_
    rintro e w' ⟨rfl, rfl⟩
    go_wp2
    go_ret
    exact ⟨retb (by simp; try omega), rfl⟩
theorem join_ (n s v : Int) (w : World) (hs0 : 0 ≤ s) (hs1 : s < 86400) (hv : n * 86400 + s = v) (h0 : -9223372036854775808 ≤ v) (h1 : v < 9223372036854775808) :
    Calls Tryd.prog 24 #[.int .i64 n, .int .i64 s] w fun e w' => e = .returned (.int .i64 v) ∧ w = w' := by
  by_cases hn : n < 0
  all_goals
    go_enter Tryd.func24, Tryd.ntmps24
    go_wp2
    go_ret
    exact ⟨reti (by omega), rfl⟩
theorem cells7H {w : World} {g : Nat} {a b c d e f k : Value} (h : Hid (Bx w g [a, b, c, d, e, f, k])) : w.cell? ⟨g, 0, none⟩ = some a ∧ w.cell? ⟨g, 1, none⟩ = some b ∧ w.cell? ⟨g, 2, none⟩ = some c ∧ w.cell? ⟨g, 3, none⟩ = some d ∧ w.cell? ⟨g, 4, none⟩ = some e ∧ w.cell? ⟨g, 5, none⟩ = some f ∧ w.cell? ⟨g, 6, none⟩ = some k := cells7 h.out
set_option maxHeartbeats 4000000 in
/-- a date-time whose date and time exist: all that Unix asks behind them. -/
theorem Unix_ok (Y M D h m s W : Int) (w : World) (hT : Tb w) (hv : Vd Y M D) (h1 : 0 ≤ h) (h2 : h ≤ 23) (h3 : 0 ≤ m) (h4 : m ≤ 59) (h5 : 0 ≤ s) (h6 : s ≤ 59)
    (v : Int) (ok bw bf : Bool) (hbw : (W == (days Y M D + 4) % 7) = bw) (hbf : bf = decide (-9223372036854775808 ≤ days Y M D * 86400 + (h * 3600 + m * 60 + s) ∧ days Y M D * 86400 + (h * 3600 + m * 60 + s) < 9223372036854775808))
    (hok : (bw && bf) = ok) (hv2 : v = if ok then days Y M D * 86400 + (h * 3600 + m * 60 + s) else 0) :
    Calls Tryd.prog 11 #[vdt Y M D h m s W] w fun e w' => e = .returned (.tuple #[.int .i64 v, .bool ok]) ∧ Below w.heap.size w w' := by
  have A1 : Hid (∀ w, Tb w → Calls Tryd.prog 19 #[.int .i64 Y, .int .i64 M, .int .i64 D] w fun e w' => e = .returned (.bool true) ∧ Below w.heap.size w w') := hide (fun w hT => by
    have := isDate_ Y M D w hT
    rwa [decide_eq_true hv] at this)
  have A2 : Hid (∀ w, Calls Tryd.prog 20 #[.int .i64 h, .int .i64 m, .int .i64 s] w fun e w' => e = .returned (.bool true) ∧ w = w') := hide (fun w => by
    have := isTime_ h m s w
    rwa [decide_eq_true ⟨h1, h2, h3, h4, h5, h6⟩] at this)
  have A3 := hide (fun w hT => cv_.Days Y M D w hT hv)
  obtain ⟨q, hq⟩ : ∃ q, q = h * 3600 + m * 60 + s := ⟨_, rfl⟩
  have hq0 : 0 ≤ q := by omega
  have hq1 : q < 86400 := by omega
  have A4 := hide (fun w hT => compose_ (days Y M D) q Y M D w hT hv.day.1 hv.day.2 hq0 hq1 ⟨hv.2.2, rfl⟩)
  rw [show q / 3600 = h by omega, show q % 3600 / 60 = m by omega, show q % 60 = s by omega] at A4
  rw [← hq] at hbf hv2
  have A5 := hide (fun w => fits_ (days Y M D) q w hq0 hq1 bf hbf)
  have A6 : Hid (bf = true → ∀ w, Calls Tryd.prog 24 #[.int .i64 (days Y M D), .int .i64 q] w fun e w' => e = .returned (.int .i64 (days Y M D * 86400 + q)) ∧ w = w') := hide (fun hb w => by
    rw [hb] at hbf
    have := hbf.symm
    rw [decide_eq_true_iff] at this
    exact join_ (days Y M D) q _ w hq0 hq1 rfl this.1 this.2)
  clear hbf hv
  unfold vdt at *
  generalize days Y M D = n at *
  obtain ⟨wd, hwd⟩ : ∃ x, x = (n + 4) % 7 := ⟨_, rfl⟩
  rw [← hwd] at A4 hbw
  clear hwd
  have hq' := hide hq
  clear hq
  have hcmp : ∀ w : World, (binOp .neq 23 (.agg #[.int .i64 Y, .int .i64 M, .int .i64 D, .int .i64 h, .int .i64 m, .int .i64 s, .int .i64 W]) (.agg #[.int .i64 Y, .int .i64 M, .int .i64 D, .int .i64 h, .int .i64 m, .int .i64 s, .int .i64 wd])).run Tryd.prog w = .ok (.bool (!bw)) w := by
    intro w
    rw [← hbw]
    simp [go_sem]
    by_cases hw : W = wd <;> simp [hw]
  have hb := hide (bl_new w (.cells #[.int .i64 Y, .int .i64 M, .int .i64 D, .int .i64 h, .int .i64 m, .int .i64 s, .int .i64 W] 23))
  have HT := hide (hT.below hb.out)
  have bx := hide (Bx.new w [.int .i64 Y, .int .i64 M, .int .i64 D, .int .i64 h, .int .i64 m, .int .i64 s, .int .i64 W] 23)
  clear hT hbw
  have hneg : ∀ b, ok = b → v = if b then n * 86400 + q else 0 := by rintro _ rfl; exact hv2
  clear hv2
  rcases (show (bw = false ∧ ok = false) ∨ (bw = true ∧ bf = false ∧ ok = false) ∨ (bw = true ∧ bf = true ∧ ok = true) by cases bw <;> cases bf <;> simp_all) with ⟨rfl, rfl⟩ | ⟨rfl, rfl, rfl⟩ | ⟨rfl, rfl, rfl⟩
  all_goals
    have hv3 := hneg _ rfl
    simp only [Bool.false_eq_true, if_false, if_true] at hv3
    clear hneg hok
    replace hv3 := hide hv3
    go_enter Tryd.func11, Tryd.ntmps11
    go_wp2_with fail
    refine (A1.out _ HT.out).mono ?_
    rintro e w1 ⟨rfl, g1⟩
    replace HT := hide (HT.out.below g1)
    replace hb := hide (bel_next hb.out g1)
    replace bx := hide (bx.out.below g1)
    clear g1
    obtain ⟨x0, x1, x2, x3, x4, x5, x6⟩ := cells7 bx.out
    go_wp2_with fail
    refine (A2.out _).mono ?_
    rintro e w2 ⟨rfl, rfl⟩
    go_wp2_with fail
    refine (A3.out _ HT.out).mono ?_
    rintro e w3 ⟨rfl, g1⟩
    clear x0 x1 x2 x3 x4 x5 x6
    replace HT := hide (HT.out.below g1)
    replace hb := hide (bel_next hb.out g1)
    replace bx := hide (bx.out.below g1)
    clear g1
    obtain ⟨x0, x1, x2, x3, x4, x5, x6⟩ := cells7 bx.out
    have hq2 := hq'.out.symm
    go_upto_region 5 with fail
    clear x0 x1 x2 x3 x4 x5 x6 hq2
  · obtain ⟨x0, x1, x2, x3, x4, x5, x6⟩ := cells7 bx.out
    have HTd : Hid (Tb w3.drew) := HT
    have bxd : Hid (Bx w3.drew w.heap.size [.int .i64 Y, .int .i64 M, .int .i64 D, .int .i64 h, .int .i64 m, .int .i64 s, .int .i64 W]) := bx
    have hbd := hide (bl_drew hb.out)
    first | (go_region_with (go_at_call 22; with_reducible refine (A4.out _ HTd.out).mono ?_; rintro e w6 ⟨rfl, h1'⟩; obtain ⟨y0, y1, y2, y3, y4, y5, y6⟩ := cells7 (Bx.below bxd.out h1'); have hbf := hide (bel_next hbd.out h1'); clear h1')) | fail
    all_goals go_wp2
    all_goals go_ret2
    all_goals exact ⟨rett hv3.out.symm rfl, Hid.out (by assumption)⟩
  all_goals
    first | (go_region_held3 (fun w' => w'.cell? ⟨w.heap.size, 0, none⟩ = some (.int .i64 Y) ∧ w'.cell? ⟨w.heap.size, 1, none⟩ = some (.int .i64 M) ∧ w'.cell? ⟨w.heap.size, 2, none⟩ = some (.int .i64 D) ∧ w'.cell? ⟨w.heap.size, 3, none⟩ = some (.int .i64 h) ∧ w'.cell? ⟨w.heap.size, 4, none⟩ = some (.int .i64 m) ∧ w'.cell? ⟨w.heap.size, 5, none⟩ = some (.int .i64 s) ∧ w'.cell? ⟨w.heap.size, 6, none⟩ = some (.int .i64 W) ∧ Hid (Tb w') ∧ Hid (Below w.heap.size w w'))
      (first
        | exact ⟨(cells7 bx.out).1, (cells7 bx.out).2.1, (cells7 bx.out).2.2.1, (cells7 bx.out).2.2.2.1, (cells7 bx.out).2.2.2.2.1, (cells7 bx.out).2.2.2.2.2.1, (cells7 bx.out).2.2.2.2.2.2, HT, by first | exact hb | exact hide (bl_drew hb.out)⟩
        | (go_split_ands; refine ⟨?_, ?_, ?_, ?_, ?_, ?_, ?_, ?_, ?_⟩ <;> first | exact cellE h1' (by assumption) | exact hide (Tb.below (Hid.out (by assumption)) h1') | exact hide (bel_next (Hid.out (by assumption)) h1')))
      (first
        | (go_at_call 22; go_split_ands; with_reducible refine (A4.out _ (Hid.out (by assumption))).mono ?_; rintro e w6 ⟨rfl, h1'⟩)
        | (go_at_call 23; go_split_ands; with_reducible refine (A5.out _).mono ?_; rintro e w6 ⟨rfl, rfl⟩; have h1' := Below.refl w6.heap.size w6))) | fail
    all_goals (try go_split_ands)
    all_goals clear HT hb bx
  · go_wp2
    go_ret2
    exact ⟨rett hv3.out.symm rfl, Hid.out (by assumption)⟩
  · go_wp2_with fail
    refine (A6.out (by first | trivial | rfl) _).mono ?_
    rintro e w7 ⟨rfl, rfl⟩
    go_wp2
    go_ret2
    exact ⟨rett hv3.out.symm rfl, Hid.out (by assumption)⟩
theorem Unix_yes (Y M D h m s W : Int) (w : World) (hT : Tb w) (hv : DtOk Y M D h m s W) (v : Int) (hv2 : days Y M D * 86400 + (h * 3600 + m * 60 + s) = v) (h0 : -9223372036854775808 ≤ v) (h1 : v < 9223372036854775808) :
    Calls Tryd.prog 11 #[vdt Y M D h m s W] w fun e w' => e = .returned (.tuple #[.int .i64 v, .bool true]) ∧ Below w.heap.size w w' := by
  obtain ⟨a, b1, b2, b3, b4, b5, b6, b7⟩ := hv
  refine Unix_ok Y M D h m s W w hT a b1 b2 b3 b4 b5 b6 v true true true (by rw [b7]; simp) ?_ rfl (by rw [if_pos rfl]; exact hv2.symm)
  rw [hv2]
  exact (decide_eq_true ⟨h0, h1⟩).symm
theorem Unix_far (Y M D h m s W : Int) (w : World) (hT : Tb w) (hv : DtOk Y M D h m s W) (v : Int) (hv2 : days Y M D * 86400 + (h * 3600 + m * 60 + s) = v) (hr : v < -9223372036854775808 ∨ 9223372036854775808 ≤ v) :
    Calls Tryd.prog 11 #[vdt Y M D h m s W] w fun e w' => e = .returned (.tuple #[.int .i64 0, .bool false]) ∧ Below w.heap.size w w' := by
  obtain ⟨a, b1, b2, b3, b4, b5, b6, b7⟩ := hv
  refine Unix_ok Y M D h m s W w hT a b1 b2 b3 b4 b5 b6 0 false true false (by rw [b7]; simp) ?_ rfl rfl
  rw [hv2]
  exact (decide_eq_false (by omega)).symm
theorem Unix_bad (Y M D h m s W : Int) (w : World) (hT : Tb w) (hv : ¬ DtOk Y M D h m s W) :
    Calls Tryd.prog 11 #[vdt Y M D h m s W] w fun e w' => e = .returned (.tuple #[.int .i64 0, .bool false]) ∧ Below w.heap.size w w' := by
  by_cases hd : Vd Y M D
  · by_cases ht : 0 ≤ h ∧ h ≤ 23 ∧ 0 ≤ m ∧ m ≤ 59 ∧ 0 ≤ s ∧ s ≤ 59
    · obtain ⟨b1, b2, b3, b4, b5, b6⟩ := ht
      exact Unix_ok Y M D h m s W w hT hd b1 b2 b3 b4 b5 b6 0 false false _ (beq_eq_false_iff_ne.2 fun hw => hv ⟨hd, b1, b2, b3, b4, b5, b6, hw⟩) rfl rfl rfl
    · have A1 : Hid (∀ w, Tb w → Calls Tryd.prog 19 #[.int .i64 Y, .int .i64 M, .int .i64 D] w fun e w' => e = .returned (.bool true) ∧ Below w.heap.size w w') := hide (fun w hT => by
        have := isDate_ Y M D w hT
        rwa [decide_eq_true hd] at this)
      have A2 : Hid (∀ w, Calls Tryd.prog 20 #[.int .i64 h, .int .i64 m, .int .i64 s] w fun e w' => e = .returned (.bool false) ∧ w = w') := hide (fun w => by
        have := isTime_ h m s w
        rwa [decide_eq_false ht] at this)
      clear hv hd ht
      unfold vdt at *
      have hb := hide (bl_new w (.cells #[.int .i64 Y, .int .i64 M, .int .i64 D, .int .i64 h, .int .i64 m, .int .i64 s, .int .i64 W] 23))
      have HT := hide (hT.below hb.out)
      have bx := hide (Bx.new w [.int .i64 Y, .int .i64 M, .int .i64 D, .int .i64 h, .int .i64 m, .int .i64 s, .int .i64 W] 23)
      clear hT
      go_enter Tryd.func11, Tryd.ntmps11
      go_wp2_with fail
      refine (A1.out _ HT.out).mono ?_
      rintro e w1 ⟨rfl, g1⟩
      replace HT := hide (HT.out.below g1)
      replace hb := hide (bel_next hb.out g1)
      replace bx := hide (bx.out.below g1)
      clear g1
      obtain ⟨x0, x1, x2, x3, x4, x5, x6⟩ := cells7 bx.out
      go_wp2_with fail
      refine (A2.out _).mono ?_
      rintro e w2 ⟨rfl, rfl⟩
      go_wp2
      go_ret2
      exact ⟨rfl, hb.out⟩
  · have A1 : Hid (∀ w, Tb w → Calls Tryd.prog 19 #[.int .i64 Y, .int .i64 M, .int .i64 D] w fun e w' => e = .returned (.bool false) ∧ Below w.heap.size w w') := hide (fun w hT => by
      have := isDate_ Y M D w hT
      rwa [decide_eq_false hd] at this)
    clear hv hd
    unfold vdt at *
    have hb := hide (bl_new w (.cells #[.int .i64 Y, .int .i64 M, .int .i64 D, .int .i64 h, .int .i64 m, .int .i64 s, .int .i64 W] 23))
    have HT := hide (hT.below hb.out)
    clear hT
    go_enter Tryd.func11, Tryd.ntmps11
    go_wp2_with fail
    refine (A1.out _ HT.out).mono ?_
    rintro e w1 ⟨rfl, g1⟩
    replace hb := hide (bel_next hb.out g1)
    clear g1
    go_wp2
    go_ret2
    exact ⟨rfl, hb.out⟩
end dt_
end Go.Proofs.YtbfdjlgpmfhdoaaDoor
