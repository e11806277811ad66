/-
  THE WALKS OF THE LAWS OF LAYER 6 (zoneinfolaw06): RuledayLeapYears. No conditions beyond the tables'.
-/
import Derived.Test.YtgonchceckifcaaDoorLaw6b
namespace Go.Proofs.YtgonchceckifcaaDoor
open Go.ChangeShapes Go.WideShapes Go.ChangeAt Go.RowKit
set_option linter.unusedVariables false
theorem wf_u16 {n : Int} (h : (Lit.int .u16 n).wf = true) : 0 ≤ n ∧ n < 65536 := by simp [Lit.wf, IntKind.min, IntKind.max, IntKind.signed, IntKind.bits] at h; omega
namespace l6_
set_option maxRecDepth 100000 in
set_option maxHeartbeats 4000000 in
theorem leapYears (n y : Int) (w : World) (hT : Tb w) (w0 : (Lit.int .u16 n).wf = true) (w1 : (Lit.int .i64 y).wf = true) :
    Calls Tryd.prog 7 #[.int .u16 n, .int .i64 y] w fun e w' => e = .returned (.bool true) ∧ Below w.heap.size w w' := by
  obtain ⟨n0, n1⟩ := wf_u16 w0
  have hb := hide (Below.refl w.heap.size w)
  have HT := hide hT
  clear hT w0 w1
  rcases hy : (decide (-200000000000 ≤ y) && decide (y ≤ 200000000000))
  · replace hy := hide hy
    go_enter Tryd.func7, Tryd.ntmps7
    go_wp2_with fail
    refine (awake _ HT.out).mono ?_
    rintro e w1 ⟨rfl, h1⟩
    replace HT := hide (HT.out.below h1)
    replace hb := hide (bel_next hb.out h1)
    clear h1
    go_wp2_with fail
    refine (inyear false _ hy.out).mono ?_
    rintro e w2 ⟨rfl, rfl⟩
    go_wp2_with fail
    refine (awake _ HT.out).mono ?_
    rintro e w1 ⟨rfl, h1⟩
    replace HT := hide (HT.out.below h1)
    replace hb := hide (bel_next hb.out h1)
    clear h1
    go_wp2
    go_ret
    exact ⟨rfl, hb.out⟩
  have hyb : -200000000000 ≤ y ∧ y ≤ 200000000000 := by simpa using hy
  replace hy := hide hy
  obtain ⟨y0, y1⟩ := hyb
  have k0 : 0 ≤ n % 365 ∧ n % 365 ≤ 364 := by omega
  obtain ⟨r, hr⟩ : ∃ r, Hid (n % 365 = r) := ⟨_, rfl⟩
  rw [hr.out] at k0
  obtain ⟨k0, k1⟩ := k0
  have e1 : n % 365 = r := hr.out
  have J := hide (fun w hT => rd_.Day (K := 1) (D := 1 + r) (M := 0) (Wk := 0) (Wd := 0) (T := 0) y w hT ⟨by omega, by omega, .inl ⟨rfl, by omega, by omega, rfl, rfl, rfl⟩⟩ (by omega) (by omega))
  have Z := hide (fun w hT => rd_.Day (K := 2) (D := 1 + r - 1) (M := 0) (Wk := 0) (Wd := 0) (T := 0) y w hT ⟨by omega, by omega, .inr (.inl ⟨rfl, by omega, by omega, rfl, rfl, rfl⟩)⟩ (by omega) (by omega))
  have ej : rday 1 (1 + r) 0 0 0 y = ystart y + (1 + r) - 1 + (if leap y = true ∧ 60 ≤ 1 + r then 1 else 0) := rfl
  have ez : rday 2 (1 + r - 1) 0 0 0 y = ystart y + (1 + r - 1) := rfl
  rw [ej] at J
  rw [ez] at Z
  have Le := hide (fun w => r4_.IsLeap y w (by omega) (by omega))
  have sb := r6_.ystart_bd (show -200000000001 ≤ y by omega) (by omega)
  clear ej ez
  generalize ystart y = s at *
  unfold vrd at J Z
  obtain ⟨sb0, sb1⟩ := sb
  rcases hl : leap y <;> rw [hl] at J Le <;> rcases (show 60 ≤ 1 + r ∨ 1 + r < 60 by omega) with h60 | h60
  all_goals
    have h60' := h60
    simp [h60] at J
    replace hl := hide hl
    have hq : ∀ c : Int, s + (1 + r) - 1 - (s + (1 + r - 1)) = 0 ∧ s + (1 + r) - 1 + 1 - (s + (1 + r - 1)) = 1 := fun _ => by omega
    clear hq
    go_enter Tryd.func7, Tryd.ntmps7
    go_wp2_with fail
    refine (awake _ HT.out).mono ?_
    rintro e w1 ⟨rfl, h1⟩
    replace HT := hide (HT.out.below h1)
    replace hb := hide (bel_next hb.out h1)
    clear h1
    go_wp2_with fail
    refine (inyear true _ hy.out).mono ?_
    rintro e w2 ⟨rfl, rfl⟩
    go_wp2_with fail
    refine (J.out _ HT.out).mono ?_
    rintro e w1 ⟨rfl, h1⟩
    replace HT := hide (HT.out.below h1)
    replace hb := hide (bel_next hb.out h1)
    clear h1
    go_wp2_with fail
    refine (Z.out _ HT.out).mono ?_
    rintro e w1 ⟨rfl, h1⟩
    replace HT := hide (HT.out.below h1)
    replace hb := hide (bel_next hb.out h1)
    clear h1
    go_wp2_with (go_at_call 20; refine (Le.out _).mono ?_; rintro e w2 ⟨rfl, rfl⟩)
    go_ret
    exact ⟨by first | rfl | exact retb (by simp <;> omega), hb.out⟩
end l6_
end Go.Proofs.YtgonchceckifcaaDoor
