/-
  CONTRACTS OF PACKAGE leaps for time sizes 4 and 8 and versions 1 to 4. Conditions: at most 100,000 bytes or records (Encode: 10,000); Correction and Expiry: a list that is valid for version 4.
-/
import Derived.Test.YtgbojkbhkjameaaLpB
import Derived.Test.YtgbojkbhkjameaaOwk
import Derived.Test.YtgbojkbhkjameaaOwM
import Derived.Test.YtgbojkbhkjameaaBe
import Derived.Test.YtgbojkbhkjameaaRef17
import Derived.Deep.RegionHeld3
import Derived.Deep.DeepCutAuto
import Derived.Deep.RegionLaw
import Derived.Laws.EntriesVeiled
namespace Go.Proofs.Ytgbojkbhkjameaa
open Go.ChangeShapes Go.WideShapes Go.ChangeAt Go.RowKit
set_option linter.unusedVariables false
set_option maxRecDepth 100000
namespace lp_
theorem enters {P : Program} {f : FuncId} {fn : Func} (hf : P.funcs[f]? = some fn) (hname : (fn.name == "runtime.NumGoroutine") = false) (hb : fn.body.isSome = true) (args : Array Value) (w : World) : (callFunc f args).run P w = .ok (.enter f args) w := by
  have h1 : fn.name ≠ "runtime.NumGoroutine" := by simpa using hname
  obtain ⟨c, hc⟩ := Option.isSome_iff_exists.1 hb
  simp [callFunc, hf, h1, hc]
set_option maxHeartbeats 1000000 in
/-- the search by halves of a function value that only makes memory: the answer's two sides. -/
theorem search_ (F : FuncId) (cb : Array Value) (p : Nat → Bool) (n : Nat) (w : World) (hn : n < 4611686018427387904) (hC : ∀ args w, (callFunc F args).run Try.prog w = .ok (.enter F args) w)
    (hf : ∀ i w', i < n → Below w.heap.size w w' → Calls Try.prog F (#[.int .i64 (i : Nat)] ++ cb) w' fun e w'' => e = .returned (.bool (p i)) ∧ Below w'.heap.size w' w'') :
    Calls Try.prog 45 #[.int .i64 n, .func (.func F) #[] cb] w fun e w' => ∃ h : Nat, h ≤ n ∧ e = .returned (.int .i64 h) ∧ (h = 0 ∨ p (h - 1) = false) ∧ (h = n ∨ p h = true) ∧ Below w.heap.size w w' := by
  have HF := hide hf
  have HC := hide hC
  clear hf hC
  go_enter Try.func45, Try.ntmps45
  go_wp2
  go_loopw [5, 6] (fun s5 s6 wr => ∃ lo hi : Nat, s5 = .int .i64 lo ∧ s6 = .int .i64 hi ∧ lo ≤ hi ∧ hi ≤ n ∧ Hid (lo = 0 ∨ p (lo - 1) = false) ∧ Hid (hi = n ∨ p hi = true) ∧ Hid (Below w.heap.size w wr)) (fun s5 s6 _ => (intOf s6 - intOf s5).toNat)
  case atStart => exact ⟨0, n, rfl, rfl, Nat.zero_le _, Nat.le_refl _, hide (.inl rfl), hide (.inl rfl), hide (bl_refl _)⟩
  case round =>
    obtain ⟨lo, hi, rfl, rfl, hlh, hin, h1, h2, hw⟩ := hrel
    by_cases hlt : lo < hi
    · have hc := HF.out ((lo + hi) / 2) wr (by omega) hw.out
      rw [show (((lo + hi) / 2 : Nat) : Int) = ((lo : Int) + (hi : Int)) / 2 by omega] at hc
      cases hp : p ((lo + hi) / 2) <;> rw [hp] at hc
      · replace hp := hide hp
        replace hc := hide hc
        go_wp2_with fail
        rw [HC.out, Oper.upon_enter]
        refine hc.out.mono ?_
        rintro e w1 ⟨rfl, h3⟩
        have hw1 := hide (bel_next hw.out h3)
        clear hw h3 hc
        go_wp2
        go_roundw
        case rel => exact ⟨(lo + hi) / 2 + 1, hi, by rw [show ((lo : Int) + (hi : Int)) / 2 + 1 = (((lo + hi) / 2 + 1 : Nat) : Int) by omega], rfl, by omega, hin, hide (.inr (by simpa using hp.out)), h2, hw1⟩
        case measure => simp [intOf]; omega
      · replace hp := hide hp
        replace hc := hide hc
        go_wp2_with fail
        rw [HC.out, Oper.upon_enter]
        refine hc.out.mono ?_
        rintro e w1 ⟨rfl, h3⟩
        have hw1 := hide (bel_next hw.out h3)
        clear hw h3 hc
        go_wp2
        go_roundw
        case rel => exact ⟨lo, (lo + hi) / 2, rfl, by rw [show ((lo : Int) + (hi : Int)) / 2 = (((lo + hi) / 2 : Nat) : Int) by omega], by omega, by omega, h1, hide (.inr hp.out), hw1⟩
        case measure => simp [intOf]; omega
    · obtain rfl : hi = lo := by omega
      go_wp2
      go_ret
      exact ⟨hi, hin, rfl, h1.out, h2.out, hw.out⟩
end lp_
end Go.Proofs.Ytgbojkbhkjameaa
