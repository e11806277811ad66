/-
  CONTRACTS OF PACKAGE cursor for valid cursors: what each function returns, and that it writes nothing that was there.
-/
import Derived.Test.YtbajdlgcajeldaaGreatDoorRef1
import Derived.Test.YtbajdlgcajeldaaGreatDoorCu
namespace Go.Proofs.YtbajdlgcajeldaaGreatDoor
open Go.ChangeShapes Go.WideShapes Go.ChangeAt Go.RowKit
set_option linter.unusedVariables false
set_option maxRecDepth 100000

namespace cu_
theorem Rest_ok (A : Option Addr) (n c : Nat) (p a : Int) (w : World) (hn : n ≤ 9223372036854775807) (h0 : 0 ≤ p) (h1 : p ≤ n) :
    Calls Tryz.prog 54 #[cu A n c p 0 a] w fun e w' => e = .returned (.int .i64 (n - p)) ∧ Below w.heap.size w w' := by
  go_enter Tryz.func54, Tryz.ntmps54
  go_wp2
  go_ret
  exact ⟨rfl, bl_new _ _⟩
theorem Rest_x (A : Option Addr) (n c : Nat) (p a : Int) (w : World) (hn : n ≤ 9223372036854775807) (h0 : 0 ≤ p) (h1 : p ≤ n) :
    Calls Tryz.prog 54 #[cu A n c p 0 a] w fun e w' => e = .returned (.int .i64 (n - p)) ∧ w' = w.alloc (.cells #[.slice A n c, .int .i64 p, .int .i64 0, .int .i64 a] 25) := by
  go_enter Tryz.func54, Tryz.ntmps54
  go_wp2
  go_ret
  exact ⟨rfl, rfl⟩
theorem Rest_err (A : Option Addr) (n c : Nat) (p x a : Int) (w : World) (hx : x ≠ 0) :
    Calls Tryz.prog 54 #[cu A n c p x a] w fun e w' => e = .returned (.int .i64 0) ∧ Below w.heap.size w w' := by
  go_enter Tryz.func54, Tryz.ntmps54
  go_wp2
  go_ret
  exact ⟨rfl, bl_new _ _⟩
theorem Fail_ok (A : Option Addr) (n c : Nat) (p a y at_ : Int) (w : World) (hy : y ≠ 0) :
    Calls Tryz.prog 21 #[cu A n c p 0 a, .int .i64 y, .int .i64 at_] w fun e w' => e = .returned (cu A n c p y at_) ∧ Below w.heap.size w w' := by
  go_enter Tryz.func21, Tryz.ntmps21
  go_wp2
  exact bodyPost_ret (v := cu A n c p y at_) (by simp [results, Tryz.results21, go_sem]) rfl ⟨rfl, bl_alloc (bl_new _ _) _⟩
theorem Fail_err (A : Option Addr) (n c : Nat) (p x a y at_ : Int) (w : World) (hx : x ≠ 0) :
    Calls Tryz.prog 21 #[cu A n c p x a, .int .i64 y, .int .i64 at_] w fun e w' => e = .returned (cu A n c p x a) ∧ Below w.heap.size w w' := by
  go_enter Tryz.func21, Tryz.ntmps21
  go_wp2
  exact bodyPost_ret (v := cu A n c p x a) (by simp [results, Tryz.results21, go_sem]) rfl ⟨rfl, bl_alloc (bl_new _ _) _⟩
theorem Fail_none (A : Option Addr) (n c : Nat) (p a at_ : Int) (w : World) :
    Calls Tryz.prog 21 #[cu A n c p 0 a, .int .i64 0, .int .i64 at_] w fun e w' => e = .returned (cu A n c p 0 a) ∧ Below w.heap.size w w' := by
  go_enter Tryz.func21, Tryz.ntmps21
  go_wp2
  exact bodyPost_ret (v := cu A n c p 0 a) (by simp [results, Tryz.results21, go_sem]) rfl ⟨rfl, bl_alloc (bl_new _ _) _⟩
theorem Clone (A : Option Addr) (n c : Nat) (xs : List Int) (w : World) (hA : A = none → n = 0 ∧ c = 0) (hn : n ≤ 1000000) (hr : Rd w A n (xs.map (Value.int .u8))) :
    Calls Tryz.prog 59 #[.slice A n c] w fun e w' => ∃ A' c', e = .returned (.slice A' n c') ∧ Ow w' w.heap.size 5 A' n c' (xs.map (Value.int .u8)) ∧ Below w.heap.size w w' := by
  have Hone := hide (oneCells .u8 xs)
  have HA := hide hA
  rcases A with _ | ad
  · obtain ⟨rfl, rfl⟩ := hA rfl
    have hx : xs = [] := List.eq_nil_of_length_eq_zero (by simpa using hr.len)
    subst hx
    clear hA HA Hone
    have he : ∀ w : World, (binOp .eql 22 (.slice none 0 0) (.slice none 0 0)).run Tryz.prog w = .ok (.bool true) w := fun _ => rfl
    go_enter Tryz.func59, Tryz.ntmps59
    go_wp2
    go_ret
    exact ⟨none, 0, rfl, Ow.nil (Nat.le_refl _) _, bl_refl _⟩
  · clear hA
    have he : ∀ w : World, (binOp .eql 22 (.slice (some ad) n c) (.slice none 0 0)).run Tryz.prog w = .ok (.bool false) w := fun _ => rfl
    go_enter Tryz.func59, Tryz.ntmps59
    have b0 := hide (bl_new w (.cells #[] 5))
    go_wp2_with (refine apn elU8 (Ow.lit w 5 [] (by simp)) b0.out (Nat.le_refl _) (hr.below b0.out) (.tmp 5) (.tmp 6) rfl rfl rfl rfl HA.out Hone.out (by simp [maxLen]; omega) (by simp; omega) ?_; intro A2 c2 w3 ho3 hb3; simp only [Nat.zero_add, List.nil_append, List.length_nil] at ho3)
    go_ret
    exact ⟨A2, c2, by simp, ho3, hb3⟩
end cu_
end Go.Proofs.YtbajdlgcajeldaaGreatDoor
