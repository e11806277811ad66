/-
  CONTRACTS OF PACKAGE cursor for valid cursors: what each function returns, and that it writes nothing that was there.
-/
import Derived.Test.YtakimiiggemfiaaDoorRef1
import Derived.Test.YtakimiiggemfiaaDoorCu
namespace Go.Proofs.YtakimiiggemfiaaDoor
open Go.ChangeShapes Go.WideShapes Go.ChangeAt Go.RowKit
set_option linter.unusedVariables false

namespace cu_
theorem Rest_ok (A : Option Addr) (n c : Nat) (p a : Int) (w : World) (hn : n ≤ 9223372036854775807) (h0 : 0 ≤ p) (h1 : p ≤ n) :
    Calls Tryd.prog 23 #[cu A n c p 0 a] w fun e w' => e = .returned (.int .i64 (n - p)) ∧ Below w.heap.size w w' := by
  go_enter Tryd.func23, Tryd.ntmps23
  go_wp2
  go_ret
  exact ⟨rfl, bl_new _ _⟩
theorem Rest_x (A : Option Addr) (n c : Nat) (p a : Int) (w : World) (hn : n ≤ 9223372036854775807) (h0 : 0 ≤ p) (h1 : p ≤ n) :
    Calls Tryd.prog 23 #[cu A n c p 0 a] w fun e w' => e = .returned (.int .i64 (n - p)) ∧ w' = w.alloc (.cells #[.slice A n c, .int .i64 p, .int .i64 0, .int .i64 a] 30) := by
  go_enter Tryd.func23, Tryd.ntmps23
  go_wp2
  go_ret
  exact ⟨rfl, rfl⟩
theorem Rest_err (A : Option Addr) (n c : Nat) (p x a : Int) (w : World) (hx : x ≠ 0) :
    Calls Tryd.prog 23 #[cu A n c p x a] w fun e w' => e = .returned (.int .i64 0) ∧ Below w.heap.size w w' := by
  go_enter Tryd.func23, Tryd.ntmps23
  go_wp2
  go_ret
  exact ⟨rfl, bl_new _ _⟩
theorem Fail_ok (A : Option Addr) (n c : Nat) (p a y at_ : Int) (w : World) (hy : y ≠ 0) :
    Calls Tryd.prog 19 #[cu A n c p 0 a, .int .i64 y, .int .i64 at_] w fun e w' => e = .returned (cu A n c p y at_) ∧ Below w.heap.size w w' := by
  go_enter Tryd.func19, Tryd.ntmps19
  go_wp2
  exact bodyPost_ret (v := cu A n c p y at_) (by simp [results, Tryd.results19, go_sem]) rfl ⟨rfl, bl_alloc (bl_new _ _) _⟩
theorem Fail_err (A : Option Addr) (n c : Nat) (p x a y at_ : Int) (w : World) (hx : x ≠ 0) :
    Calls Tryd.prog 19 #[cu A n c p x a, .int .i64 y, .int .i64 at_] w fun e w' => e = .returned (cu A n c p x a) ∧ Below w.heap.size w w' := by
  go_enter Tryd.func19, Tryd.ntmps19
  go_wp2
  exact bodyPost_ret (v := cu A n c p x a) (by simp [results, Tryd.results19, go_sem]) rfl ⟨rfl, bl_alloc (bl_new _ _) _⟩
theorem Fail_none (A : Option Addr) (n c : Nat) (p a at_ : Int) (w : World) :
    Calls Tryd.prog 19 #[cu A n c p 0 a, .int .i64 0, .int .i64 at_] w fun e w' => e = .returned (cu A n c p 0 a) ∧ Below w.heap.size w w' := by
  go_enter Tryd.func19, Tryd.ntmps19
  go_wp2
  exact bodyPost_ret (v := cu A n c p 0 a) (by simp [results, Tryd.results19, go_sem]) rfl ⟨rfl, bl_alloc (bl_new _ _) _⟩
theorem truncated (A : Option Addr) (n c : Nat) (p a : Int) (w : World) :
    Calls Tryd.prog 24 #[cu A n c p 0 a] w fun e w' => e = .returned (cu A n c p 1 n) ∧ Below w.heap.size w w' := by
  go_enter Tryd.func24, Tryd.ntmps24
  go_wp2_with fail
  refine (Fail_ok _ _ _ _ _ _ _ _ (by omega)).mono ?_
  rintro e w1 ⟨rfl, hb⟩
  obtain ⟨hc, hf⟩ := bcell hb
  have hz : w.heap.size + 1 < w1.heap.size := by have := hb.size; simp at this; omega
  have hb := hide (bel_next (bl_alloc (bl_new _ _) _) hb)
  go_wp2
  refine bodyPost_ret (v := cu A n c p 1 n) (by simp [results, Tryd.results24, go_sem, hc]) rfl ⟨rfl, ?_⟩
  repeat (refine bl_set ?_ (by omega) _)
  exact hb.out
theorem next_err (A : Option Addr) (n c : Nat) (p x a k : Int) (w : World) (hx : x ≠ 0) :
    Calls Tryd.prog 21 #[cu A n c p x a, .int .i64 k] w fun e w' => e = .returned (.tuple #[.slice none 0 0, cu A n c p x a]) ∧ Below w.heap.size w w' := by
  go_enter Tryd.func21, Tryd.ntmps21
  go_wp2
  go_region
  all_goals go_wp2
  all_goals exact bodyPost_ret (v := .tuple #[.slice none 0 0, cu A n c p x a]) (by simp [results, Tryd.results21, go_sem]) rfl ⟨rfl, by first | exact bl_alloc (bl_new _ _) _ | exact bl_drew (bl_alloc (bl_new _ _) _)⟩
theorem next_no (A : Option Addr) (n c : Nat) (p a k : Int) (w : World) (hn : n ≤ 9223372036854775807) (h0 : 0 ≤ p) (h1 : p ≤ n) (hk : k < 0 ∨ n - p < k) :
    Calls Tryd.prog 21 #[cu A n c p 0 a, .int .i64 k] w fun e w' => e = .returned (.tuple #[.slice none 0 0, cu A n c p 1 n]) ∧ Below w.heap.size w w' := by
  by_cases hk0 : k < 0
  · clear hk
    go_enter Tryd.func21, Tryd.ntmps21
    go_wp2_with fail
    refine (truncated _ _ _ _ _ _).mono ?_
    rintro e w1 ⟨rfl, hb⟩
    obtain ⟨hc, hf⟩ := bcell hb
    have hz : w.heap.size + 1 < w1.heap.size := by have := hb.size; simp at this; omega
    have hb := hide (bel_next (bl_alloc (bl_new _ _) _) hb)
    go_wp2
    refine bodyPost_ret (v := .tuple #[.slice none 0 0, cu A n c p 1 n]) (by simp [results, Tryd.results21, go_sem, hc]) rfl ⟨rfl, ?_⟩
    repeat (refine bl_set ?_ (by omega) _)
    exact hb.out
  · have hk1 : (n : Int) - p < k := by omega
    clear hk
    go_enter Tryd.func21, Tryd.ntmps21
    go_wp2_with fail
    refine (Rest_ok _ _ _ _ _ _ hn h0 h1).mono ?_
    rintro e w1 ⟨rfl, hb⟩
    obtain ⟨hc, hf⟩ := bcell hb
    have hz : w.heap.size + 1 < w1.heap.size := by have := hb.size; simp at this; omega
    have hb := hide (bel_next (bl_alloc (bl_new _ _) _) hb)
    go_wp2_with fail
    refine (truncated _ _ _ _ _ _).mono ?_
    rintro e w2 ⟨rfl, hb2⟩
    obtain ⟨hc2, hf2⟩ := bcell hb2
    have hz2 : w.heap.size + 1 < w2.heap.size := by have := hb2.size; omega
    have hb2 := hide (bel_next hb.out hb2)
    go_wp2
    refine bodyPost_ret (v := .tuple #[.slice none 0 0, cu A n c p 1 n]) (by simp [results, Tryd.results21, go_sem, hc, hc2, hz]) rfl ⟨rfl, ?_⟩
    repeat (refine bl_set ?_ (by omega) _)
    exact hb2.out
theorem next_yes (A : Option Addr) (n c : Nat) (p k : Nat) (w : World) (hn : n ≤ c) (hc : c ≤ 9223372036854775807) (h1 : p + k ≤ n) :
    Calls Tryd.prog 21 #[cu A n c p 0 0, .int .i64 k] w fun e w' => e = .returned (.tuple #[.slice (if c = p then A else A.map (·.add p)) k (c - p), cu A n c ((p + k : Nat) : Int) 0 0]) ∧ Below w.heap.size w w' := by
  generalize hA' : (if c = p then A else A.map (·.add p)) = A'
  go_enter Tryd.func21, Tryd.ntmps21
  go_wp2_with fail
  refine (Rest_x _ _ _ _ _ _ (by omega) (by omega) (by omega)).mono ?_
  rintro e w1 ⟨rfl, rfl⟩
  go_wp2
  go_region
  all_goals go_wp2
  all_goals
    refine bodyPost_ret (v := .tuple #[.slice A' k (c - p), cu A n c ((p + k : Nat) : Int) 0 0]) (by simp [results, Tryd.results21, go_sem, Nat.add_sub_cancel_left]) rfl ⟨rfl, ?_⟩
    repeat (first | exact bl_refl _ | refine bl_set ?_ (by omega) _ | refine bl_drew ?_ | refine bl_alloc ?_ _)
theorem fieldU_err (A : Option Addr) (n c : Nat) (p x a k : Int) (w : World) (hx : x ≠ 0) :
    Calls Tryd.prog 25 #[cu A n c p x a, .int .i64 k, .func (.func 26) #[] #[]] w fun e w' => e = .returned (.tuple #[.int .u64 0, cu A n c p x a]) ∧ Below w.heap.size w w' := by
  go_enter Tryd.func25, Tryd.ntmps25
  go_wp2
  go_region
  all_goals go_wp2
  all_goals exact bodyPost_ret (v := .tuple #[.int .u64 0, cu A n c p x a]) (by simp [results, Tryd.results25, go_sem]) rfl ⟨rfl, by first | exact bl_alloc (bl_new _ _) _ | exact bl_drew (bl_alloc (bl_new _ _) _)⟩
theorem fieldU_no (A : Option Addr) (n c : Nat) (p k : Int) (w : World) (hk : k = 1 ∨ k = 4 ∨ k = 8) (hn : n ≤ 9223372036854775807) (h1 : p < 0 ∨ n < p + k) :
    Calls Tryd.prog 25 #[cu A n c p 0 0, .int .i64 k, .func (.func 26) #[] #[]] w fun e w' => e = .returned (.tuple #[.int .u64 0, cu A n c p 1 n]) ∧ Below w.heap.size w w' := by
  have D := hide (fun w => be_.Uint_no A n c p k w hk hn h1)
  clear hk h1
  go_enter Tryd.func25, Tryd.ntmps25
  go_wp2_with fail
  refine (D.out _).mono ?_
  rintro e w1 ⟨rfl, rfl⟩
  go_wp2_with fail
  refine (truncated _ _ _ _ _ _).mono ?_
  rintro e w1 ⟨rfl, hb⟩
  obtain ⟨hc, hf⟩ := bcell hb
  have hz : w.heap.size + 1 < w1.heap.size := by have := hb.size; simp at this; omega
  have hb := hide (bel_next (bl_alloc (bl_new _ _) _) hb)
  go_wp2
  refine bodyPost_ret (v := .tuple #[.int .u64 0, cu A n c p 1 n]) (by simp [results, Tryd.results25, go_sem, hc]) rfl ⟨rfl, ?_⟩
  repeat (first | exact hb.out | refine bl_set ?_ (by omega) _)
theorem fieldU_yes (A : Option Addr) (n c : Nat) (l : List Int) (p k : Int) (w : World) (hk : k = 1 ∨ k = 4 ∨ k = 8) (hn : n ≤ 9223372036854775807) (h0 : 0 ≤ p) (h1 : p + k ≤ n)
    (hr : Rd w A n (l.map (Value.int .u8))) (hl : Bytes l) :
    Calls Tryd.prog 25 #[cu A n c p 0 0, .int .i64 k, .func (.func 26) #[] #[]] w fun e w' => e = .returned (.tuple #[.int .u64 (uval (fld l p.toNat k.toNat)), cu A n c (p + k) 0 0]) ∧ Below w.heap.size w w' := by
  have D := hide (fun w hr => be_.Uint_yes A n c l p k w hk hn h0 h1 hr hl)
  have hkb : 1 ≤ k ∧ k ≤ 8 := by omega
  obtain ⟨k1, k2⟩ := hkb
  clear hk
  generalize uval (fld l p.toNat k.toNat) = v at *
  go_enter Tryd.func25, Tryd.ntmps25
  go_wp2_with fail
  refine (D.out _ ((hr.alloc _).alloc _)).mono ?_
  rintro e w1 ⟨rfl, rfl⟩
  go_wp2
  go_region
  all_goals go_wp2
  all_goals
    refine bodyPost_ret (v := .tuple #[.int .u64 v, cu A n c (p + k) 0 0]) (by simp [results, Tryd.results25, go_sem]) rfl ⟨rfl, ?_⟩
    repeat (first | exact bl_refl _ | refine bl_set ?_ (by omega) _ | refine bl_drew ?_ | refine bl_alloc ?_ _)
theorem Uint_gen (A : Option Addr) (n c : Nat) {l : List Int} (p x a k v p' x' a' : Int) (w : World)
    (N : ∀ w, Rd w A n (l.map (Value.int .u8)) → Calls Tryd.prog 25 #[cu A n c p x a, .int .i64 k, .func (.func 26) #[] #[]] w fun e w' => e = .returned (.tuple #[.int .u64 v, cu A n c p' x' a']) ∧ Below w.heap.size w w') (hr : Rd w A n (l.map (Value.int .u8))) :
    Calls Tryd.prog 22 #[cu A n c p x a, .int .i64 k] w fun e w' => e = .returned (.tuple #[.int .u64 v, cu A n c p' x' a']) ∧ Below w.heap.size w w' := by
  have HN := hide N
  clear N
  go_enter Tryd.func22, Tryd.ntmps22
  go_wp2_with fail
  refine (HN.out _ ((hr.alloc _).alloc _)).mono ?_
  rintro e w1 ⟨rfl, hb⟩
  obtain ⟨hc, hf⟩ := bcell hb
  have hz : w.heap.size + 1 < w1.heap.size := by have := hb.size; simp at this; omega
  have hb := hide (bel_next (bl_alloc (bl_new _ _) _) hb)
  go_wp2
  refine bodyPost_ret (v := .tuple #[.int .u64 v, cu A n c p' x' a']) (by simp [results, Tryd.results22, go_sem, hc]) rfl ⟨rfl, ?_⟩
  repeat (first | exact hb.out | refine bl_set ?_ (by omega) _)
theorem Uint_yes (A : Option Addr) (n c : Nat) (l : List Int) (p k : Int) (w : World) (hk : k = 1 ∨ k = 4 ∨ k = 8) (hn : n ≤ 9223372036854775807) (h0 : 0 ≤ p) (h1 : p + k ≤ n) (hr : Rd w A n (l.map (Value.int .u8))) (hl : Bytes l) :
    Calls Tryd.prog 22 #[cu A n c p 0 0, .int .i64 k] w fun e w' => e = .returned (.tuple #[.int .u64 (uval (fld l p.toNat k.toNat)), cu A n c (p + k) 0 0]) ∧ Below w.heap.size w w' :=
  Uint_gen A n c p 0 0 k _ _ 0 0 w (fun w hr => fieldU_yes A n c l p k w hk hn h0 h1 hr hl) hr
theorem Uint_no (A : Option Addr) (n c : Nat) (l : List Int) (p k : Int) (w : World) (hk : k = 1 ∨ k = 4 ∨ k = 8) (hn : n ≤ 9223372036854775807) (h1 : p < 0 ∨ n < p + k) (hr : Rd w A n (l.map (Value.int .u8))) :
    Calls Tryd.prog 22 #[cu A n c p 0 0, .int .i64 k] w fun e w' => e = .returned (.tuple #[.int .u64 0, cu A n c p 1 n]) ∧ Below w.heap.size w w' :=
  Uint_gen A n c p 0 0 k _ _ 1 n w (fun w hr => fieldU_no A n c p k w hk hn h1) hr
theorem Uint_err (A : Option Addr) (n c : Nat) (l : List Int) (p x a k : Int) (w : World) (hx : x ≠ 0) (hr : Rd w A n (l.map (Value.int .u8))) :
    Calls Tryd.prog 22 #[cu A n c p x a, .int .i64 k] w fun e w' => e = .returned (.tuple #[.int .u64 0, cu A n c p x a]) ∧ Below w.heap.size w w' :=
  Uint_gen A n c p x a k _ _ _ _ w (fun w hr => fieldU_err A n c p x a k w hx) hr
end cu_
end Go.Proofs.YtakimiiggemfiaaDoor
