/-
  CONTRACTS OF PACKAGE cursor for valid cursors: what each function returns, and that it writes nothing that was there.
-/
import Derived.Test.YtldkfmbcinmofaaRef1
namespace Go.Proofs.Ytldkfmbcinmofaa
open Go.ChangeShapes Go.WideShapes Go.ChangeAt Go.RowKit
set_option linter.unusedVariables false

/-- a cursor's value. -/
@[reducible] def cu (A : Option Addr) (n c : Nat) (p e a : Int) : Value := .agg #[.slice A n c, .int .i64 p, .int .i64 e, .int .i64 a]
namespace cu_
theorem New (A : Option Addr) (n c : Nat) (w : World) : Calls Try.prog 8 #[.slice A n c] w fun e w' => e = .returned (cu A n c 0 0 0) ∧ Below w.heap.size w w' := by
  go_enter Try.func8, Try.ntmps8
  go_wp2
  exact bodyPost_ret (v := cu A n c 0 0 0) (by simp [results, Try.results8, go_sem]) rfl ⟨rfl, bl_new _ _⟩
theorem Rest_ok (A : Option Addr) (n c : Nat) (p a : Int) (w : World) (hn : n ≤ 9223372036854775807) (h0 : 0 ≤ p) (h1 : p ≤ n) :
    Calls Try.prog 9 #[cu A n c p 0 a] w fun e w' => e = .returned (.int .i64 (n - p)) ∧ Below w.heap.size w w' := by
  go_enter Try.func9, Try.ntmps9
  go_wp2
  go_ret
  exact ⟨rfl, bl_new _ _⟩
theorem Rest_x (A : Option Addr) (n c : Nat) (p a : Int) (w : World) (hn : n ≤ 9223372036854775807) (h0 : 0 ≤ p) (h1 : p ≤ n) :
    Calls Try.prog 9 #[cu A n c p 0 a] w fun e w' => e = .returned (.int .i64 (n - p)) ∧ w' = w.alloc (.cells #[.slice A n c, .int .i64 p, .int .i64 0, .int .i64 a] 26) := by
  go_enter Try.func9, Try.ntmps9
  go_wp2
  go_ret
  exact ⟨rfl, rfl⟩
theorem Rest_err (A : Option Addr) (n c : Nat) (p x a : Int) (w : World) (hx : x ≠ 0) :
    Calls Try.prog 9 #[cu A n c p x a] w fun e w' => e = .returned (.int .i64 0) ∧ Below w.heap.size w w' := by
  go_enter Try.func9, Try.ntmps9
  go_wp2
  go_ret
  exact ⟨rfl, bl_new _ _⟩
theorem Fail_ok (A : Option Addr) (n c : Nat) (p a y at_ : Int) (w : World) (hy : y ≠ 0) :
    Calls Try.prog 18 #[cu A n c p 0 a, .int .i64 y, .int .i64 at_] w fun e w' => e = .returned (cu A n c p y at_) ∧ Below w.heap.size w w' := by
  go_enter Try.func18, Try.ntmps18
  go_wp2
  exact bodyPost_ret (v := cu A n c p y at_) (by simp [results, Try.results18, go_sem]) rfl ⟨rfl, bl_alloc (bl_new _ _) _⟩
theorem Fail_err (A : Option Addr) (n c : Nat) (p x a y at_ : Int) (w : World) (hx : x ≠ 0) :
    Calls Try.prog 18 #[cu A n c p x a, .int .i64 y, .int .i64 at_] w fun e w' => e = .returned (cu A n c p x a) ∧ Below w.heap.size w w' := by
  go_enter Try.func18, Try.ntmps18
  go_wp2
  exact bodyPost_ret (v := cu A n c p x a) (by simp [results, Try.results18, go_sem]) rfl ⟨rfl, bl_alloc (bl_new _ _) _⟩
theorem Fail_none (A : Option Addr) (n c : Nat) (p a at_ : Int) (w : World) :
    Calls Try.prog 18 #[cu A n c p 0 a, .int .i64 0, .int .i64 at_] w fun e w' => e = .returned (cu A n c p 0 a) ∧ Below w.heap.size w w' := by
  go_enter Try.func18, Try.ntmps18
  go_wp2
  exact bodyPost_ret (v := cu A n c p 0 a) (by simp [results, Try.results18, go_sem]) rfl ⟨rfl, bl_alloc (bl_new _ _) _⟩
theorem truncated (A : Option Addr) (n c : Nat) (p a : Int) (w : World) :
    Calls Try.prog 28 #[cu A n c p 0 a] w fun e w' => e = .returned (cu A n c p 1 n) ∧ Below w.heap.size w w' := by
  go_enter Try.func28, Try.ntmps28
  go_wp2_with fail
  refine (Fail_ok _ _ _ _ _ _ _ _ (by omega)).mono ?_
  rintro e w1 ⟨rfl, hb⟩
  obtain ⟨hc, hf⟩ := bcell hb
  have hz : w.heap.size + 1 < w1.heap.size := by have := hb.size; simp at this; omega
  have hb := hide (bel_next (bl_alloc (bl_new _ _) _) hb)
  go_wp2
  refine bodyPost_ret (v := cu A n c p 1 n) (by simp [results, Try.results28, go_sem, hc]) rfl ⟨rfl, ?_⟩
  repeat (refine bl_set ?_ (by omega) _)
  exact hb.out
theorem next_err (A : Option Addr) (n c : Nat) (p x a k : Int) (w : World) (hx : x ≠ 0) :
    Calls Try.prog 21 #[cu A n c p x a, .int .i64 k] w fun e w' => e = .returned (.tuple #[.slice none 0 0, cu A n c p x a]) ∧ Below w.heap.size w w' := by
  go_enter Try.func21, Try.ntmps21
  go_wp2
  go_region
  all_goals go_wp2
  all_goals exact bodyPost_ret (v := .tuple #[.slice none 0 0, cu A n c p x a]) (by simp [results, Try.results21, go_sem]) rfl ⟨rfl, by first | exact bl_alloc (bl_new _ _) _ | exact bl_drew (bl_alloc (bl_new _ _) _)⟩
theorem next_no (A : Option Addr) (n c : Nat) (p a k : Int) (w : World) (hn : n ≤ 9223372036854775807) (h0 : 0 ≤ p) (h1 : p ≤ n) (hk : k < 0 ∨ n - p < k) :
    Calls Try.prog 21 #[cu A n c p 0 a, .int .i64 k] w fun e w' => e = .returned (.tuple #[.slice none 0 0, cu A n c p 1 n]) ∧ Below w.heap.size w w' := by
  by_cases hk0 : k < 0
  · clear hk
    go_enter Try.func21, Try.ntmps21
    go_wp2_with fail
    refine (truncated _ _ _ _ _ _).mono ?_
    rintro e w1 ⟨rfl, hb⟩
    obtain ⟨hc, hf⟩ := bcell hb
    have hz : w.heap.size + 1 < w1.heap.size := by have := hb.size; simp at this; omega
    have hb := hide (bel_next (bl_alloc (bl_new _ _) _) hb)
    go_wp2
    refine bodyPost_ret (v := .tuple #[.slice none 0 0, cu A n c p 1 n]) (by simp [results, Try.results21, go_sem, hc]) rfl ⟨rfl, ?_⟩
    repeat (refine bl_set ?_ (by omega) _)
    exact hb.out
  · have hk1 : (n : Int) - p < k := by omega
    clear hk
    go_enter Try.func21, Try.ntmps21
    go_wp2_with fail
    refine (Rest_ok _ _ _ _ _ _ hn h0 h1).mono ?_
    rintro e w1 ⟨rfl, hb⟩
    obtain ⟨hc, hf⟩ := bcell hb
    have hz : w.heap.size + 1 < w1.heap.size := by have := hb.size; simp at this; omega
    have hb := hide (bel_next (bl_alloc (bl_new _ _) _) hb)
    go_wp2_with fail
    refine (truncated _ _ _ _ _ _).mono ?_
    rintro e w2 ⟨rfl, hb2⟩
    obtain ⟨hc2, hf2⟩ := bcell hb2
    have hz2 : w.heap.size + 1 < w2.heap.size := by have := hb2.size; omega
    have hb2 := hide (bel_next hb.out hb2)
    go_wp2
    refine bodyPost_ret (v := .tuple #[.slice none 0 0, cu A n c p 1 n]) (by simp [results, Try.results21, go_sem, hc, hc2, hz]) rfl ⟨rfl, ?_⟩
    repeat (refine bl_set ?_ (by omega) _)
    exact hb2.out
theorem next_yes (A : Option Addr) (n c : Nat) (p k : Nat) (w : World) (hn : n ≤ c) (hc : c ≤ 9223372036854775807) (h1 : p + k ≤ n) :
    Calls Try.prog 21 #[cu A n c p 0 0, .int .i64 k] w fun e w' => e = .returned (.tuple #[.slice (if c = p then A else A.map (·.add p)) k (c - p), cu A n c ((p + k : Nat) : Int) 0 0]) ∧ Below w.heap.size w w' := by
  generalize hA' : (if c = p then A else A.map (·.add p)) = A'
  go_enter Try.func21, Try.ntmps21
  go_wp2_with fail
  refine (Rest_x _ _ _ _ _ _ (by omega) (by omega) (by omega)).mono ?_
  rintro e w1 ⟨rfl, rfl⟩
  go_wp2
  go_region
  all_goals go_wp2
  all_goals
    refine bodyPost_ret (v := .tuple #[.slice A' k (c - p), cu A n c ((p + k : Nat) : Int) 0 0]) (by simp [results, Try.results21, go_sem, Nat.add_sub_cancel_left]) rfl ⟨rfl, ?_⟩
    repeat (first | exact bl_refl _ | refine bl_set ?_ (by omega) _ | refine bl_drew ?_ | refine bl_alloc ?_ _)
theorem Clone (A : Option Addr) (n c : Nat) (xs : List Int) (w : World) (hA : A = none → n = 0 ∧ c = 0) (hn : n ≤ 1000000) (hr : Rd w A n (xs.map (Value.int .u8))) :
    Calls Try.prog 22 #[.slice A n c] w fun e w' => ∃ A' c', e = .returned (.slice A' n c') ∧ Ow w' w.heap.size 5 A' n c' (xs.map (Value.int .u8)) ∧ Below w.heap.size w w' := by
  have Hone := hide (oneCells .u8 xs)
  have HA := hide hA
  rcases A with _ | ad
  · obtain ⟨rfl, rfl⟩ := hA rfl
    have hx : xs = [] := List.eq_nil_of_length_eq_zero (by simpa using hr.len)
    subst hx
    clear hA HA Hone
    have he : ∀ w : World, (binOp .eql 22 (.slice none 0 0) (.slice none 0 0)).run Try.prog w = .ok (.bool true) w := fun _ => rfl
    go_enter Try.func22, Try.ntmps22
    go_wp2
    go_ret
    exact ⟨none, 0, rfl, Ow.nil (Nat.le_refl _) _, bl_refl _⟩
  · clear hA
    have he : ∀ w : World, (binOp .eql 22 (.slice (some ad) n c) (.slice none 0 0)).run Try.prog w = .ok (.bool false) w := fun _ => rfl
    go_enter Try.func22, Try.ntmps22
    have b0 := hide (bl_new w (.cells #[] 5))
    go_wp2_with (refine apn elU8 (Ow.lit w 5 [] (by simp)) b0.out (Nat.le_refl _) (hr.below b0.out) (.tmp 5) (.tmp 6) rfl rfl rfl rfl HA.out Hone.out (by simp [maxLen]; omega) (by simp; omega) ?_; intro A2 c2 w3 ho3 hb3; simp only [Nat.zero_add, List.nil_append, List.length_nil] at ho3)
    go_ret
    exact ⟨A2, c2, by simp, ho3, hb3⟩
theorem Take_gen (A : Option Addr) (n c : Nat) (p x a kk : Int) (A1 : Option Addr) (k c1 : Nat) (xs : List Int) (p' x' a' : Int) (w : World)
    (N : ∀ w, Calls Try.prog 21 #[cu A n c p x a, .int .i64 kk] w fun e w' => e = .returned (.tuple #[.slice A1 k c1, cu A n c p' x' a']) ∧ Below w.heap.size w w')
    (hA1 : A1 = none → k = 0 ∧ c1 = 0) (hkm : k ≤ 1000000) (hr1 : Rd w A1 k (xs.map (Value.int .u8))) :
    Calls Try.prog 10 #[cu A n c p x a, .int .i64 kk] w fun e w' => ∃ A' c', e = .returned (.tuple #[.slice A' k c', cu A n c p' x' a']) ∧
      Ow w' w.heap.size 5 A' k c' (xs.map (Value.int .u8)) ∧ Below w.heap.size w w' := by
  have HA1 := hide hA1
  have HN := hide N
  clear hA1 N
  go_enter Try.func10, Try.ntmps10
  go_wp2_with fail
  refine (HN.out _).mono ?_
  rintro e w1 ⟨rfl, hb⟩
  have hz : w.heap.size + 1 < w1.heap.size := by have := hb.size; simp at this; omega
  have hb0 := hb
  have hb := hide (bel_next (bl_alloc (bl_new _ _) _) hb)
  go_wp2_with fail
  have hrW := hide (fun o => ((hr1.below hb.out).alloc o).drew)
  have B5 := hide (fun o => (((Bx.snd4 w (.cells #[.slice A n c, .int .i64 p, .int .i64 x, .int .i64 a] 26) (.slice none 0 0) (.int .i64 0) (.int .i64 0) (.int .i64 0) 26).below hb0).alloc o).drew)
  have B7 := hide (Bx.new4 w1 (.slice A n c) (.int .i64 p') (.int .i64 x') (.int .i64 a') 26).drew
  go_region_with ((go_at_call 22; refine (Clone _ _ _ xs _ HA1.out hkm (hrW.out _)).mono ?_; rintro e w3 ⟨A3, c3, rfl, ho3, hb3⟩; obtain ⟨x0, x1, x2, x3⟩ := ((B5.out _).below hb3).cells4; have y := ((B5.out _).below hb3).fr; obtain ⟨z0, z1, z2, z3⟩ := (B7.out.below hb3).cells4))
  all_goals
    have hlo : w.heap.size + 1 < (w1.alloc (.cells #[.slice A n c, .int .i64 p', .int .i64 x', .int .i64 a'] 26)).drew.heap.size := by simp; omega
    have ho3 := hide ((((ho3.setLow 0 hlo (.slice A n c)).setLow 1 hlo (.int .i64 p')).setLow 2 hlo (.int .i64 x')).setLow 3 hlo (.int .i64 a'))
    have hlw : w.heap.size ≤ (w1.alloc (.cells #[.slice A n c, .int .i64 p', .int .i64 x', .int .i64 a'] 26)).drew.heap.size := by omega
    have hb3 := hide (bel_next (bl_drew (bl_alloc hb.out _)) hb3)
    clear hlo
    go_wp2
    refine bodyPost_ret (v := .tuple #[.slice A3 k c3, cu A n c p' x' a']) (by simp [results, Try.results10, go_sem, x0, x1, x2, x3]) rfl ⟨A3, c3, rfl, ho3.out.mono hlw, ?_⟩
    repeat (first | exact hb3.out | refine bl_set ?_ (by omega) _ | refine bl_drew ?_ | refine bl_alloc ?_ _)
theorem Take_yes (A : Option Addr) (n c : Nat) (xs : List Int) (p k : Nat) (w : World) (hA : A = none → n = 0 ∧ c = 0) (hn : n ≤ c) (hc : c ≤ 9223372036854775807) (hm : n ≤ 1000000) (h1 : p + k ≤ n) (hr : Rd w A n (xs.map (Value.int .u8))) :
    Calls Try.prog 10 #[cu A n c p 0 0, .int .i64 k] w fun e w' => ∃ A' c', e = .returned (.tuple #[.slice A' k c', cu A n c ((p + k : Nat) : Int) 0 0]) ∧
      Ow w' w.heap.size 5 A' k c' ((fld xs p k).map (Value.int .u8)) ∧ Below w.heap.size w w' := by
  have hr1 : Rd w (if c = p then A else A.map (·.add p)) k ((fld xs p k).map (Value.int .u8)) := by
    have := (hr.cut (k := p) (cap := c) (by omega) hn).take (k := k) (by omega)
    unfold fld
    rwa [List.map_take, List.map_drop]
  refine Take_gen A n c p 0 0 k _ k (c - p) _ _ 0 0 w (fun w => next_yes A n c p k w hn hc h1) ?_ (by omega) hr1
  intro h
  have : A = none := by
    split at h
    · exact h
    · simpa using h
  obtain ⟨rfl, rfl⟩ := hA this
  omega
theorem Take_no (A : Option Addr) (n c : Nat) (p a k : Int) (w : World) (hn : n ≤ 9223372036854775807) (h0 : 0 ≤ p) (h1 : p ≤ n) (hk : k < 0 ∨ n - p < k) :
    Calls Try.prog 10 #[cu A n c p 0 a, .int .i64 k] w fun e w' => ∃ A' c', e = .returned (.tuple #[.slice A' 0 c', cu A n c p 1 n]) ∧ Ow w' w.heap.size 5 A' 0 c' [] ∧ Below w.heap.size w w' :=
  Take_gen A n c p 0 a k none 0 0 [] _ _ _ w (fun w => next_no A n c p a k w hn h0 h1 hk) (fun _ => ⟨rfl, rfl⟩) (by omega) (Rd.none_ w)
theorem Take_err (A : Option Addr) (n c : Nat) (p x a k : Int) (w : World) (hx : x ≠ 0) :
    Calls Try.prog 10 #[cu A n c p x a, .int .i64 k] w fun e w' => ∃ A' c', e = .returned (.tuple #[.slice A' 0 c', cu A n c p x a]) ∧ Ow w' w.heap.size 5 A' 0 c' [] ∧ Below w.heap.size w w' :=
  Take_gen A n c p x a k none 0 0 [] _ _ _ w (fun w => next_err A n c p x a k w hx) (fun _ => ⟨rfl, rfl⟩) (by omega) (Rd.none_ w)
theorem fieldU_err (A : Option Addr) (n c : Nat) (p x a k : Int) (w : World) (hx : x ≠ 0) :
    Calls Try.prog 23 #[cu A n c p x a, .int .i64 k, .func (.func 24) #[] #[]] w fun e w' => e = .returned (.tuple #[.int .u64 0, cu A n c p x a]) ∧ Below w.heap.size w w' := by
  go_enter Try.func23, Try.ntmps23
  go_wp2
  go_region
  all_goals go_wp2
  all_goals exact bodyPost_ret (v := .tuple #[.int .u64 0, cu A n c p x a]) (by simp [results, Try.results23, go_sem]) rfl ⟨rfl, by first | exact bl_alloc (bl_new _ _) _ | exact bl_drew (bl_alloc (bl_new _ _) _)⟩
theorem fieldU_no (A : Option Addr) (n c : Nat) (p k : Int) (w : World) (hk : k = 1 ∨ k = 4 ∨ k = 8) (hn : n ≤ 9223372036854775807) (h1 : p < 0 ∨ n < p + k) :
    Calls Try.prog 23 #[cu A n c p 0 0, .int .i64 k, .func (.func 24) #[] #[]] w fun e w' => e = .returned (.tuple #[.int .u64 0, cu A n c p 1 n]) ∧ Below w.heap.size w w' := by
  have D := hide (fun w => be_.Uint_no A n c p k w hk hn h1)
  clear hk h1
  go_enter Try.func23, Try.ntmps23
  go_wp2_with fail
  refine (D.out _).mono ?_
  rintro e w1 ⟨rfl, rfl⟩
  go_wp2_with fail
  refine (truncated _ _ _ _ _ _).mono ?_
  rintro e w1 ⟨rfl, hb⟩
  obtain ⟨hc, hf⟩ := bcell hb
  have hz : w.heap.size + 1 < w1.heap.size := by have := hb.size; simp at this; omega
  have hb := hide (bel_next (bl_alloc (bl_new _ _) _) hb)
  go_wp2
  refine bodyPost_ret (v := .tuple #[.int .u64 0, cu A n c p 1 n]) (by simp [results, Try.results23, go_sem, hc]) rfl ⟨rfl, ?_⟩
  repeat (first | exact hb.out | refine bl_set ?_ (by omega) _)
theorem fieldU_yes (A : Option Addr) (n c : Nat) (l : List Int) (p k : Int) (w : World) (hk : k = 1 ∨ k = 4 ∨ k = 8) (hn : n ≤ 9223372036854775807) (h0 : 0 ≤ p) (h1 : p + k ≤ n)
    (hr : Rd w A n (l.map (Value.int .u8))) (hl : Bytes l) :
    Calls Try.prog 23 #[cu A n c p 0 0, .int .i64 k, .func (.func 24) #[] #[]] w fun e w' => e = .returned (.tuple #[.int .u64 (uval (fld l p.toNat k.toNat)), cu A n c (p + k) 0 0]) ∧ Below w.heap.size w w' := by
  have D := hide (fun w hr => be_.Uint_yes A n c l p k w hk hn h0 h1 hr hl)
  have hkb : 1 ≤ k ∧ k ≤ 8 := by omega
  obtain ⟨k1, k2⟩ := hkb
  clear hk
  generalize uval (fld l p.toNat k.toNat) = v at *
  go_enter Try.func23, Try.ntmps23
  go_wp2_with fail
  refine (D.out _ ((hr.alloc _).alloc _)).mono ?_
  rintro e w1 ⟨rfl, rfl⟩
  go_wp2
  go_region
  all_goals go_wp2
  all_goals
    refine bodyPost_ret (v := .tuple #[.int .u64 v, cu A n c (p + k) 0 0]) (by simp [results, Try.results23, go_sem]) rfl ⟨rfl, ?_⟩
    repeat (first | exact bl_refl _ | refine bl_set ?_ (by omega) _ | refine bl_drew ?_ | refine bl_alloc ?_ _)
theorem Uint_gen (A : Option Addr) (n c : Nat) {l : List Int} (p x a k v p' x' a' : Int) (w : World)
    (N : ∀ w, Rd w A n (l.map (Value.int .u8)) → Calls Try.prog 23 #[cu A n c p x a, .int .i64 k, .func (.func 24) #[] #[]] w fun e w' => e = .returned (.tuple #[.int .u64 v, cu A n c p' x' a']) ∧ Below w.heap.size w w') (hr : Rd w A n (l.map (Value.int .u8))) :
    Calls Try.prog 14 #[cu A n c p x a, .int .i64 k] w fun e w' => e = .returned (.tuple #[.int .u64 v, cu A n c p' x' a']) ∧ Below w.heap.size w w' := by
  have HN := hide N
  clear N
  go_enter Try.func14, Try.ntmps14
  go_wp2_with fail
  refine (HN.out _ ((hr.alloc _).alloc _)).mono ?_
  rintro e w1 ⟨rfl, hb⟩
  obtain ⟨hc, hf⟩ := bcell hb
  have hz : w.heap.size + 1 < w1.heap.size := by have := hb.size; simp at this; omega
  have hb := hide (bel_next (bl_alloc (bl_new _ _) _) hb)
  go_wp2
  refine bodyPost_ret (v := .tuple #[.int .u64 v, cu A n c p' x' a']) (by simp [results, Try.results14, go_sem, hc]) rfl ⟨rfl, ?_⟩
  repeat (first | exact hb.out | refine bl_set ?_ (by omega) _)
theorem Uint_yes (A : Option Addr) (n c : Nat) (l : List Int) (p k : Int) (w : World) (hk : k = 1 ∨ k = 4 ∨ k = 8) (hn : n ≤ 9223372036854775807) (h0 : 0 ≤ p) (h1 : p + k ≤ n) (hr : Rd w A n (l.map (Value.int .u8))) (hl : Bytes l) :
    Calls Try.prog 14 #[cu A n c p 0 0, .int .i64 k] w fun e w' => e = .returned (.tuple #[.int .u64 (uval (fld l p.toNat k.toNat)), cu A n c (p + k) 0 0]) ∧ Below w.heap.size w w' :=
  Uint_gen A n c p 0 0 k _ _ 0 0 w (fun w hr => fieldU_yes A n c l p k w hk hn h0 h1 hr hl) hr
theorem Uint_no (A : Option Addr) (n c : Nat) (l : List Int) (p k : Int) (w : World) (hk : k = 1 ∨ k = 4 ∨ k = 8) (hn : n ≤ 9223372036854775807) (h1 : p < 0 ∨ n < p + k) (hr : Rd w A n (l.map (Value.int .u8))) :
    Calls Try.prog 14 #[cu A n c p 0 0, .int .i64 k] w fun e w' => e = .returned (.tuple #[.int .u64 0, cu A n c p 1 n]) ∧ Below w.heap.size w w' :=
  Uint_gen A n c p 0 0 k _ _ 1 n w (fun w hr => fieldU_no A n c p k w hk hn h1) hr
theorem Uint_err (A : Option Addr) (n c : Nat) (l : List Int) (p x a k : Int) (w : World) (hx : x ≠ 0) (hr : Rd w A n (l.map (Value.int .u8))) :
    Calls Try.prog 14 #[cu A n c p x a, .int .i64 k] w fun e w' => e = .returned (.tuple #[.int .u64 0, cu A n c p x a]) ∧ Below w.heap.size w w' :=
  Uint_gen A n c p x a k _ _ _ _ w (fun w hr => fieldU_err A n c p x a k w hx) hr
theorem fieldI_err (A : Option Addr) (n c : Nat) (p x a k : Int) (w : World) (hx : x ≠ 0) :
    Calls Try.prog 25 #[cu A n c p x a, .int .i64 k, .func (.func 26) #[] #[]] w fun e w' => e = .returned (.tuple #[.int .i64 0, cu A n c p x a]) ∧ Below w.heap.size w w' := by
  go_enter Try.func25, Try.ntmps25
  go_wp2
  go_region
  all_goals go_wp2
  all_goals exact bodyPost_ret (v := .tuple #[.int .i64 0, cu A n c p x a]) (by simp [results, Try.results25, go_sem]) rfl ⟨rfl, by first | exact bl_alloc (bl_new _ _) _ | exact bl_drew (bl_alloc (bl_new _ _) _)⟩
theorem fieldI_no (A : Option Addr) (n c : Nat) (p k : Int) (w : World) (hk : k = 1 ∨ k = 4 ∨ k = 8) (hn : n ≤ 9223372036854775807) (h1 : p < 0 ∨ n < p + k) :
    Calls Try.prog 25 #[cu A n c p 0 0, .int .i64 k, .func (.func 26) #[] #[]] w fun e w' => e = .returned (.tuple #[.int .i64 0, cu A n c p 1 n]) ∧ Below w.heap.size w w' := by
  have D := hide (fun w => be_.Int_no A n c p k w hk hn h1)
  clear hk h1
  go_enter Try.func25, Try.ntmps25
  go_wp2_with fail
  refine (D.out _).mono ?_
  rintro e w1 ⟨rfl, rfl⟩
  go_wp2_with fail
  refine (truncated _ _ _ _ _ _).mono ?_
  rintro e w1 ⟨rfl, hb⟩
  obtain ⟨hc, hf⟩ := bcell hb
  have hz : w.heap.size + 1 < w1.heap.size := by have := hb.size; simp at this; omega
  have hb := hide (bel_next (bl_alloc (bl_new _ _) _) hb)
  go_wp2
  refine bodyPost_ret (v := .tuple #[.int .i64 0, cu A n c p 1 n]) (by simp [results, Try.results25, go_sem, hc]) rfl ⟨rfl, ?_⟩
  repeat (first | exact hb.out | refine bl_set ?_ (by omega) _)
theorem fieldI_yes (A : Option Addr) (n c : Nat) (l : List Int) (p k : Int) (w : World) (hk : k = 1 ∨ k = 4 ∨ k = 8) (hn : n ≤ 9223372036854775807) (h0 : 0 ≤ p) (h1 : p + k ≤ n)
    (hr : Rd w A n (l.map (Value.int .u8))) (hl : Bytes l) :
    Calls Try.prog 25 #[cu A n c p 0 0, .int .i64 k, .func (.func 26) #[] #[]] w fun e w' => e = .returned (.tuple #[.int .i64 (sgn k (uval (fld l p.toNat k.toNat))), cu A n c (p + k) 0 0]) ∧ Below w.heap.size w w' := by
  have D := hide (fun w hr => be_.Int_yes A n c l p k w hk hn h0 h1 hr hl)
  have hkb : 1 ≤ k ∧ k ≤ 8 := by omega
  obtain ⟨k1, k2⟩ := hkb
  clear hk
  generalize sgn k (uval (fld l p.toNat k.toNat)) = v at *
  go_enter Try.func25, Try.ntmps25
  go_wp2_with fail
  refine (D.out _ ((hr.alloc _).alloc _)).mono ?_
  rintro e w1 ⟨rfl, rfl⟩
  go_wp2
  go_region
  all_goals go_wp2
  all_goals
    refine bodyPost_ret (v := .tuple #[.int .i64 v, cu A n c (p + k) 0 0]) (by simp [results, Try.results25, go_sem]) rfl ⟨rfl, ?_⟩
    repeat (first | exact bl_refl _ | refine bl_set ?_ (by omega) _ | refine bl_drew ?_ | refine bl_alloc ?_ _)
theorem Int_gen (A : Option Addr) (n c : Nat) {l : List Int} (p x a k v p' x' a' : Int) (w : World)
    (N : ∀ w, Rd w A n (l.map (Value.int .u8)) → Calls Try.prog 25 #[cu A n c p x a, .int .i64 k, .func (.func 26) #[] #[]] w fun e w' => e = .returned (.tuple #[.int .i64 v, cu A n c p' x' a']) ∧ Below w.heap.size w w') (hr : Rd w A n (l.map (Value.int .u8))) :
    Calls Try.prog 16 #[cu A n c p x a, .int .i64 k] w fun e w' => e = .returned (.tuple #[.int .i64 v, cu A n c p' x' a']) ∧ Below w.heap.size w w' := by
  have HN := hide N
  clear N
  go_enter Try.func16, Try.ntmps16
  go_wp2_with fail
  refine (HN.out _ ((hr.alloc _).alloc _)).mono ?_
  rintro e w1 ⟨rfl, hb⟩
  obtain ⟨hc, hf⟩ := bcell hb
  have hz : w.heap.size + 1 < w1.heap.size := by have := hb.size; simp at this; omega
  have hb := hide (bel_next (bl_alloc (bl_new _ _) _) hb)
  go_wp2
  refine bodyPost_ret (v := .tuple #[.int .i64 v, cu A n c p' x' a']) (by simp [results, Try.results16, go_sem, hc]) rfl ⟨rfl, ?_⟩
  repeat (first | exact hb.out | refine bl_set ?_ (by omega) _)
theorem Int_yes (A : Option Addr) (n c : Nat) (l : List Int) (p k : Int) (w : World) (hk : k = 1 ∨ k = 4 ∨ k = 8) (hn : n ≤ 9223372036854775807) (h0 : 0 ≤ p) (h1 : p + k ≤ n) (hr : Rd w A n (l.map (Value.int .u8))) (hl : Bytes l) :
    Calls Try.prog 16 #[cu A n c p 0 0, .int .i64 k] w fun e w' => e = .returned (.tuple #[.int .i64 (sgn k (uval (fld l p.toNat k.toNat))), cu A n c (p + k) 0 0]) ∧ Below w.heap.size w w' :=
  Int_gen A n c p 0 0 k _ _ 0 0 w (fun w hr => fieldI_yes A n c l p k w hk hn h0 h1 hr hl) hr
theorem Int_no (A : Option Addr) (n c : Nat) (l : List Int) (p k : Int) (w : World) (hk : k = 1 ∨ k = 4 ∨ k = 8) (hn : n ≤ 9223372036854775807) (h1 : p < 0 ∨ n < p + k) (hr : Rd w A n (l.map (Value.int .u8))) :
    Calls Try.prog 16 #[cu A n c p 0 0, .int .i64 k] w fun e w' => e = .returned (.tuple #[.int .i64 0, cu A n c p 1 n]) ∧ Below w.heap.size w w' :=
  Int_gen A n c p 0 0 k _ _ 1 n w (fun w hr => fieldI_no A n c p k w hk hn h1) hr
theorem Int_err (A : Option Addr) (n c : Nat) (l : List Int) (p x a k : Int) (w : World) (hx : x ≠ 0) (hr : Rd w A n (l.map (Value.int .u8))) :
    Calls Try.prog 16 #[cu A n c p x a, .int .i64 k] w fun e w' => e = .returned (.tuple #[.int .i64 0, cu A n c p x a]) ∧ Below w.heap.size w w' :=
  Int_gen A n c p x a k _ _ _ _ w (fun w hr => fieldI_err A n c p x a k w hx) hr
end cu_
end Go.Proofs.Ytldkfmbcinmofaa
