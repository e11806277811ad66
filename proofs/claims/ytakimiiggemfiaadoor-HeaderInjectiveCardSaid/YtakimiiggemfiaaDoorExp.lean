/-
  CONTRACTS OF cursor.Expect AND OF zoneinforef02 (Valid, Same) for valid cursors.
-/
import Derived.Test.YtakimiiggemfiaaDoorCur
import Derived.Test.YtakimiiggemfiaaDoorR2
namespace Go.Proofs.YtakimiiggemfiaaDoor
open Go.ChangeShapes Go.WideShapes Go.ChangeAt Go.RowKit
set_option linter.unusedVariables false
namespace cu_
theorem Expect_nil (A : Option Addr) (n c : Nat) (p x a y : Int) (B : Option Addr) (m d : Nat) (p' x' a' : Int) (w : World)
    (N : ∀ w, Calls Tryd.prog 21 #[cu A n c p x a, .int .i64 m] w fun e w' => e = .returned (.tuple #[.slice none 0 0, cu A n c p' x' a']) ∧ Below w.heap.size w w') :
    Calls Tryd.prog 16 #[cu A n c p x a, .slice B m d, .int .i64 y] w fun e w' => e = .returned (cu A n c p' x' a') ∧ Below w.heap.size w w' := by
  have HN := hide N
  clear N
  go_enter Tryd.func16, Tryd.ntmps16
  go_wp2_with fail
  refine (HN.out _).mono ?_
  rintro e w1 ⟨rfl, hb⟩
  have hz : w.heap.size + 1 < w1.heap.size := by have := hb.size; simp at this; omega
  obtain ⟨x0, x1, x2, x3⟩ := ((Bx.snd4 w (.cells #[.slice A n c, .int .i64 p, .int .i64 x, .int .i64 a] 30) (.slice none 0 0) (.int .i64 0) (.int .i64 0) (.int .i64 0) 30).below hb).cells4
  have y := ((Bx.snd4 w (.cells #[.slice A n c, .int .i64 p, .int .i64 x, .int .i64 a] 30) (.slice none 0 0) (.int .i64 0) (.int .i64 0) (.int .i64 0) 30).below hb).fr
  have hb := hide (bel_next (bl_alloc (bl_new _ _) _) hb)
  go_wp2
  go_loop [20] (fun i => i = .int .i64 0) (fun _ => 0)
  case atStart => rfl
  case round =>
    subst hrel
    go_wp2
    refine bodyPost_ret (v := cu A n c p' x' a') (by simp [results, Tryd.results16, go_sem, x0, x1, x2, x3, hz]) rfl ⟨rfl, ?_⟩
    repeat (first | exact hb.out | refine bl_set ?_ (by omega) _ | refine bl_drew ?_ | refine bl_alloc ?_ _)
theorem Expect_eq (A : Option Addr) (n c : Nat) (p x a y : Int) (B : Option Addr) (m d : Nat) (A1 : Option Addr) (c1 : Nat) (l : List Int) (p' x' a' : Int) (w : World)
    (N : ∀ w, Calls Tryd.prog 21 #[cu A n c p x a, .int .i64 m] w fun e w' => e = .returned (.tuple #[.slice A1 m c1, cu A n c p' x' a']) ∧ Below w.heap.size w w')
    (hm : m ≤ 9223372036854775807) (hr : Rd w A1 m (l.map (Value.int .u8))) (hr' : Rd w B m (l.map (Value.int .u8))) :
    Calls Tryd.prog 16 #[cu A n c p x a, .slice B m d, .int .i64 y] w fun e w' => e = .returned (cu A n c p' x' a') ∧ Below w.heap.size w w' := by
  have HN := hide N
  clear N
  go_enter Tryd.func16, Tryd.ntmps16
  go_wp2_with fail
  refine (HN.out _).mono ?_
  rintro e w1 ⟨rfl, hb⟩
  have hz : w.heap.size + 1 < w1.heap.size := by have := hb.size; simp at this; omega
  obtain ⟨x0, x1, x2, x3⟩ := ((Bx.snd4 w (.cells #[.slice A n c, .int .i64 p, .int .i64 x, .int .i64 a] 30) (.slice none 0 0) (.int .i64 0) (.int .i64 0) (.int .i64 0) 30).below hb).cells4
  have yf := ((Bx.snd4 w (.cells #[.slice A n c, .int .i64 p, .int .i64 x, .int .i64 a] 30) (.slice none 0 0) (.int .i64 0) (.int .i64 0) (.int .i64 0) 30).below hb).fr
  have hb := hide (bel_next (bl_alloc (bl_new _ _) _) hb)
  have hr := (hr.below hb.out).alloc (.cells #[.slice A n c, .int .i64 p', .int .i64 x', .int .i64 a'] 30)
  have hr' := (hr'.below hb.out).alloc (.cells #[.slice A n c, .int .i64 p', .int .i64 x', .int .i64 a'] 30)
  go_wp2
  go_loop [20] (fun i => ∃ k : Nat, k ≤ m ∧ i = .int .i64 (k : Nat)) (fun i => m - (intOf i).toNat)
  case atStart => exact ⟨0, by omega, rfl⟩
  case round =>
    obtain ⟨k, hk, rfl⟩ := hrel
    by_cases hlt : k < m
    · obtain ⟨ad, rfl, hc⟩ := hr.int hlt
      obtain ⟨ad', rfl, hc'⟩ := hr'.int hlt
      go_wp2
      go_round
      case rel => exact ⟨k + 1, by omega, by go_num⟩
      case measure => simp [intOf]; omega
    · go_wp2
      refine bodyPost_ret (v := cu A n c p' x' a') (by simp [results, Tryd.results16, go_sem, x0, x1, x2, x3, hz]) rfl ⟨rfl, ?_⟩
      repeat (first | exact hb.out | refine bl_set ?_ (by omega) _ | refine bl_drew ?_ | refine bl_alloc ?_ _)
theorem Expect_ne (A : Option Addr) (n c : Nat) (p a y : Int) (B : Option Addr) (m d : Nat) (A1 : Option Addr) (c1 : Nat) (l l' : List Int) (p' x' a' : Int) (i : Nat) (w : World)
    (N : ∀ w, Calls Tryd.prog 21 #[cu A n c p 0 a, .int .i64 m] w fun e w' => e = .returned (.tuple #[.slice A1 m c1, cu A n c p' x' a']) ∧ Below w.heap.size w w')
    (hm : m ≤ 9223372036854775807) (hr : Rd w A1 m (l.map (Value.int .u8))) (hr' : Rd w B m (l'.map (Value.int .u8))) (hi : i < m) (hy : y ≠ 0) (hp0 : 0 ≤ p) (hp : p + i < 9223372036854775807)
    (he : ∀ j, j < i → l[j]?.getD 0 = l'[j]?.getD 0) (hn : l[i]?.getD 0 ≠ l'[i]?.getD 0) :
    Calls Tryd.prog 16 #[cu A n c p 0 a, .slice B m d, .int .i64 y] w fun e w' => e = .returned (cu A n c p y (p + i)) ∧ Below w.heap.size w w' := by
  have HN := hide N
  have He := hide he
  have Hn := hide hn
  clear N he hn
  go_enter Tryd.func16, Tryd.ntmps16
  go_wp2_with fail
  refine (HN.out _).mono ?_
  rintro e w1 ⟨rfl, hb⟩
  have hz : w.heap.size + 1 < w1.heap.size := by have := hb.size; simp at this; omega
  have hz0 : w.heap.size < w1.heap.size := by omega
  have b0 := ((Bx.new4 w (.slice A n c) (.int .i64 p) (.int .i64 0) (.int .i64 a) 30).alloc (.cells #[.slice none 0 0, .int .i64 0, .int .i64 0, .int .i64 0] 30)).below hb
  have b1 := (Bx.snd4 w (.cells #[.slice A n c, .int .i64 p, .int .i64 0, .int .i64 a] 30) (.slice none 0 0) (.int .i64 0) (.int .i64 0) (.int .i64 0) 30).below hb
  obtain ⟨x0, x1, x2, x3⟩ := b0.cells4
  have b1 := hide (b1.alloc (.cells #[.slice A n c, .int .i64 p', .int .i64 x', .int .i64 a'] 30))
  have hb := hide (bel_next (bl_alloc (bl_new _ _) _) hb)
  have hr := (hr.below hb.out).alloc (.cells #[.slice A n c, .int .i64 p', .int .i64 x', .int .i64 a'] 30)
  have hr' := (hr'.below hb.out).alloc (.cells #[.slice A n c, .int .i64 p', .int .i64 x', .int .i64 a'] 30)
  have b0 := hide b0
  go_wp2
  go_loop [20] (fun i' => ∃ k : Nat, k ≤ i ∧ i' = .int .i64 (k : Nat)) (fun i' => m - (intOf i').toNat)
  case atStart => exact ⟨0, by omega, rfl⟩
  case round =>
    obtain ⟨k, hk, rfl⟩ := hrel
    have hlt : k < m := by omega
    obtain ⟨ad, rfl, hc⟩ := hr.int hlt
    obtain ⟨ad', rfl, hc'⟩ := hr'.int hlt
    by_cases hki : k < i
    · have hxy := He.out k hki
      generalize l[k]?.getD 0 = u at *
      generalize l'[k]?.getD 0 = v at *
      subst hxy
      go_wp2
      go_round
      case rel => exact ⟨k + 1, by omega, by go_num⟩
      case measure => simp [intOf]; omega
    · obtain rfl : k = i := by omega
      have hxy := Hn.out
      generalize l[k]?.getD 0 = u at *
      generalize l'[k]?.getD 0 = v at *
      go_wp2_with fail
      refine (Fail_ok _ _ _ _ _ _ _ _ hy).mono ?_
      rintro e w2 ⟨rfl, hb2⟩
      have b1' := b1.out.below hb2
      obtain ⟨y0, y1, y2, y3⟩ := b1'.cells4
      have yf := b1'.fr
      have hb2 := hide (bel_next (bl_alloc hb.out _) hb2)
      go_wp2
      refine bodyPost_ret (v := cu A n c p y (p + k)) (by simp [results, Tryd.results16, go_sem, y0, y1, y2, y3]) rfl ⟨rfl, ?_⟩
      repeat (first | exact hb2.out | refine bl_set ?_ (by omega) _ | refine bl_drew ?_ | refine bl_alloc ?_ _)
theorem Expect_err (A : Option Addr) (n c : Nat) (p x a y : Int) (B : Option Addr) (m d : Nat) (w : World) (hx : x ≠ 0) :
    Calls Tryd.prog 16 #[cu A n c p x a, .slice B m d, .int .i64 y] w fun e w' => e = .returned (cu A n c p x a) ∧ Below w.heap.size w w' :=
  Expect_nil A n c p x a y B m d _ _ _ w (fun w => next_err A n c p x a m w hx)
theorem Expect_no (A : Option Addr) (n c : Nat) (p a y : Int) (B : Option Addr) (m d : Nat) (w : World) (hn : n ≤ 9223372036854775807) (h0 : 0 ≤ p) (h1 : p ≤ n) (hk : n - p < (m : Int)) :
    Calls Tryd.prog 16 #[cu A n c p 0 a, .slice B m d, .int .i64 y] w fun e w' => e = .returned (cu A n c p 1 n) ∧ Below w.heap.size w w' :=
  Expect_nil A n c p 0 a y B m d _ _ _ w (fun w => next_no A n c p a m w hn h0 h1 (.inr hk))
theorem cut_rd {A : Option Addr} {n c : Nat} {xs : List Int} {p k : Nat} {w : World} (hr : Rd w A n (xs.map (Value.int .u8))) (hn : n ≤ c) (h1 : p + k ≤ n) : Rd w (if c = p then A else A.map (·.add p)) k ((fld xs p k).map (Value.int .u8)) := by
  have := (hr.cut (k := p) (cap := c) (by omega) hn).take (k := k) (by omega)
  unfold fld
  rwa [List.map_take, List.map_drop]
theorem Expect_yes (A : Option Addr) (n c : Nat) (xs : List Int) (p : Nat) (y : Int) (B : Option Addr) (m d : Nat) (w : World) (hn : n ≤ c) (hc : c ≤ 9223372036854775807) (h1 : p + m ≤ n)
    (hr : Rd w A n (xs.map (Value.int .u8))) (hr' : Rd w B m ((fld xs p m).map (Value.int .u8))) :
    Calls Tryd.prog 16 #[cu A n c p 0 0, .slice B m d, .int .i64 y] w fun e w' => e = .returned (cu A n c ((p + m : Nat) : Int) 0 0) ∧ Below w.heap.size w w' :=
  Expect_eq A n c p 0 0 y B m d _ _ (fld xs p m) _ _ _ w (fun w => next_yes A n c p m w hn hc h1) (by omega) (cut_rd hr hn h1) hr'
theorem Expect_differ (A : Option Addr) (n c : Nat) (xs : List Int) (p : Nat) (y : Int) (B : Option Addr) (m d : Nat) (ys : List Int) (i : Nat) (w : World) (hn : n ≤ c) (hc : c ≤ 9223372036854775807) (h1 : p + m ≤ n)
    (hr : Rd w A n (xs.map (Value.int .u8))) (hr' : Rd w B m (ys.map (Value.int .u8))) (hi : i < m) (hy : y ≠ 0)
    (he : ∀ j, j < i → (fld xs p m)[j]?.getD 0 = ys[j]?.getD 0) (hne : (fld xs p m)[i]?.getD 0 ≠ ys[i]?.getD 0) :
    Calls Tryd.prog 16 #[cu A n c p 0 0, .slice B m d, .int .i64 y] w fun e w' => e = .returned (cu A n c p y (p + i)) ∧ Below w.heap.size w w' :=
  Expect_ne A n c p 0 y B m d _ _ (fld xs p m) ys _ _ _ i w (fun w => next_yes A n c p m w hn hc h1) (by omega) (cut_rd hr hn h1) hr' hi hy (by omega) (by omega) he hne
end cu_
end Go.Proofs.YtakimiiggemfiaaDoor
