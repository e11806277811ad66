/-
  THE WALKS OF THE LAWS OF LAYER 3 (zoneinfolaw03): SizesTotalSplits: plain arithmetic, and the short ways. No conditions.
-/
import Derived.Test.YteabkmaopbmknaaLaw3
namespace Go.Proofs.Yteabkmaopbmknaa
open Go.ChangeShapes Go.WideShapes Go.ChangeAt Go.RowKit
set_option linter.unusedVariables false

/-! ### plain arithmetic of totals -/
theorem tot_take (xs ys : List Int) (k n m : Nat) (h1 : k ≤ n) (h2 : k ≤ m) : tot (xs.take n) (ys.take m) k = tot xs ys k := by
  induction k with
  | zero => rfl
  | succ k ih =>
    simp only [tot]
    rw [ih (by omega) (by omega), List.getElem?_take, List.getElem?_take, if_pos (by omega), if_pos (by omega)]
theorem tot_left (xs ys xs' ys' : List Int) (k : Nat) (h1 : k ≤ xs.length) (h2 : k ≤ ys.length) : tot (xs ++ xs') (ys ++ ys') k = tot xs ys k := by
  induction k with
  | zero => rfl
  | succ k ih =>
    simp only [tot]
    rw [ih (by omega) (by omega), List.getElem?_append_left (by omega), List.getElem?_append_left (by omega)]
theorem tot_app (xs ys xs' ys' : List Int) (n m : Nat) (h1 : xs.length = n) (h2 : ys.length = n) : tot (xs ++ xs') (ys ++ ys') (n + m) = tot xs ys n + tot xs' ys' m := by
  induction m with
  | zero => simp only [tot, Nat.add_zero, tot_left xs ys xs' ys' n (by omega) (by omega), Int.add_zero]
  | succ m ih =>
    rw [← Nat.add_assoc]
    simp only [tot]
    rw [ih, List.getElem?_append_right (by omega), List.getElem?_append_right (by omega), h1, h2, Nat.add_sub_cancel_left]
    omega
theorem tot_bd {xs ys : List Int} (hx : ∀ i : Nat, 0 ≤ xs[i]?.getD 0 ∧ xs[i]?.getD 0 < 65536) (hy : ∀ i : Nat, 0 ≤ ys[i]?.getD 0 ∧ ys[i]?.getD 0 < 256) : ∀ k : Nat, 0 ≤ tot xs ys k ∧ tot xs ys k ≤ k * 16711425
  | 0 => by simp [tot]
  | k + 1 => by
    have h := tot_bd hx hy k
    obtain ⟨x0, x1⟩ := hx k
    obtain ⟨y0, y1⟩ := hy k
    have h2 := mul_lo _ _ x0 y0
    have h3 := Int.mul_le_mul (show xs[k]?.getD 0 ≤ 65535 by omega) (show ys[k]?.getD 0 ≤ 255 by omega) y0 (by omega)
    simp only [tot]
    omega

theorem wf_u16 {n : Int} (h : (Lit.int .u16 n).wf = true) : 0 ≤ n ∧ n < 65536 := by simp [Lit.wf, IntKind.min, IntKind.max, IntKind.signed, IntKind.bits] at h; omega
theorem bnd {b : Int} (hb : 0 < b) {xs : List Int} (h : ∀ x ∈ xs, 0 ≤ x ∧ x < b) (i : Nat) : 0 ≤ xs[i]?.getD 0 ∧ xs[i]?.getD 0 < b := by
  rcases hx : xs[i]? with _ | x
  · simpa using hb
  · simpa using h x (List.mem_of_getElem? hx)
theorem elU64 : ElT Try.prog 23 22 (.int .u64 0) 8 := ⟨Try.underlying23, by kernel_rfl, rfl⟩
theorem take_snoc (k : IntKind) (xs : List Int) (i : Nat) (h : i < xs.length) : (xs.take i).map (Value.int k) ++ [.int k (xs[i]?.getD 0)] = (xs.take (i + 1)).map (Value.int k) := by
  rw [List.take_add_one, List.map_append]
  simp [List.getElem?_eq_getElem h]

namespace l3_
set_option maxRecDepth 100000 in
set_option maxHeartbeats 4000000 in
theorem splits0 (a0 : Option Addr) (len0 cap0 : Nat) (a1 : Option Addr) (len1 cap1 : Nat) (a2 : Option Addr) (len2 cap2 : Nat) (a3 : Option Addr) (len3 cap3 : Nat) (w : World)
    (h : 50 < len0 ∨ (len0 ≤ 50 ∧ 50 < len1) ∨ (len0 ≤ 50 ∧ len1 ≤ 50 ∧ len2 < len0 + len1) ∨ (len0 ≤ 50 ∧ len1 ≤ 50 ∧ len0 + len1 ≤ len2 ∧ 200 < len2) ∨ (len0 ≤ 50 ∧ len1 ≤ 50 ∧ len0 + len1 ≤ len2 ∧ len2 ≤ 200 ∧ 50 < len3)) :
    Calls Try.prog 6 #[.slice a0 len0 cap0, .slice a1 len1 cap1, .slice a2 len2 cap2, .slice a3 len3 cap3] w fun e w' => e = .returned (.bool true) ∧ Below w.heap.size w w' := by
  rcases h with h | ⟨h, h2⟩ | ⟨h, h2, h3⟩ | ⟨h, h2, h3, h4⟩ | ⟨h, h2, h3, h4, h5⟩
  all_goals
    go_enter Try.func6, Try.ntmps6
    go_wp2_with fail
    refine (awake _).mono ?_
    rintro e w1 ⟨rfl, hb1⟩
    go_wp2_with fail
    refine (awake _).mono ?_
    rintro e w2 ⟨rfl, hb2⟩
    go_wp2
    go_ret
    exact ⟨rfl, bel_next hb1 hb2⟩
end l3_
end Go.Proofs.Yteabkmaopbmknaa
