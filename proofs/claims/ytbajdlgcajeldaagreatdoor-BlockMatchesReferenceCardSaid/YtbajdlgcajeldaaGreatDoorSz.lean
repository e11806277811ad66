/-
  CONTRACTS OF PACKAGE sizes AND ITS REFERENCE (zoneinforef03), and of math/bits.Add64 and Mul64, on which it leans: exact sums, products and totals up to a limit.
-/
import Derived.Test.YtbajdlgcajeldaaGreatDoorRows
import Derived.Test.YtbajdlgcajeldaaGreatDoorBase2
import Derived.Laws.Externs
import Derived.Laws.Bits64b
import Derived.WalkMore
namespace Go.Proofs.YtbajdlgcajeldaaGreatDoor
open Go.ChangeShapes Go.WideShapes Go.ChangeAt Go.RowKit
set_option linter.unusedVariables false

/-! ### plain arithmetic -/
/-- what a function of sizes returns whose exact value is s. -/
def Sz (v : Int) (ok : Bool) (s l : Int) : Prop := (ok = true ∧ v = s ∧ s ≤ l) ∨ (ok = false ∧ v = 0 ∧ l < s)
theorem Sz.ex (s l : Int) : ∃ v ok, Sz v ok s l := by
  by_cases h : s ≤ l
  · exact ⟨s, true, .inl ⟨rfl, rfl, h⟩⟩
  · exact ⟨0, false, .inr ⟨rfl, rfl, by omega⟩⟩
theorem mul_lo (a b : Int) (ha : 0 ≤ a) (hb : 0 ≤ b) : 0 ≤ a * b := Int.mul_nonneg ha hb
/-- the sum of the products of the first k pairs. -/
def totSz (xs ys : List Int) : Nat → Int
  | 0 => 0
  | k + 1 => totSz xs ys k + xs[k]?.getD 0 * ys[k]?.getD 0
def Words (xs : List Int) : Prop := ∀ i : Nat, 0 ≤ xs[i]?.getD 0 ∧ xs[i]?.getD 0 < 18446744073709551616
theorem words_of_mem {xs : List Int} (h : ∀ x ∈ xs, 0 ≤ x ∧ x < 18446744073709551616) : Words xs := by
  intro i
  rcases hx : xs[i]? with _ | x
  · simp
  · simpa using h x (List.mem_of_getElem? hx)
theorem tot_nonneg {xs ys : List Int} (hx : Words xs) (hy : Words ys) : ∀ k, 0 ≤ totSz xs ys k
  | 0 => Int.le_refl 0
  | k + 1 => by
    have h1 := tot_nonneg hx hy k
    have h2 := mul_lo _ _ (hx k).1 (hy k).1
    simp only [totSz]
    omega
theorem tot_mono {xs ys : List Int} (hx : Words xs) (hy : Words ys) {j k : Nat} (h : j ≤ k) : totSz xs ys j ≤ totSz xs ys k := by
  induction k with
  | zero => rw [Nat.le_zero.1 h]; exact Int.le_refl _
  | succ k ih =>
    rcases Nat.lt_or_ge k j with hk | hk
    · rw [show j = k + 1 by omega]; exact Int.le_refl _
    · have h2 := mul_lo _ _ (hx k).1 (hy k).1
      have h1 := ih hk
      simp only [totSz]
      omega

theorem andN (a : Nat) (ha : a < 18446744073709551616) : bits .and .u64 (a : Int) 4294967295 = ((a % 4294967296 : Nat) : Int) := by
  rw [show (4294967295 : Int) = ((4294967295 : Nat) : Int) from rfl, bits_and_u64_nat a 4294967295 ha (by omega)]
  congr 1
  exact Nat.and_two_pow_sub_one_eq_mod a 32


theorem divN (a : Nat) : (a : Int) / 4294967296 = ((a / 4294967296 : Nat) : Int) := by omega
theorem mulN (a b : Nat) : (a : Int) * (b : Int) = ((a * b : Nat) : Int) := (Int.natCast_mul a b).symm
theorem addN (a b : Nat) : (a : Int) + (b : Int) = ((a + b : Nat) : Int) := (Int.natCast_add a b).symm
theorem wrapN (a : Nat) (ha : a < 18446744073709551616) : IntKind.u64.wrap (a : Int) = (a : Int) := by rw [IntKind.wrap_u64]; omega
theorem wrapM (a : Nat) : IntKind.u64.wrap (a : Int) = ((a % 18446744073709551616 : Nat) : Int) := by rw [IntKind.wrap_u64]; omega
/-- the school method on halves. -/
theorem halves (x1 x0 y1 y0 : Nat) (h1 : x1 ≤ 4294967295) (h2 : x0 ≤ 4294967295) (h3 : y1 ≤ 4294967295) (h4 : y0 ≤ 4294967295) :
    x1 * y1 < 18446744073709551616 ∧ x1 * y0 < 18446744073709551616 ∧ x0 * y1 < 18446744073709551616 ∧ x0 * y0 < 18446744073709551616 ∧
    x1 * y0 + x0 * y0 / 4294967296 < 18446744073709551616 ∧
    (x1 * y0 + x0 * y0 / 4294967296) % 4294967296 + x0 * y1 < 18446744073709551616 ∧
    x1 * y1 + (x1 * y0 + x0 * y0 / 4294967296) / 4294967296 < 18446744073709551616 ∧
    x1 * y1 + (x1 * y0 + x0 * y0 / 4294967296) / 4294967296 + ((x1 * y0 + x0 * y0 / 4294967296) % 4294967296 + x0 * y1) / 4294967296 < 18446744073709551616 ∧
    x1 * y1 + (x1 * y0 + x0 * y0 / 4294967296) / 4294967296 + ((x1 * y0 + x0 * y0 / 4294967296) % 4294967296 + x0 * y1) / 4294967296 =
      (x1 * y1 * 18446744073709551616 + (x1 * y0 + x0 * y1) * 4294967296 + x0 * y0) / 18446744073709551616 := by
  have ha : x1 * y1 ≤ 4294967295 * 4294967295 := Nat.mul_le_mul h1 h3
  have hb : x1 * y0 ≤ 4294967295 * 4294967295 := Nat.mul_le_mul h1 h4
  have hc : x0 * y1 ≤ 4294967295 * 4294967295 := Nat.mul_le_mul h2 h3
  have hd : x0 * y0 ≤ 4294967295 * 4294967295 := Nat.mul_le_mul h2 h4
  generalize x1 * y1 = a at *
  generalize x1 * y0 = b at *
  generalize x0 * y1 = c at *
  generalize x0 * y0 = d at *
  refine ⟨?_, ?_, ?_, ?_, ?_, ?_, ?_, ?_, ?_⟩ <;> omega
theorem split_mul (x y : Nat) : x * y = (x / 4294967296) * (y / 4294967296) * 18446744073709551616 + ((x / 4294967296) * (y % 4294967296) + (x % 4294967296) * (y / 4294967296)) * 4294967296 + (x % 4294967296) * (y % 4294967296) := by
  conv => lhs; rw [← Nat.div_add_mod' x 4294967296, ← Nat.div_add_mod' y 4294967296]
  generalize x / 4294967296 = p
  generalize x % 4294967296 = q
  generalize y / 4294967296 = r
  generalize y % 4294967296 = s
  rw [Nat.add_mul, Nat.mul_add, Nat.mul_add, Nat.mul_mul_mul_comm, Nat.mul_right_comm p 4294967296 s, ← Nat.mul_assoc q r 4294967296, Nat.add_mul]
  omega
set_option maxHeartbeats 1000000 in
theorem mul64 (x y : Nat) (hx : x < 18446744073709551616) (hy : y < 18446744073709551616) (w : World) :
    Calls Tryz.prog 86 #[.int .u64 x, .int .u64 y] w fun e w' => e = .returned (.tuple #[.int .u64 ((x * y / 18446744073709551616 : Nat) : Int), .int .u64 ((x * y % 18446744073709551616 : Nat) : Int)]) ∧ w = w' := by
  obtain ⟨b1, b2, b3, b4, b5, b6, b7, b8, hh⟩ := halves (x / 4294967296) (x % 4294967296) (y / 4294967296) (y % 4294967296) (by omega) (by omega) (by omega) (by omega)
  rw [← split_mul] at hh
  have H := hide hh; clear hh
  go_enter Tryz.func86, Tryz.ntmps86
  go_wp2
  simp only [andN x hx, andN y hy, divN, mulN, addN, wrapN _ b1, wrapN _ b2, wrapN _ b3, wrapN _ b4, wrapN _ b5, wrapN _ b6, wrapN _ b7, wrapN _ b8, andN _ b5, wrapM (x * y)]
  rw [H.out]
  go_ret2
  exact ⟨rfl, rfl⟩
/-- Mul64 over Int. -/
theorem mul64i (x y : Int) (hx : 0 ≤ x) (hx' : x < 18446744073709551616) (hy : 0 ≤ y) (hy' : y < 18446744073709551616) (w : World) :
    Calls Tryz.prog 86 #[.int .u64 x, .int .u64 y] w fun e w' => e = .returned (.tuple #[.int .u64 (x * y / 18446744073709551616), .int .u64 (x * y % 18446744073709551616)]) ∧ w = w' := by
  obtain ⟨x, rfl⟩ := Int.eq_ofNat_of_zero_le hx
  obtain ⟨y, rfl⟩ := Int.eq_ofNat_of_zero_le hy
  have := mul64 x y (by omega) (by omega) w
  simpa using this

theorem flip {P : Program} {f : FuncId} {a : Array Value} {w : World} {x : Ending} (h : Calls P f a w fun e w' => e = x ∧ w = w') : Calls P f a w fun e w' => e = x ∧ w' = w := h.mono fun _ _ h => ⟨h.1, h.2.symm⟩
theorem rett {k : IntKind} {a b : Int} {p q : Bool} (h : a = b) (h' : p = q) : Ending.returned (.tuple #[.int k a, .bool p]) = .returned (.tuple #[.int k b, .bool q]) := by rw [h, h']
theorem Sz.y {v s l : Int} (h : s = v) (h' : v ≤ l) : Sz v true s l := .inl ⟨rfl, h.symm, by omega⟩
theorem Sz.n {s l : Int} (h : l < s) : Sz 0 false s l := .inr ⟨rfl, rfl, h⟩
theorem Sz.yes {v : Int} {ok : Bool} {s l : Int} (h : Sz v ok s l) (hs : s ≤ l) : s = v ∧ true = ok := by
  rcases h with ⟨rfl, rfl, _⟩ | ⟨_, _, h⟩
  · exact ⟨rfl, rfl⟩
  · omega
theorem Sz.no {v : Int} {ok : Bool} {s l : Int} (h : Sz v ok s l) (hs : l < s) : 0 = v ∧ false = ok := by
  rcases h with ⟨_, _, h⟩ | ⟨rfl, rfl, _⟩
  · omega
  · exact ⟨rfl, rfl⟩

namespace sz_
theorem Mul (a b l v : Int) (ok : Bool) (w : World) (ha : 0 ≤ a) (ha' : a < 18446744073709551616) (hb : 0 ≤ b) (hb' : b < 18446744073709551616) (hl : 0 ≤ l) (hl' : l < 18446744073709551616) (h : Sz v ok (a * b) l) :
    Calls Tryz.prog 78 #[.int .u64 a, .int .u64 b, .int .u64 l] w fun e w' => e = .returned (.tuple #[.int .u64 v, .bool ok]) ∧ w = w' := by
  have hp := mul_lo a b ha hb
  have C := hide (fun w => mul64i a b ha ha' hb hb' w)
  generalize a * b = p at *
  rcases h with ⟨rfl, rfl, h⟩ | ⟨rfl, rfl, h⟩
  · have e1 : v % 18446744073709551616 = v := by omega
    have e2 : v / 18446744073709551616 = 0 := by omega
    rw [e1, e2] at C
    clear e1 e2
    go_enter Tryz.func78, Tryz.ntmps78
    go_wp2_with (go_at_call 86; refine (C.out _).mono ?_; rintro e w' ⟨rfl, rfl⟩)
    go_ret2
    exact ⟨rfl, rfl⟩
  · by_cases hc : p < 18446744073709551616
    · have e1 : p % 18446744073709551616 = p := by omega
      have e2 : p / 18446744073709551616 = 0 := by omega
      rw [e1, e2] at C
      clear e1 e2
      go_enter Tryz.func78, Tryz.ntmps78
      go_wp2_with (go_at_call 86; refine (C.out _).mono ?_; rintro e w' ⟨rfl, rfl⟩)
      go_ret2
      exact ⟨rfl, rfl⟩
    · have e1 : 1 ≤ p / 18446744073709551616 := by omega
      generalize p / 18446744073709551616 = q at *
      generalize p % 18446744073709551616 = r at *
      clear hp h hc
      go_enter Tryz.func78, Tryz.ntmps78
      go_wp2_with (go_at_call 86; refine (C.out _).mono ?_; rintro e w' ⟨rfl, rfl⟩)
      go_ret2
      exact ⟨rfl, rfl⟩
theorem Total (A : Option Addr) (n c : Nat) (B : Option Addr) (m d : Nat) (xs ys : List Int) (l v : Int) (ok : Bool) (w : World)
    (hn : n ≤ 9223372036854775807) (hm : m ≤ 9223372036854775807) (hr : Rd w A n (xs.map (Value.int .u64))) (hs : Rd w B m (ys.map (Value.int .u64))) (hx : Words xs) (hy : Words ys)
    (hl : 0 ≤ l) (hl' : l < 18446744073709551616) (h : Sz v ok (totSz xs ys (min n m)) l) :
    Calls Tryz.prog 72 #[.slice A n c, .slice B m d, .int .u64 l] w fun e w' => e = .returned (.tuple #[.int .u64 v, .bool ok]) ∧ Below w.heap.size w w' := by
  have Hpos := hide (tot_nonneg hx hy)
  have Hmono := hide (fun j k h => tot_mono hx hy (j := j) (k := k) h)
  have H := hide h; clear h
  have hlen1 := hide (show xs.length = n by simpa using hr.len)
  have hlen2 := hide (show ys.length = m by simpa using hs.len)
  obtain ⟨q, hq⟩ : ∃ q, q = min n m := ⟨_, rfl⟩
  rw [← hq] at H
  rcases Nat.lt_trichotomy n m with hnm | hnm | hnm
  · obtain rfl : n = q := by omega
    clear hq
    go_enter Tryz.func72, Tryz.ntmps72
    go_wp2
    go_step3
    go_wp2
    go_step3
    go_wp2
    go_loopw [8, 9, 18] (fun u f i wr => ∃ k : Nat, k ≤ n ∧ i = .int .i64 k ∧ u = .int .u64 (totSz xs ys k) ∧ f = .bool true ∧ totSz xs ys k ≤ l ∧ Below w.heap.size w wr) (fun _ _ i _ => n - (intOf i).toNat)
    case atStart => exact ⟨0, by omega, rfl, rfl, rfl, by simpa [totSz] using hl, Below.refl _ _⟩
    case round =>
      obtain ⟨k, hk, rfl, rfl, rfl, ht, hb⟩ := hrel
      by_cases hlt : k < n
      · have hkn : k < n := by omega
        have hkm : k < m := by omega
        obtain ⟨ad, rfl, hc⟩ := (hr.below hb).int (i := k) (by omega)
        obtain ⟨ad', rfl, hc'⟩ := (hs.below hb).int (i := k) (by omega)
        obtain ⟨x0, x1⟩ := hx k
        obtain ⟨y0, y1⟩ := hy k
        have hst := hide (show totSz xs ys (k + 1) = totSz xs ys k + xs[k]?.getD 0 * ys[k]?.getD 0 from rfl)
        have hup := hide (Hmono.out (k + 1) n (by omega))
        have t0 := Hpos.out k
        obtain ⟨v2, ok2, h2⟩ := Sz.ex (xs[k]?.getD 0 * ys[k]?.getD 0) (l - totSz xs ys k)
        generalize xs[k]?.getD 0 = x at *
        generalize ys[k]?.getD 0 = y at *
        generalize htk : totSz xs ys k = t at *
        have Htk := hide htk; clear htk
        have M := hide (fun w => flip (sz_.Mul x y (l - t) v2 ok2 w x0 x1 y0 y1 (by omega) (by omega) h2))
        rcases h2 with ⟨rfl, rfl, h2⟩ | ⟨rfl, rfl, h2⟩
        · have p0 := mul_lo x y x0 y0
          generalize hp : x * y = p at *
          have Hp := hide hp; clear hp
          go_wp2
          go_quiet ((go_at_call 78; refine Calls.quiet_of_same (M.out _)))
          go_wp2
          go_roundw
          case rel => exact ⟨k + 1, by omega, by go_num, by rw [hst.out], rfl, by rw [hst.out]; omega, bel_drewN hb _⟩
          case measure => simp [intOf]; omega
        · go_wp2
          go_quiet ((go_at_call 78; refine Calls.quiet_of_same (M.out _)))
          have hno := hide (H.out.no (by have := hup.out; rw [hst.out] at this; omega))
          go_wp2
          rw [Exit.noGoto_ret]
          go_ret2
          exact ⟨rett hno.out.1 hno.out.2, bel_drewN hb _⟩
      · obtain rfl : k = n := by omega
        have hyes := hide (H.out.yes ht)
        go_wp2
        rw [Exit.noGoto_ret]
        go_ret2
        exact ⟨rett hyes.out.1 hyes.out.2, hb⟩
  · subst hnm
    obtain rfl : n = q := by omega
    clear hq
    go_enter Tryz.func72, Tryz.ntmps72
    go_wp2
    go_step3
    go_wp2
    go_step3
    go_wp2
    go_loopw [8, 9, 18] (fun u f i wr => ∃ k : Nat, k ≤ n ∧ i = .int .i64 k ∧ u = .int .u64 (totSz xs ys k) ∧ f = .bool true ∧ totSz xs ys k ≤ l ∧ Below w.heap.size w wr) (fun _ _ i _ => n - (intOf i).toNat)
    case atStart => exact ⟨0, by omega, rfl, rfl, rfl, by simpa [totSz] using hl, Below.refl _ _⟩
    case round =>
      obtain ⟨k, hk, rfl, rfl, rfl, ht, hb⟩ := hrel
      by_cases hlt : k < n
      · have hkn : k < n := by omega
        have hkm : k < n := by omega
        obtain ⟨ad, rfl, hc⟩ := (hr.below hb).int (i := k) (by omega)
        obtain ⟨ad', rfl, hc'⟩ := (hs.below hb).int (i := k) (by omega)
        obtain ⟨x0, x1⟩ := hx k
        obtain ⟨y0, y1⟩ := hy k
        have hst := hide (show totSz xs ys (k + 1) = totSz xs ys k + xs[k]?.getD 0 * ys[k]?.getD 0 from rfl)
        have hup := hide (Hmono.out (k + 1) n (by omega))
        have t0 := Hpos.out k
        obtain ⟨v2, ok2, h2⟩ := Sz.ex (xs[k]?.getD 0 * ys[k]?.getD 0) (l - totSz xs ys k)
        generalize xs[k]?.getD 0 = x at *
        generalize ys[k]?.getD 0 = y at *
        generalize htk : totSz xs ys k = t at *
        have Htk := hide htk; clear htk
        have M := hide (fun w => flip (sz_.Mul x y (l - t) v2 ok2 w x0 x1 y0 y1 (by omega) (by omega) h2))
        rcases h2 with ⟨rfl, rfl, h2⟩ | ⟨rfl, rfl, h2⟩
        · have p0 := mul_lo x y x0 y0
          generalize hp : x * y = p at *
          have Hp := hide hp; clear hp
          go_wp2
          go_quiet ((go_at_call 78; refine Calls.quiet_of_same (M.out _)))
          go_wp2
          go_roundw
          case rel => exact ⟨k + 1, by omega, by go_num, by rw [hst.out], rfl, by rw [hst.out]; omega, bel_drewN hb _⟩
          case measure => simp [intOf]; omega
        · go_wp2
          go_quiet ((go_at_call 78; refine Calls.quiet_of_same (M.out _)))
          have hno := hide (H.out.no (by have := hup.out; rw [hst.out] at this; omega))
          go_wp2
          rw [Exit.noGoto_ret]
          go_ret2
          exact ⟨rett hno.out.1 hno.out.2, bel_drewN hb _⟩
      · obtain rfl : k = n := by omega
        have hyes := hide (H.out.yes ht)
        go_wp2
        rw [Exit.noGoto_ret]
        go_ret2
        exact ⟨rett hyes.out.1 hyes.out.2, hb⟩
  · obtain rfl : m = q := by omega
    clear hq
    go_enter Tryz.func72, Tryz.ntmps72
    go_wp2
    go_step3
    go_wp2
    go_step3
    go_wp2
    go_loopw [8, 9, 18] (fun u f i wr => ∃ k : Nat, k ≤ m ∧ i = .int .i64 k ∧ u = .int .u64 (totSz xs ys k) ∧ f = .bool true ∧ totSz xs ys k ≤ l ∧ Below w.heap.size w wr) (fun _ _ i _ => m - (intOf i).toNat)
    case atStart => exact ⟨0, by omega, rfl, rfl, rfl, by simpa [totSz] using hl, Below.refl _ _⟩
    case round =>
      obtain ⟨k, hk, rfl, rfl, rfl, ht, hb⟩ := hrel
      by_cases hlt : k < m
      · have hkn : k < n := by omega
        have hkm : k < m := by omega
        obtain ⟨ad, rfl, hc⟩ := (hr.below hb).int (i := k) (by omega)
        obtain ⟨ad', rfl, hc'⟩ := (hs.below hb).int (i := k) (by omega)
        obtain ⟨x0, x1⟩ := hx k
        obtain ⟨y0, y1⟩ := hy k
        have hst := hide (show totSz xs ys (k + 1) = totSz xs ys k + xs[k]?.getD 0 * ys[k]?.getD 0 from rfl)
        have hup := hide (Hmono.out (k + 1) m (by omega))
        have t0 := Hpos.out k
        obtain ⟨v2, ok2, h2⟩ := Sz.ex (xs[k]?.getD 0 * ys[k]?.getD 0) (l - totSz xs ys k)
        generalize xs[k]?.getD 0 = x at *
        generalize ys[k]?.getD 0 = y at *
        generalize htk : totSz xs ys k = t at *
        have Htk := hide htk; clear htk
        have M := hide (fun w => flip (sz_.Mul x y (l - t) v2 ok2 w x0 x1 y0 y1 (by omega) (by omega) h2))
        rcases h2 with ⟨rfl, rfl, h2⟩ | ⟨rfl, rfl, h2⟩
        · have p0 := mul_lo x y x0 y0
          generalize hp : x * y = p at *
          have Hp := hide hp; clear hp
          go_wp2
          go_quiet ((go_at_call 78; refine Calls.quiet_of_same (M.out _)))
          go_wp2
          go_roundw
          case rel => exact ⟨k + 1, by omega, by go_num, by rw [hst.out], rfl, by rw [hst.out]; omega, bel_drewN hb _⟩
          case measure => simp [intOf]; omega
        · go_wp2
          go_quiet ((go_at_call 78; refine Calls.quiet_of_same (M.out _)))
          have hno := hide (H.out.no (by have := hup.out; rw [hst.out] at this; omega))
          go_wp2
          rw [Exit.noGoto_ret]
          go_ret2
          exact ⟨rett hno.out.1 hno.out.2, bel_drewN hb _⟩
      · obtain rfl : k = m := by omega
        have hyes := hide (H.out.yes ht)
        go_wp2
        rw [Exit.noGoto_ret]
        go_ret2
        exact ⟨rett hyes.out.1 hyes.out.2, hb⟩
end sz_
namespace r3_
end r3_
end Go.Proofs.YtbajdlgcajeldaaGreatDoor
