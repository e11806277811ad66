/-
  CONTRACTS OF PACKAGE zoneinforef01 (the reference of layer 1) for widths 1, 4 and 8.
-/
import Derived.Test.YtldkfmbcinmofaaBe
namespace Go.Proofs.Ytldkfmbcinmofaa
open Go.ChangeShapes Go.WideShapes Go.ChangeAt Go.RowKit
set_option linter.unusedVariables false
namespace r1_
def halfV (n : Int) : Int := if n = 1 then 128 else if n = 4 then 2147483648 else 9223372036854775808
theorem Width (k : Int) (w : World) (h0 : 0 ≤ k) (h1 : k < 256) :
    Calls Try.prog 15 #[.int .u8 k] w fun e w' => ∃ n : Int, e = .returned (.int .i64 n) ∧ (n = 1 ∨ n = 4 ∨ n = 8) ∧ Below w.heap.size w w' := by
  rcases (show k % 3 = 0 ∨ k % 3 = 1 ∨ k % 3 = 2 by omega) with h | h | h
  all_goals
    go_enter Try.func15, Try.ntmps15
    go_wp2
    go_ret
    exact ⟨_, rfl, by omega, (Below.refl _ _).alloc (Nat.le_refl _) _⟩
theorem half (n : Int) (w : World) (h : n = 1 ∨ n = 4 ∨ n = 8) : Calls Try.prog 27 #[.int .i64 n] w fun e w' => e = .returned (.int .u64 (halfV n)) ∧ w = w' := by
  obtain ⟨j, rfl⟩ : ∃ j : Nat, n = j := ⟨n.toNat, by omega⟩
  have hj : 1 ≤ j ∧ j ≤ 8 := by omega
  obtain ⟨hj1, hj2⟩ := hj
  have e : halfV j = 128 * 256 ^ (j - 1) := by
    rcases (show j = 1 ∨ j = 4 ∨ j = 8 by omega) with rfl | rfl | rfl <;> simp [halfV]
  rw [e]
  clear h e
  go_enter Try.func27, Try.ntmps27
  go_wp2
  go_loop [3, 4] (fun p i => ∃ k : Nat, 1 ≤ k ∧ k ≤ j ∧ i = .int .i64 k ∧ p = .int .u64 (128 * 256 ^ (k - 1))) (fun _ i => j - (intOf i).toNat)
  case atStart => exact ⟨1, by omega, by omega, rfl, rfl⟩
  case round =>
    obtain ⟨k, hk1, hk2, rfl, rfl⟩ := hrel
    have hb : k < j → 0 ≤ (256 : Int) ^ (k - 1) ∧ (256 : Int) ^ (k - 1) ≤ 281474976710656 := by
      intro hkj
      match k, hk1, (show k ≤ 7 by omega) with
      | 1, _, _ => decide
      | 2, _, _ => decide
      | 3, _, _ => decide
      | 4, _, _ => decide
      | 5, _, _ => decide
      | 6, _, _ => decide
      | 7, _, _ => decide
    have hs : 128 * (256 : Int) ^ (k + 1 - 1) = 128 * 256 ^ (k - 1) * 256 := by
      obtain ⟨m, rfl⟩ : ∃ m, k = m + 1 := ⟨k - 1, by omega⟩
      simp only [Nat.add_sub_cancel]
      rw [Int.pow_succ]
      omega
    have Hs := hide hs; clear hs
    generalize hq : (256 : Int) ^ (k - 1) = q at *
    have Hq := hide hq; clear hq
    by_cases hlt : k < j
    · obtain ⟨q0, q1⟩ := hb hlt
      clear hb
      go_wp2
      go_round
      case rel => exact ⟨k + 1, by omega, by omega, by go_num, by rw [Hs.out]⟩
      case measure => simp [intOf]; omega
    · obtain rfl : k = j := by omega
      clear hb
      go_wp2
      go_ret
      exact ⟨reti (by rw [Hq.out]), rfl⟩
theorem Uint_no (A : Option Addr) (n c : Nat) (off k : Int) (w : World) (h : k = 1 ∨ k = 4 ∨ k = 8) (hn : n ≤ 9223372036854775807) (h1 : off < 0 ∨ (n : Int) < off + k) :
    Calls Try.prog 19 #[.slice A n c, .int .i64 off, .int .i64 k] w fun e w' => e = .returned (.tuple #[.int .u64 0, .bool false]) ∧ w = w' := by
  have hk : 1 ≤ k ∧ k ≤ 8 := by omega
  obtain ⟨hk1, hk2⟩ := hk
  clear h
  by_cases h0 : off < 0
  · clear h1
    go_enter Try.func19, Try.ntmps19
    go_wp2
    go_ret2
    exact ⟨rfl, rfl⟩
  · have h2 : (n : Int) - k < off := by omega
    clear h1
    go_enter Try.func19, Try.ntmps19
    go_wp2
    go_ret2
    exact ⟨rfl, rfl⟩
theorem Uint_yes (A : Option Addr) (n c : Nat) (l : List Int) (off k : Int) (w : World) (h : k = 1 ∨ k = 4 ∨ k = 8) (hn : n ≤ 9223372036854775807) (hoff : 0 ≤ off) (h1 : off + k ≤ n)
    (hr : Rd w A n (l.map (Value.int .u8))) (hl : Bytes l) :
    Calls Try.prog 19 #[.slice A n c, .int .i64 off, .int .i64 k] w fun e w' => e = .returned (.tuple #[.int .u64 (uval (fld l off.toNat k.toNat)), .bool true]) ∧ w = w' := by
  obtain ⟨off, rfl⟩ := Int.eq_ofNat_of_zero_le hoff
  obtain ⟨k, rfl⟩ : ∃ j : Nat, k = j := ⟨k.toNat, by omega⟩
  clear hoff
  simp only [Int.toNat_natCast]
  have hk : 1 ≤ k ∧ k ≤ 8 := by omega
  obtain ⟨hk1, hk2⟩ := hk
  clear h
  have hlen : l.length = n := by simpa using hr.len
  have Hlen := hide hlen; clear hlen
  obtain ⟨ad, rfl, -⟩ := hr.int (i := off) (by omega)
  have hno : ¬ ((n : Int) - k < off) := by omega
  go_enter Try.func19, Try.ntmps19
  go_wp2
  go_loop [8, 9] (fun u i => ∃ j : Nat, j ≤ k ∧ i = .int .i64 j ∧ u = .int .u64 (uval (fld l off j))) (fun _ i => k - (intOf i).toNat)
  case atStart => exact ⟨0, by omega, rfl, by simp [fld_zero, uval]⟩
  case round =>
    obtain ⟨j, hj, rfl, rfl⟩ := hrel
    by_cases hlt : j < k
    · obtain ⟨ad', e, hc⟩ := hr.int (i := off + j) (by omega)
      cases e
      obtain ⟨b0, b1⟩ := hl (off + j)
      have hst := hide (fld_step l off j (by rw [Hlen.out]; omega))
      obtain ⟨u0, u1⟩ := uval_bd7 (fld l off j) (fld_bytes hl _ _) (by rw [fld_len _ _ _ (by rw [Hlen.out]; omega)]; omega)
      go_wp2
      go_round
      case rel => exact ⟨j + 1, by omega, by go_num, by rw [hst.out, uval_snoc]⟩
      case measure => simp [intOf]; omega
    · obtain rfl : j = k := by omega
      go_wp2
      go_ret2
      exact ⟨rfl, rfl⟩
theorem halfV_bd (k : Int) (h : k = 1 ∨ k = 4 ∨ k = 8) : 128 ≤ halfV k ∧ halfV k ≤ 9223372036854775808 := by
  rcases h with rfl | rfl | rfl <;> simp [halfV]
theorem Int_no (A : Option Addr) (n c : Nat) (off k : Int) (w : World) (h : k = 1 ∨ k = 4 ∨ k = 8) (hn : n ≤ 9223372036854775807) (h1 : off < 0 ∨ (n : Int) < off + k) :
    Calls Try.prog 20 #[.slice A n c, .int .i64 off, .int .i64 k] w fun e w' => e = .returned (.tuple #[.int .i64 0, .bool false]) ∧ w = w' := by
  have H1 := hide h1; clear h1
  have hb := halfV_bd k h
  obtain ⟨q0, q1⟩ := hb
  have H := hide h; clear h
  have C := hide (fun w => half k w H.out)
  generalize halfV k = q at *
  go_enter Try.func20, Try.ntmps20
  go_wp2_with (first
    | (go_at_call 19; refine (Uint_no _ _ _ _ _ _ H.out hn H1.out).mono ?_; rintro e w' ⟨rfl, rfl⟩)
    | (go_at_call 27; refine (C.out _).mono ?_; rintro e w' ⟨rfl, rfl⟩))
  go_ret2
  exact ⟨rfl, rfl⟩
theorem Int_yes (A : Option Addr) (n c : Nat) (l : List Int) (off k : Int) (w : World) (h : k = 1 ∨ k = 4 ∨ k = 8) (hn : n ≤ 9223372036854775807) (hoff : 0 ≤ off) (h1 : off + k ≤ n)
    (hr : Rd w A n (l.map (Value.int .u8))) (hl : Bytes l) :
    Calls Try.prog 20 #[.slice A n c, .int .i64 off, .int .i64 k] w fun e w' => e = .returned (.tuple #[.int .i64 (sgn k (uval (fld l off.toNat k.toNat))), .bool true]) ∧ w = w' := by
  have hlen : l.length = n := by simpa using hr.len
  have hb := uval_bd (fld l off.toNat k.toNat) (fld_bytes hl _ _)
  rw [fld_len _ _ _ (by omega)] at hb
  have hb2 : uval (fld l off.toNat k.toNat) < 2 * halfV k := by
    rcases h with rfl | rfl | rfl <;> simp [halfV] <;> simpa using hb.2
  obtain ⟨u0, -⟩ := hb
  have hb := halfV_bd k h
  obtain ⟨q0, q1⟩ := hb
  have U := Uint_yes A n c l off k w h hn hoff h1 hr hl
  have C := hide (fun w => half k w h)
  generalize uval (fld l off.toNat k.toNat) = u at *
  have U' := hide U; clear U
  have hlo : u < halfV k → sgn k u = u := fun hu => sgn_lo k u h u0 (by simpa [halfV] using hu)
  have hhi : halfV k ≤ u → sgn k u = u - halfV k - (halfV k - 1) - 1 := fun hu => by
    rcases h with rfl | rfl | rfl <;> simp [halfV, sgn] at hu hb2 ⊢ <;> omega
  have Hlo := hide hlo; clear hlo
  have Hhi := hide hhi; clear hhi
  clear h hlen
  generalize halfV k = q at *
  by_cases hu : q ≤ u
  · have e := hide (Hhi.out hu)
    go_enter Try.func20, Try.ntmps20
    go_wp2_with (first
      | (go_at_call 19; refine U'.out.mono ?_; rintro e w' ⟨rfl, rfl⟩)
      | (go_at_call 27; refine (C.out _).mono ?_; rintro e w' ⟨rfl, rfl⟩))
    go_ret2
    exact ⟨retib (by rw [e.out]) rfl, rfl⟩
  · have e := hide (Hlo.out (by omega))
    go_enter Try.func20, Try.ntmps20
    go_wp2_with (first
      | (go_at_call 19; refine U'.out.mono ?_; rintro e w' ⟨rfl, rfl⟩)
      | (go_at_call 27; refine (C.out _).mono ?_; rintro e w' ⟨rfl, rfl⟩))
    go_ret2
    exact ⟨retib (by rw [e.out]) rfl, rfl⟩
/-- two slices that read the same numbers are the same. -/
theorem Same (A A' : Option Addr) (n c n' c' : Nat) (l : List Int) (w : World) (hn : n ≤ 9223372036854775807) (hr : Rd w A n (l.map (Value.int .u8))) (hr' : Rd w A' n' (l.map (Value.int .u8))) :
    Calls Try.prog 11 #[.slice A n c, .slice A' n' c'] w fun e w' => e = .returned (.bool true) ∧ Below w.heap.size w w' := by
  obtain rfl : n' = n := by rw [← hr.len, ← hr'.len]
  go_enter Try.func11, Try.ntmps11
  go_wp2
  go_loopw [5] (fun i wr => ∃ k : Nat, k ≤ n' ∧ i = .int .i64 (k : Nat) ∧ Below w.heap.size w wr) (fun i _ => n' - (intOf i).toNat)
  case atStart => exact ⟨0, by omega, rfl, Below.refl _ _⟩
  case round =>
    obtain ⟨k, hk, rfl, hb⟩ := hrel
    by_cases hlt : k < n'
    · obtain ⟨ad, rfl, hc⟩ := (hr.below hb).int hlt
      obtain ⟨ad', rfl, hc'⟩ := (hr'.below hb).int hlt
      go_wp2
      go_quiet (fail)
      go_wp2
      go_roundw
      case rel => exact ⟨k + 1, by omega, by go_num, bel_drewN hb _⟩
      case measure => simp [intOf]; omega
    · go_wp2
      go_ret
      exact ⟨rfl, hb⟩
end r1_
end Go.Proofs.Ytldkfmbcinmofaa
