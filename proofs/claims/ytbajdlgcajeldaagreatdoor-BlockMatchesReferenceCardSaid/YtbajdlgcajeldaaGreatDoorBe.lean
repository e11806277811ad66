/-
  CONTRACTS OF PACKAGE bigendian: what each function returns, for widths 1, 4 and 8, and that it writes nothing that was there.
-/
import Derived.Test.YtbajdlgcajeldaaGreatDoorRows
import Derived.Test.YtbajdlgcajeldaaGreatDoorBase2
namespace Go.Proofs.YtbajdlgcajeldaaGreatDoor
open Go.ChangeShapes Go.WideShapes Go.ChangeAt Go.RowKit
set_option linter.unusedVariables false
set_option maxRecDepth 100000

theorem elU8 : ElT Tryz.prog 22 5 (.int .u8 0) 1 := ⟨Tryz.underlying22, by kernel_rfl, rfl⟩

namespace be_
theorem isWidth (n : Int) (w : World) (h : n = 1 ∨ n = 4 ∨ n = 8) : Calls Tryz.prog 77 #[.int .i64 n] w fun e w' => e = .returned (.bool true) ∧ w = w' := by
  rcases h with rfl | rfl | rfl
  all_goals
    go_enter Tryz.func77, Tryz.ntmps77
    go_wp2
    go_ret
    exact ⟨rfl, rfl⟩
theorem exists_yes (A : Option Addr) (n c : Nat) (off k : Int) (w : World) (h : k = 1 ∨ k = 4 ∨ k = 8) (hn : n ≤ 9223372036854775807) (h0 : 0 ≤ off) (h1 : off + k ≤ n) :
    Calls Tryz.prog 90 #[.slice A n c, .int .i64 off, .int .i64 k] w fun e w' => e = .returned (.bool true) ∧ w = w' := by
  have hk : 1 ≤ k ∧ k ≤ 8 := by omega
  obtain ⟨hk1, hk2⟩ := hk
  have H := hide h; clear h
  go_enter Tryz.func90, Tryz.ntmps90
  go_wp2_with (go_at_call 77; refine (isWidth _ _ H.out).mono ?_; rintro e w' ⟨rfl, rfl⟩)
  go_ret
  exact ⟨retb (by simp; omega), rfl⟩
theorem exists_no (A : Option Addr) (n c : Nat) (off k : Int) (w : World) (h : k = 1 ∨ k = 4 ∨ k = 8) (hn : n ≤ 9223372036854775807) (h1 : off < 0 ∨ (n : Int) < off + k) :
    Calls Tryz.prog 90 #[.slice A n c, .int .i64 off, .int .i64 k] w fun e w' => e = .returned (.bool false) ∧ w = w' := by
  have hk : 1 ≤ k ∧ k ≤ 8 := by omega
  obtain ⟨hk1, hk2⟩ := hk
  have H := hide h; clear h
  by_cases h0 : off < 0
  · clear h1
    go_enter Tryz.func90, Tryz.ntmps90
    go_wp2_with (go_at_call 77; refine (isWidth _ _ H.out).mono ?_; rintro e w' ⟨rfl, rfl⟩)
    go_ret
    exact ⟨rfl, rfl⟩
  · have h2 : (n : Int) < off + k := by omega
    clear h1
    go_enter Tryz.func90, Tryz.ntmps90
    go_wp2_with (go_at_call 77; refine (isWidth _ _ H.out).mono ?_; rintro e w' ⟨rfl, rfl⟩)
    go_ret
    exact ⟨retb (by simp; omega), rfl⟩
theorem signed (u : Int) (k : Int) (w : World) (h0 : 0 ≤ u) (h1 : u < 18446744073709551616) (hn : k = 1 ∨ k = 4 ∨ k = 8) :
    Calls Tryz.prog 85 #[.int .u64 u, .int .i64 k] w fun e w' => e = .returned (.int .i64 (sgn k u)) ∧ w = w' := by
  rcases hn with rfl | rfl | rfl
  all_goals
    go_enter Tryz.func85, Tryz.ntmps85
    go_wp2
    go_ret
    refine ⟨reti ?_, rfl⟩
    simp [sgn, wrap64, IntKind.wrap, IntKind.bits, IntKind.signed] <;> omega
theorem Uint_no (A : Option Addr) (n c : Nat) (off k : Int) (w : World) (h : k = 1 ∨ k = 4 ∨ k = 8) (hn : n ≤ 9223372036854775807) (h1 : off < 0 ∨ (n : Int) < off + k) :
    Calls Tryz.prog 84 #[.slice A n c, .int .i64 off, .int .i64 k] w fun e w' => e = .returned (.tuple #[.int .u64 0, .bool false]) ∧ w = w' := by
  have H := hide h; clear h
  have H1 := hide h1; clear h1
  go_enter Tryz.func84, Tryz.ntmps84
  go_wp2_with (go_at_call 90; refine (exists_no _ _ _ _ _ _ H.out hn H1.out).mono ?_; rintro e w' ⟨rfl, rfl⟩)
  go_ret2
  exact ⟨rfl, rfl⟩
theorem Uint_yes (A : Option Addr) (n c : Nat) (l : List Int) (off k : Int) (w : World) (h : k = 1 ∨ k = 4 ∨ k = 8) (hn : n ≤ 9223372036854775807) (hoff : 0 ≤ off) (h1 : off + k ≤ n)
    (hr : Rd w A n (l.map (Value.int .u8))) (hl : Bytes l) :
    Calls Tryz.prog 84 #[.slice A n c, .int .i64 off, .int .i64 k] w fun e w' => e = .returned (.tuple #[.int .u64 (uval (fld l off.toNat k.toNat)), .bool true]) ∧ w = w' := by
  obtain ⟨off, rfl⟩ := Int.eq_ofNat_of_zero_le hoff
  obtain ⟨k, rfl⟩ : ∃ j : Nat, k = j := ⟨k.toNat, by omega⟩
  clear hoff
  simp only [Int.toNat_natCast]
  have hk : 1 ≤ k ∧ k ≤ 8 := by omega
  obtain ⟨hk1, hk2⟩ := hk
  have H := hide h; clear h
  have hlen : l.length = n := by simpa using hr.len
  have Hlen := hide hlen; clear hlen
  obtain ⟨ad, rfl, -⟩ := hr.int (i := off) (by omega)
  go_enter Tryz.func84, Tryz.ntmps84
  go_wp2_with (go_at_call 90; refine (exists_yes _ _ _ _ _ _ H.out hn (by omega) (by omega)).mono ?_; rintro e w' ⟨rfl, rfl⟩)
  go_loop [8, 16] (fun u i => ∃ j : Nat, j ≤ k ∧ i = .int .i64 j ∧ u = .int .u64 (uval (fld l off j))) (fun _ i => k - (intOf i).toNat)
  case atStart => exact ⟨0, by omega, rfl, by simp [fld_zero, uval]⟩
  case round =>
    obtain ⟨j, hj, rfl, rfl⟩ := hrel
    by_cases hlt : j < k
    · obtain ⟨ad', e, hc⟩ := hr.int (i := off + j) (by omega)
      cases e
      obtain ⟨b0, b1⟩ := hl (off + j)
      have hst := hide (fld_step l off j (by rw [Hlen.out]; omega))
      obtain ⟨u0, u1⟩ := uval_bd7 (fld l off j) (fld_bytes hl _ _) (by rw [fld_len _ _ _ (by rw [Hlen.out]; omega)]; omega)
      have hso := hide (shl_or _ _ u0 u1 b0 b1)
      go_wp2
      go_round
      case rel => exact ⟨j + 1, by omega, by go_num, by rw [hst.out, uval_snoc, hso.out]⟩
      case measure => simp [intOf]; omega
    · obtain rfl : j = k := by omega
      go_wp2
      go_ret2
      exact ⟨rfl, rfl⟩
theorem Int_no (A : Option Addr) (n c : Nat) (off k : Int) (w : World) (h : k = 1 ∨ k = 4 ∨ k = 8) (hn : n ≤ 9223372036854775807) (h1 : off < 0 ∨ (n : Int) < off + k) :
    Calls Tryz.prog 75 #[.slice A n c, .int .i64 off, .int .i64 k] w fun e w' => e = .returned (.tuple #[.int .i64 0, .bool false]) ∧ w = w' := by
  have H := hide h; clear h
  have H1 := hide h1; clear h1
  go_enter Tryz.func75, Tryz.ntmps75
  go_wp2_with (go_at_call 84; refine (Uint_no _ _ _ _ _ _ H.out hn H1.out).mono ?_; rintro e w' ⟨rfl, rfl⟩)
  go_ret2
  exact ⟨rfl, rfl⟩
theorem Int_yes (A : Option Addr) (n c : Nat) (l : List Int) (off k : Int) (w : World) (h : k = 1 ∨ k = 4 ∨ k = 8) (hn : n ≤ 9223372036854775807) (hoff : 0 ≤ off) (h1 : off + k ≤ n)
    (hr : Rd w A n (l.map (Value.int .u8))) (hl : Bytes l) :
    Calls Tryz.prog 75 #[.slice A n c, .int .i64 off, .int .i64 k] w fun e w' => e = .returned (.tuple #[.int .i64 (sgn k (uval (fld l off.toNat k.toNat))), .bool true]) ∧ w = w' := by
  have hb := uval_bd8 (fld l off.toNat k.toNat) (fld_bytes hl _ _) (by simp [fld]; omega)
  obtain ⟨u0, u1⟩ := hb
  have H := hide h; clear h
  have U := Uint_yes A n c l off k w H.out hn hoff h1 hr hl
  generalize uval (fld l off.toNat k.toNat) = u at *
  have U' := hide U; clear U
  go_enter Tryz.func75, Tryz.ntmps75
  go_wp2_with (first
    | (go_at_call 84; refine U'.out.mono ?_; rintro e w' ⟨rfl, rfl⟩)
    | (go_at_call 85; refine (signed _ _ _ u0 u1 H.out).mono ?_; rintro e w' ⟨rfl, rfl⟩))
  go_ret2
  exact ⟨rfl, rfl⟩
theorem Uint_is {A : Option Addr} {n c : Nat} {l : List Int} {off k : Int} {w : World} (v : Int) (h : k = 1 ∨ k = 4 ∨ k = 8) (hn : n ≤ 9223372036854775807) (hoff : 0 ≤ off) (h1 : off + k ≤ n)
    (hr : Rd w A n (l.map (Value.int .u8))) (hl : Bytes l) (hv : uval (fld l off.toNat k.toNat) = v) :
    Calls Tryz.prog 84 #[.slice A n c, .int .i64 off, .int .i64 k] w fun e w' => e = .returned (.tuple #[.int .u64 v, .bool true]) ∧ w = w' := by
  subst hv
  exact Uint_yes A n c l off k w h hn hoff h1 hr hl
theorem Uint_e {A : Option Addr} {n c : Nat} {l : List Int} {off k : Int} {w : World} (v : Int) (b : Bool) (h : k = 1 ∨ k = 4 ∨ k = 8) (hn : n ≤ 9223372036854775807)
    (hr : Rd w A n (l.map (Value.int .u8))) (hl : Bytes l) (hv : Fe l n off k v b) :
    Calls Tryz.prog 84 #[.slice A n c, .int .i64 off, .int .i64 k] w fun e w' => e = .returned (.tuple #[.int .u64 v, .bool b]) ∧ w = w' := by
  rcases hv with ⟨rfl, h1, h2, rfl⟩ | ⟨rfl, h1, rfl⟩
  · exact Uint_yes A n c l off k w h hn h1 h2 hr hl
  · exact Uint_no A n c off k w h hn h1
theorem Int_is {A : Option Addr} {n c : Nat} {l : List Int} {off k : Int} {w : World} (v : Int) (h : k = 1 ∨ k = 4 ∨ k = 8) (hn : n ≤ 9223372036854775807) (hoff : 0 ≤ off) (h1 : off + k ≤ n)
    (hr : Rd w A n (l.map (Value.int .u8))) (hl : Bytes l) (hv : sgn k (uval (fld l off.toNat k.toNat)) = v) :
    Calls Tryz.prog 75 #[.slice A n c, .int .i64 off, .int .i64 k] w fun e w' => e = .returned (.tuple #[.int .i64 v, .bool true]) ∧ w = w' := by
  subst hv
  exact Int_yes A n c l off k w h hn hoff h1 hr hl
theorem Append (A : Option Addr) (n c : Nat) (l : List Int) (k v : Int) (w : World) (h : k = 1 ∨ k = 4 ∨ k = 8) (hn : n ≤ 1000000) (hr : Rd w A n (l.map (Value.int .u8))) (hv0 : 0 ≤ v) (hv1 : v < 18446744073709551616) :
    Calls Tryz.prog 65 #[.slice A n c, .int .i64 k, .int .u64 v] w fun e w' => ∃ A' c', e = .returned (.slice A' (n + k.toNat) c') ∧
      Ow w' w.heap.size 5 A' (n + k.toNat) c' ((l ++ be k.toNat v).map (Value.int .u8)) ∧ Below w.heap.size w w' := by
  obtain ⟨j, rfl⟩ : ∃ j : Nat, k = j := ⟨k.toNat, by omega⟩
  have hk : 1 ≤ j ∧ j ≤ 8 := by omega
  obtain ⟨hk1, hk2⟩ := hk
  simp only [Int.toNat_natCast]
  have Hh := hide h; clear h
  have hlen : l.length = n := by simpa using hr.len
  have Hlen := hide hlen; clear hlen
  have Hone := hide (oneCells .u8 l)
  go_enter Tryz.func65, Tryz.ntmps65
  go_wp2_with (first
    | (go_at_call 77; refine (isWidth _ _ (Hh.out)).mono ?_; rintro e w' ⟨rfl, rfl⟩)
    | (refine mk (n := n) (k := n + j) elU8 (Below.refl w.heap.size _) (Nat.le_refl _) (Nat.le_refl _) rfl (.tmp 13) (.tmp 17) rfl .i64 .i64 _ _ rfl rfl (by omega) (by omega) (by omega) (by omega) (by simp [maxLen]; omega) ?_; intro w1 ho1 hb1)
    | (refine cp elU8 ho1 hb1 (Nat.le_refl _) (hr.below hb1) (Nat.le_refl _) (.tmp 19) (.tmp 20) rfl rfl rfl rfl Hone.out ?_; intro w2 ho2 hb2))
  go_loopw [7, 23] (fun out i wr => ∃ k A' c', k ≤ j ∧ i = .int .i64 (k : Nat) ∧ out = .slice A' (n + k) c' ∧ Ow wr w.heap.size 5 A' (n+k) c' ((l ++ (be j v).take k).map (Value.int .u8)) ∧ Below w.heap.size w wr) (fun _ i _ => j - (intOf i).toNat)
  case atStart => exact ⟨0, _, _, by omega, rfl, rfl, by simpa [Hlen.out] using ho2, hb2⟩
  case round =>
    obtain ⟨k, A', c', hk, rfl, rfl, ho, hb⟩ := hrel
    by_cases hlt : k < j
    · have hst := hide (app_step l j v k hlt)
      go_wp2_with (refine ap1 elU8 ho hb (Nat.le_refl _) (.tmp 26) (.tmp 35) _ rfl rfl rfl rfl rfl (by simp [maxLen]; omega) (by omega) ?_; intro A2 c2 w3 ho3 hb3)
      rw [hst.out] at ho3
      go_roundw
      case rel => exact ⟨k + 1, _, _, by omega, by go_num, rfl, ho3, hb3⟩
      case measure => simp [intOf]; omega
    · obtain rfl : k = j := by omega
      rw [List.take_of_length_le (by rw [be_len]; omega)] at ho
      go_wp2
      go_ret
      exact ⟨_, _, rfl, by simpa using ho, hb⟩
end be_
end Go.Proofs.YtbajdlgcajeldaaGreatDoor
