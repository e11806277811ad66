/-
  CONTRACTS OF PACKAGE zoneinforef01 (the reference of layer 1) for widths 1, 4 and 8.
-/
import Derived.Test.YtbajdlgcajeldaaGreatDoorBe
import Derived.Test.YtbajdlgcajeldaaGreatDoorSame1
namespace Go.Proofs.YtbajdlgcajeldaaGreatDoor
open Go.ChangeShapes Go.WideShapes Go.ChangeAt Go.RowKit
set_option linter.unusedVariables false
namespace r1_
def halfV (n : Int) : Int := if n = 1 then 128 else if n = 4 then 2147483648 else 9223372036854775808
theorem half (n : Int) (w : World) (h : n = 1 ∨ n = 4 ∨ n = 8) : Calls Tryz.prog 62 #[.int .i64 n] w fun e w' => e = .returned (.int .u64 (halfV n)) ∧ w = w' := by
  obtain ⟨j, rfl⟩ : ∃ j : Nat, n = j := ⟨n.toNat, by omega⟩
  have hj : 1 ≤ j ∧ j ≤ 8 := by omega
  obtain ⟨hj1, hj2⟩ := hj
  have e : halfV j = 128 * 256 ^ (j - 1) := by
    rcases (show j = 1 ∨ j = 4 ∨ j = 8 by omega) with rfl | rfl | rfl <;> simp [halfV]
  rw [e]
  clear h e
  go_enter Tryz.func62, Tryz.ntmps62
  go_wp2
  go_loop [3, 4] (fun p i => ∃ k : Nat, 1 ≤ k ∧ k ≤ j ∧ i = .int .i64 k ∧ p = .int .u64 (128 * 256 ^ (k - 1))) (fun _ i => j - (intOf i).toNat)
  case atStart => exact ⟨1, by omega, by omega, rfl, rfl⟩
  case round =>
    obtain ⟨k, hk1, hk2, rfl, rfl⟩ := hrel
    have hb : k < j → 0 ≤ (256 : Int) ^ (k - 1) ∧ (256 : Int) ^ (k - 1) ≤ 281474976710656 := by
      intro hkj
      match k, hk1, (show k ≤ 7 by omega) with
      | 1, _, _ => decide
      | 2, _, _ => decide
      | 3, _, _ => decide
      | 4, _, _ => decide
      | 5, _, _ => decide
      | 6, _, _ => decide
      | 7, _, _ => decide
    have hs : 128 * (256 : Int) ^ (k + 1 - 1) = 128 * 256 ^ (k - 1) * 256 := by
      obtain ⟨m, rfl⟩ : ∃ m, k = m + 1 := ⟨k - 1, by omega⟩
      simp only [Nat.add_sub_cancel]
      rw [Int.pow_succ]
      omega
    have Hs := hide hs; clear hs
    generalize hq : (256 : Int) ^ (k - 1) = q at *
    have Hq := hide hq; clear hq
    by_cases hlt : k < j
    · obtain ⟨q0, q1⟩ := hb hlt
      clear hb
      go_wp2
      go_round
      case rel => exact ⟨k + 1, by omega, by omega, by go_num, by rw [Hs.out]⟩
      case measure => simp [intOf]; omega
    · obtain rfl : k = j := by omega
      clear hb
      go_wp2
      go_ret
      exact ⟨reti (by rw [Hq.out]), rfl⟩
theorem Uint_no (A : Option Addr) (n c : Nat) (off k : Int) (w : World) (h : k = 1 ∨ k = 4 ∨ k = 8) (hn : n ≤ 9223372036854775807) (h1 : off < 0 ∨ (n : Int) < off + k) :
    Calls Tryz.prog 76 #[.slice A n c, .int .i64 off, .int .i64 k] w fun e w' => e = .returned (.tuple #[.int .u64 0, .bool false]) ∧ w = w' := by
  have hk : 1 ≤ k ∧ k ≤ 8 := by omega
  obtain ⟨hk1, hk2⟩ := hk
  clear h
  by_cases h0 : off < 0
  · clear h1
    go_enter Tryz.func76, Tryz.ntmps76
    go_wp2
    go_ret2
    exact ⟨rfl, rfl⟩
  · have h2 : (n : Int) - k < off := by omega
    clear h1
    go_enter Tryz.func76, Tryz.ntmps76
    go_wp2
    go_ret2
    exact ⟨rfl, rfl⟩
theorem Uint_yes (A : Option Addr) (n c : Nat) (l : List Int) (off k : Int) (w : World) (h : k = 1 ∨ k = 4 ∨ k = 8) (hn : n ≤ 9223372036854775807) (hoff : 0 ≤ off) (h1 : off + k ≤ n)
    (hr : Rd w A n (l.map (Value.int .u8))) (hl : Bytes l) :
    Calls Tryz.prog 76 #[.slice A n c, .int .i64 off, .int .i64 k] w fun e w' => e = .returned (.tuple #[.int .u64 (uval (fld l off.toNat k.toNat)), .bool true]) ∧ w = w' := by
  obtain ⟨off, rfl⟩ := Int.eq_ofNat_of_zero_le hoff
  obtain ⟨k, rfl⟩ : ∃ j : Nat, k = j := ⟨k.toNat, by omega⟩
  clear hoff
  simp only [Int.toNat_natCast]
  have hk : 1 ≤ k ∧ k ≤ 8 := by omega
  obtain ⟨hk1, hk2⟩ := hk
  clear h
  have hlen : l.length = n := by simpa using hr.len
  have Hlen := hide hlen; clear hlen
  obtain ⟨ad, rfl, -⟩ := hr.int (i := off) (by omega)
  have hno : ¬ ((n : Int) - k < off) := by omega
  go_enter Tryz.func76, Tryz.ntmps76
  go_wp2
  go_loop [8, 9] (fun u i => ∃ j : Nat, j ≤ k ∧ i = .int .i64 j ∧ u = .int .u64 (uval (fld l off j))) (fun _ i => k - (intOf i).toNat)
  case atStart => exact ⟨0, by omega, rfl, by simp [fld_zero, uval]⟩
  case round =>
    obtain ⟨j, hj, rfl, rfl⟩ := hrel
    by_cases hlt : j < k
    · obtain ⟨ad', e, hc⟩ := hr.int (i := off + j) (by omega)
      cases e
      obtain ⟨b0, b1⟩ := hl (off + j)
      have hst := hide (fld_step l off j (by rw [Hlen.out]; omega))
      obtain ⟨u0, u1⟩ := uval_bd7 (fld l off j) (fld_bytes hl _ _) (by rw [fld_len _ _ _ (by rw [Hlen.out]; omega)]; omega)
      go_wp2
      go_round
      case rel => exact ⟨j + 1, by omega, by go_num, by rw [hst.out, uval_snoc]⟩
      case measure => simp [intOf]; omega
    · obtain rfl : j = k := by omega
      go_wp2
      go_ret2
      exact ⟨rfl, rfl⟩
theorem halfV_bd (k : Int) (h : k = 1 ∨ k = 4 ∨ k = 8) : 128 ≤ halfV k ∧ halfV k ≤ 9223372036854775808 := by
  rcases h with rfl | rfl | rfl <;> simp [halfV]
theorem Int_no (A : Option Addr) (n c : Nat) (off k : Int) (w : World) (h : k = 1 ∨ k = 4 ∨ k = 8) (hn : n ≤ 9223372036854775807) (h1 : off < 0 ∨ (n : Int) < off + k) :
    Calls Tryz.prog 61 #[.slice A n c, .int .i64 off, .int .i64 k] w fun e w' => e = .returned (.tuple #[.int .i64 0, .bool false]) ∧ w = w' := by
  have H1 := hide h1; clear h1
  have hb := halfV_bd k h
  obtain ⟨q0, q1⟩ := hb
  have H := hide h; clear h
  have C := hide (fun w => half k w H.out)
  generalize halfV k = q at *
  go_enter Tryz.func61, Tryz.ntmps61
  go_wp2_with (first
    | (go_at_call 76; refine (Uint_no _ _ _ _ _ _ H.out hn H1.out).mono ?_; rintro e w' ⟨rfl, rfl⟩)
    | (go_at_call 62; refine (C.out _).mono ?_; rintro e w' ⟨rfl, rfl⟩))
  go_ret2
  exact ⟨rfl, rfl⟩
theorem Int_yes (A : Option Addr) (n c : Nat) (l : List Int) (off k : Int) (w : World) (h : k = 1 ∨ k = 4 ∨ k = 8) (hn : n ≤ 9223372036854775807) (hoff : 0 ≤ off) (h1 : off + k ≤ n)
    (hr : Rd w A n (l.map (Value.int .u8))) (hl : Bytes l) :
    Calls Tryz.prog 61 #[.slice A n c, .int .i64 off, .int .i64 k] w fun e w' => e = .returned (.tuple #[.int .i64 (sgn k (uval (fld l off.toNat k.toNat))), .bool true]) ∧ w = w' := by
  have hlen : l.length = n := by simpa using hr.len
  have hb := uval_bd (fld l off.toNat k.toNat) (fld_bytes hl _ _)
  rw [fld_len _ _ _ (by omega)] at hb
  have hb2 : uval (fld l off.toNat k.toNat) < 2 * halfV k := by
    rcases h with rfl | rfl | rfl <;> simp [halfV] <;> simpa using hb.2
  obtain ⟨u0, -⟩ := hb
  have hb := halfV_bd k h
  obtain ⟨q0, q1⟩ := hb
  have U := Uint_yes A n c l off k w h hn hoff h1 hr hl
  have C := hide (fun w => half k w h)
  generalize uval (fld l off.toNat k.toNat) = u at *
  have U' := hide U; clear U
  have hlo : u < halfV k → sgn k u = u := fun hu => sgn_lo k u h u0 (by simpa [halfV] using hu)
  have hhi : halfV k ≤ u → sgn k u = u - halfV k - (halfV k - 1) - 1 := fun hu => by
    rcases h with rfl | rfl | rfl <;> simp [halfV, sgn] at hu hb2 ⊢ <;> omega
  have Hlo := hide hlo; clear hlo
  have Hhi := hide hhi; clear hhi
  clear h hlen
  generalize halfV k = q at *
  by_cases hu : q ≤ u
  · have e := hide (Hhi.out hu)
    go_enter Tryz.func61, Tryz.ntmps61
    go_wp2_with (first
      | (go_at_call 76; refine U'.out.mono ?_; rintro e w' ⟨rfl, rfl⟩)
      | (go_at_call 62; refine (C.out _).mono ?_; rintro e w' ⟨rfl, rfl⟩))
    go_ret2
    exact ⟨retib (by rw [e.out]) rfl, rfl⟩
  · have e := hide (Hlo.out (by omega))
    go_enter Tryz.func61, Tryz.ntmps61
    go_wp2_with (first
      | (go_at_call 76; refine U'.out.mono ?_; rintro e w' ⟨rfl, rfl⟩)
      | (go_at_call 62; refine (C.out _).mono ?_; rintro e w' ⟨rfl, rfl⟩))
    go_ret2
    exact ⟨retib (by rw [e.out]) rfl, rfl⟩
theorem Fits (v k : Int) (w : World) (h : k = 1 ∨ k = 4 ∨ k = 8) (hv0 : -9223372036854775808 ≤ v) (hv1 : v < 9223372036854775808) :
    Calls Tryz.prog 42 #[.int .i64 v, .int .i64 k] w fun e w' => e = .returned (.bool (fitsB k v)) ∧ w = w' := by
  rcases h with rfl | rfl | rfl
  · go_enter Tryz.func42, Tryz.ntmps42
    go_wp2_with (go_at_call 62; refine (half 1 _ (by omega)).mono ?_; rintro e w' ⟨rfl, rfl⟩; rw [show halfV 1 = 128 from rfl])
    all_goals go_ret
    all_goals exact ⟨retb (by rw [Bool.eq_iff_iff]; simp [fitsB]; try omega), rfl⟩
  · go_enter Tryz.func42, Tryz.ntmps42
    go_wp2_with (go_at_call 62; refine (half 4 _ (by omega)).mono ?_; rintro e w' ⟨rfl, rfl⟩; rw [show halfV 4 = 2147483648 from rfl])
    all_goals go_ret
    all_goals exact ⟨retb (by rw [Bool.eq_iff_iff]; simp [fitsB]; try omega), rfl⟩
  · go_enter Tryz.func42, Tryz.ntmps42
    go_wp2
    go_ret
    exact ⟨retb (by simp [fitsB]), rfl⟩
theorem Append (A : Option Addr) (n c : Nat) (l : List Int) (k v : Int) (w : World) (h : k = 1 ∨ k = 4 ∨ k = 8) (hn : n ≤ 1000000) (hA : A = none → n = 0 ∧ c = 0) (hr : Rd w A n (l.map (Value.int .u8))) (hv0 : 0 ≤ v) (hv1 : v < 18446744073709551616) :
    Calls Tryz.prog 69 #[.slice A n c, .int .i64 k, .int .u64 v] w fun e w' => ∃ A' c', e = .returned (.slice A' (n + k.toNat) c') ∧
      Ow w' w.heap.size 5 A' (n + k.toNat) c' ((l ++ be k.toNat v).map (Value.int .u8)) ∧ Below w.heap.size w w' := by
  obtain ⟨j, rfl⟩ : ∃ j : Nat, k = j := ⟨k.toNat, by omega⟩
  have hk : 1 ≤ j ∧ j ≤ 8 := by omega
  obtain ⟨hk1, hk2⟩ := hk
  simp only [Int.toNat_natCast]
  clear h
  have HA := hide hA; clear hA
  have hlen : l.length = n := by simpa using hr.len
  have Hlen := hide hlen; clear hlen
  have Hone := hide (oneCells .u8 l)
  have Hbe := hide (oneCells .u8 (be j v))
  go_enter Tryz.func69, Tryz.ntmps69
  go_wp2
  go_loopw [2, 7, 8] (fun x d i wr => ∃ k A' c', k ≤ j ∧ i = .int .i64 (k : Nat) ∧ x = .int .u64 (v / 256 ^ k) ∧ d = .slice A' k c' ∧ Ow wr w.heap.size 5 A' k c' ((be k v).map (Value.int .u8)) ∧ Below w.heap.size w wr) (fun _ _ i _ => j - (intOf i).toNat)
  case atStart => exact ⟨0, _, _, by omega, rfl, by simp, rfl, Ow.lit w 5 [] (by simp), (Below.refl _ _).alloc (Nat.le_refl _) _⟩
  case round =>
    obtain ⟨k, A', c', hk, rfl, rfl, rfl, ho, hb⟩ := hrel
    have hp : (0 : Int) < 256 ^ k := Int.pow_pos (by decide)
    have hq : 0 ≤ v / 256 ^ k ∧ v / 256 ^ k ≤ v := ⟨Int.ediv_nonneg hv0 (by omega), Int.ediv_le_self _ hv0⟩
    obtain ⟨q0, q1⟩ := hq
    have hst := hide (show [Value.int .u8 (v / 256 ^ k % 256)] ++ (be k v).map (Value.int .u8) = (be (k + 1) v).map (Value.int .u8) by rw [be_cons, Int.pow_mul]; rfl)
    have hsd := hide (show v / 256 ^ k / 256 = v / 256 ^ (k + 1) by rw [Int.pow_succ, Int.ediv_ediv_of_nonneg (by omega)])
    generalize hu : v / 256 ^ k = u at *
    have Hu := hide hu; clear hu
    have hq2 : v < 18446744073709551616 := hv1
    by_cases hlt : k < j
    · have hu2 : u < 18446744073709551616 := by omega
      have Hok := hide (oneCells .u8 (be k v))
      have hnil := hide ho.nilcap
      have hoa := hide (ho.alloc (.cells #[Value.int .u8 (u % 256)] 5)).rd
      have hbs := hb.size
      go_wp2_with (refine apn elU8 (Ow.lit wr 5 [Value.int .u8 (u % 256)] (by simp [maxLen])) (hb.alloc hb.size _) hb.size hoa.out (.tmp 18) (.tmp 19) rfl rfl rfl rfl hnil.out Hok.out (by simp [maxLen]; omega) (by simp; omega) ?_; intro A2 c2 w3 ho3 hb3)
      rw [hst.out] at ho3
      have ho4 := hide (ho3.mono hbs)
      go_roundw
      case rel => exact ⟨k + 1, A2, c2, by omega, by go_num, by rw [hsd.out], by rw [Nat.add_comm 1 k], by have h := ho4.out; rw [show [Value.int IntKind.u8 (u % 256)].length + k = k + 1 from Nat.add_comm 1 k] at h; exact h, hb3⟩
      case measure => simp [intOf]; omega
    · obtain rfl : k = j := by omega
      have hnil := hide ho.nilcap
      have hbs := hb.size
      have b0 := hide ((Below.refl wr.heap.size wr).alloc (Nat.le_refl _) (.cells #[] 5))
      go_wp2_with (first
        | (refine apn elU8 (Ow.lit wr 5 [] (by simp)) b0.out (Nat.le_refl _) ((hr.below hb).below b0.out) (.tmp 23) (.tmp 24) rfl rfl rfl rfl HA.out Hone.out (by simp [maxLen]; omega) (by simp; omega) ?_; intro A2 c2 w3 ho3 hb3; simp only [Nat.zero_add, List.nil_append, List.length_nil] at ho3)
        | (refine apn elU8 ho3 hb3 (Nat.le_refl _) (ho.below hb3).rd (.tmp 25) (.tmp 26) rfl rfl rfl rfl hnil.out Hbe.out (by simp [maxLen]; omega) (by simp; omega) ?_; intro A4 c4 w4 ho4 hb4))
      go_ret
      refine ⟨A4, c4, rfl, ?_, bel_next hb hb4⟩
      rw [List.map_append]
      exact ho4.mono hbs
end r1_
end Go.Proofs.YtbajdlgcajeldaaGreatDoor
