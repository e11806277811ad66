/-
  THE WALK OF CursorUintIsTake (zoneinfolaw02): for every input the law returns true and writes nothing that was there. No conditions.
-/
import Derived.Test.YtldkfmbcinmofaaLaw2
namespace Go.Proofs.Ytldkfmbcinmofaa
open Go.ChangeShapes Go.WideShapes Go.ChangeAt Go.RowKit
set_option linter.unusedVariables false
namespace l2_
theorem fld_fld (l : List Int) (p k : Nat) : fld (fld l p k) 0 k = fld l p k := by simp [fld, List.take_take]
theorem r1Uint_is {A : Option Addr} {n c : Nat} {l : List Int} {off k : Int} {w : World} (v : Int) (h : k = 1 ∨ k = 4 ∨ k = 8) (hn : n ≤ 9223372036854775807) (hoff : 0 ≤ off) (h1 : off + k ≤ n)
    (hr : Rd w A n (l.map (Value.int .u8))) (hl : Bytes l) (hv : uval (fld l off.toNat k.toNat) = v) :
    Calls Try.prog 19 #[.slice A n c, .int .i64 off, .int .i64 k] w fun e w' => e = .returned (.tuple #[.int .u64 v, .bool true]) ∧ w = w' := by
  subst hv
  exact r1_.Uint_yes A n c l off k w h hn hoff h1 hr hl
theorem r1Int_is {A : Option Addr} {n c : Nat} {l : List Int} {off k : Int} {w : World} (v : Int) (h : k = 1 ∨ k = 4 ∨ k = 8) (hn : n ≤ 9223372036854775807) (hoff : 0 ≤ off) (h1 : off + k ≤ n)
    (hr : Rd w A n (l.map (Value.int .u8))) (hl : Bytes l) (hv : sgn k (uval (fld l off.toNat k.toNat)) = v) :
    Calls Try.prog 20 #[.slice A n c, .int .i64 off, .int .i64 k] w fun e w' => e = .returned (.tuple #[.int .i64 v, .bool true]) ∧ w = w' := by
  subst hv
  exact r1_.Int_yes A n c l off k w h hn hoff h1 hr hl
/-- what the calls of the law do, whatever the cursor's state. -/
theorem key (A : Option Addr) (n c : Nat) (l : List Int) (p x a : Int) (N : Nat) (hN : (N : Int) = 1 ∨ (N : Int) = 4 ∨ (N : Int) = 8) (hA : A = none → n = 0 ∧ c = 0) (hn : n ≤ c) (hc : c ≤ 9223372036854775807) (hm : n ≤ 2000)
    (h0 : 0 ≤ p) (h1 : p ≤ n) (hx : x ≠ 0 ∨ a = 0) (hl : Bytes l) :
    ∃ (K : Nat) (v s p' x' a' : Int) (ys : List Int) (ok : Bool), (x' ≠ 0 ∨ (x' = 0 ∧ K = N)) ∧ K ≤ 8 ∧
      (∀ w, Rd w A n (l.map (Value.int .u8)) → Calls Try.prog 10 #[cu A n c p x a, .int .i64 N] w fun e w' => ∃ A' c', e = .returned (.tuple #[.slice A' K c', cu A n c p' x' a']) ∧ Ow w' w.heap.size 5 A' K c' (ys.map (Value.int .u8)) ∧ Below w.heap.size w w') ∧
      (∀ w, Rd w A n (l.map (Value.int .u8)) → Calls Try.prog 14 #[cu A n c p x a, .int .i64 N] w fun e w' => e = .returned (.tuple #[.int .u64 v, cu A n c p' x' a']) ∧ Below w.heap.size w w') ∧
      (∀ w, Rd w A n (l.map (Value.int .u8)) → Calls Try.prog 16 #[cu A n c p x a, .int .i64 N] w fun e w' => e = .returned (.tuple #[.int .i64 s, cu A n c p' x' a']) ∧ Below w.heap.size w w') ∧
      (∀ w A' c', Rd w A' K (ys.map (Value.int .u8)) → Calls Try.prog 19 #[.slice A' K c', .int .i64 0, .int .i64 N] w fun e w' => e = .returned (.tuple #[.int .u64 v, .bool ok]) ∧ w = w') ∧
      (∀ w A' c', Rd w A' K (ys.map (Value.int .u8)) → Calls Try.prog 20 #[.slice A' K c', .int .i64 0, .int .i64 N] w fun e w' => e = .returned (.tuple #[.int .i64 s, .bool ok]) ∧ w = w') := by
  by_cases hx0 : x = 0
  · subst hx0
    obtain rfl : a = 0 := by omega
    by_cases hle : p + N ≤ n
    · obtain ⟨P, rfl⟩ := Int.eq_ofNat_of_zero_le h0
      refine ⟨N, uval (fld l P N), sgn N (uval (fld l P N)), P + N, 0, 0, fld l P N, true, .inr ⟨rfl, rfl⟩, by omega, fun w hr => ?_, fun w hr => ?_, fun w hr => ?_, fun w A' c' hr => ?_, fun w A' c' hr => ?_⟩
      · exact cu_.Take_is P N _ rfl rfl (by omega) hA hn hc (by omega) (by omega) hr
      · exact cu_.Uint_is _ _ hN (by omega) h0 hle hr hl (by simp) rfl
      · exact cu_.Int_is _ _ hN (by omega) h0 hle hr hl (by simp) rfl
      · exact r1Uint_is _ hN (by omega) (by omega) (by omega) hr (fld_bytes hl _ _) (by simp [fld_fld])
      · exact r1Int_is _ hN (by omega) (by omega) (by omega) hr (fld_bytes hl _ _) (by simp [fld_fld])
    · refine ⟨0, 0, 0, p, 1, n, [], false, .inl (by omega), by omega, fun w hr => ?_, fun w hr => ?_, fun w hr => ?_, fun w A' c' hr => ?_, fun w A' c' hr => ?_⟩
      · exact cu_.Take_no A n c p 0 N w (by omega) h0 h1 (by omega)
      · exact cu_.Uint_no A n c l p N w hN (by omega) (by omega) hr
      · exact cu_.Int_no A n c l p N w hN (by omega) (by omega) hr
      · exact r1_.Uint_no A' 0 c' 0 N w hN (by omega) (by omega)
      · exact r1_.Int_no A' 0 c' 0 N w hN (by omega) (by omega)
  · refine ⟨0, 0, 0, p, x, a, [], false, .inl hx0, by omega, fun w hr => ?_, fun w hr => ?_, fun w hr => ?_, fun w A' c' hr => ?_, fun w A' c' hr => ?_⟩
    · exact cu_.Take_err A n c p x a N w hx0
    · exact cu_.Uint_err A n c l p x a N w hx0 hr
    · exact cu_.Int_err A n c l p x a N w hx0 hr
    · exact r1_.Uint_no A' 0 c' 0 N w hN (by omega) (by omega)
    · exact r1_.Int_no A' 0 c' 0 N w hN (by omega) (by omega)
set_option maxRecDepth 100000 in
set_option maxHeartbeats 1000000 in
theorem uintIsTake (a0 : Option Addr) (len0 cap0 : Nat) (z0 : List Int) (p x a : Int) (a1 : Int) (w : World) (w0 : IsRw .u8 w a0 len0 cap0 z0) (k0 : (Lit.int .i64 p).wf = true) (k1 : (Lit.int .i64 x).wf = true) (k2 : (Lit.int .i64 a).wf = true) (w1 : (Lit.int .u8 a1).wf = true) :
    Calls Try.prog 6 #[cu a0 len0 cap0 p x a, .int .u8 a1] w fun e w' => e = .returned (.bool true) ∧ Below w.heap.size w w' := by
  obtain ⟨c1, c2⟩ := w0.cap
  have hl : Bytes (z0.take len0) := bytes_of_mem fun x hx => wf_u8 (w0.wf x hx)
  have hr := w0.rd
  have hnil := w0.nil
  obtain ⟨u0, u1⟩ := wf_u8 w1
  clear w0 w1 k0 k1 k2
  generalize z0.take len0 = l at *
  by_cases hval : 0 ≤ p ∧ p ≤ len0 ∧ (x ≠ 0 ∨ a = 0) ∧ len0 ≤ 2000
  · obtain ⟨v0, v1, v2, v3⟩ := hval
    have Hk := hide (fun N hN => key a0 len0 cap0 l p x a N hN hnil c1 c2 v3 v0 v1 v2 hl)
    have V := hide (fun w => r2_.Valid_yes a0 len0 cap0 p x a w v0 v1 v2 v3)
    clear v2 hnil v0 v1
    go_enter Try.func6, Try.ntmps6
    have b2 := hide (Bx.new4 w (.slice a0 len0 cap0) (.int .i64 p) (.int .i64 x) (.int .i64 a) 26)
    go_wp2_with fail
    refine (awake _).mono ?_
    rintro e w1 ⟨rfl, hb⟩
    have b2 := hide (b2.out.below hb)
    have B := hide (bel_next (bl_new _ _) hb)
    clear hb
    obtain ⟨b2a, b2b, b2c, b2d⟩ := b2.out.cells4
    have b2l := b2.out.lt
    go_wp2_with fail
    refine (V.out _).mono ?_
    rintro e w2 ⟨rfl, hb⟩
    have b2 := hide (b2.out.below hb)
    have B := hide (bel_next B.out hb)
    clear hb b2a b2b b2c b2d b2l
    go_wp2_with fail
    refine (r1_.Width _ _ u0 u1).mono ?_
    rintro e w3 ⟨n, rfl, hn, hb⟩
    have b2 := hide (b2.out.below hb)
    have B := hide (bel_next B.out hb)
    obtain ⟨N, rfl⟩ : ∃ N : Nat, n = N := ⟨n.toNat, by omega⟩
    obtain ⟨K, v, s, p', x', a', ys, ok, kx, k8, kT, kU, kI, rU, rI⟩ := Hk.out N hn
    have kT := hide kT
    have kU := hide kU
    have kI := hide kI
    have rU := hide rU
    have rI := hide rI
    have kx := hide kx
    have hr := hr.below B.out
    clear hb hn
    obtain ⟨b2a, b2b, b2c, b2d⟩ := b2.out.cells4
    have b2l := b2.out.lt
    go_wp2_with fail
    refine (kT.out _ hr).mono ?_
    rintro e w4 ⟨A4, c4, rfl, ho, hb⟩
    have b2 := hide (b2.out.below hb)
    have B := hide (bel_next B.out hb)
    have hr := hr.below hb
    have ho := hide ho.rd
    clear hb b2a b2b b2c b2d b2l
    have b7 := hide (Bx.new4 w4 (.slice a0 len0 cap0) (.int .i64 p') (.int .i64 x') (.int .i64 a') 26)
    obtain ⟨b2a, b2b, b2c, b2d⟩ := b2.out.cells4
    have b2l := b2.out.lt
    go_wp2_with fail
    refine (kU.out _ (hr.alloc _)).mono ?_
    rintro e w5 ⟨rfl, hb⟩
    have b2 := hide ((b2.out.alloc _).below hb)
    have b7 := hide (b7.out.below hb)
    have B := hide (bel_next (bl_alloc B.out _) hb)
    have hr := (hr.alloc _).below hb
    have ho := hide ((ho.out.alloc _).below hb)
    clear hb b2a b2b b2c b2d b2l
    have b9 := hide (Bx.new4 w5 (.slice a0 len0 cap0) (.int .i64 p') (.int .i64 x') (.int .i64 a') 26)
    obtain ⟨b2a, b2b, b2c, b2d⟩ := b2.out.cells4
    have b2l := b2.out.lt
    go_wp2_with fail
    refine (kI.out _ (hr.alloc _)).mono ?_
    rintro e w6 ⟨rfl, hb⟩
    have b7 := hide ((b7.out.alloc _).below hb)
    have b9 := hide (b9.out.below hb)
    have B := hide (bel_next (bl_alloc B.out _) hb)
    have hr := (hr.alloc _).below hb
    have ho := hide ((ho.out.alloc _).below hb)
    clear hb b2a b2b b2c b2d b2l b2
    have b11 := hide (Bx.new4 w6 (.slice a0 len0 cap0) (.int .i64 p') (.int .i64 x') (.int .i64 a') 26)
    go_wp2_with fail
    refine (rU.out _ _ _ (ho.out.alloc _)).mono ?_
    rintro e w7 ⟨rfl, rfl⟩
    go_wp2_with fail
    refine (rI.out _ _ _ (ho.out.alloc _)).mono ?_
    rintro e w7 ⟨rfl, rfl⟩
    obtain ⟨b7a, b7b, b7c, b7d⟩ := b7.out.cells4
    have b7l := b7.out.lt
    obtain ⟨b9a, b9b, b9c, b9d⟩ := b9.out.cells4
    have b9l := b9.out.lt
    go_wp2_with fail
    refine (r2_.Same _ _ _ _ _ _ l _ (by omega) (hr.alloc _)).mono ?_
    rintro e w7 ⟨rfl, hb⟩
    have b7 := hide ((b7.out.alloc _).below hb)
    have b9 := hide ((b9.out.alloc _).below hb)
    have b11 := hide (b11.out.below hb)
    have hr := (hr.alloc _).below hb
    have B := hide (bel_next (bl_alloc B.out _) hb)
    clear hb b7a b7b b7c b7d b7l b9a b9b b9c b9d b9l
    obtain ⟨b7a, b7b, b7c, b7d⟩ := b7.out.cells4
    have b7l := b7.out.lt
    obtain ⟨b11a, b11b, b11c, b11d⟩ := b11.out.cells4
    have b11l := b11.out.lt
    go_wp2_with fail
    refine (r2_.Same _ _ _ _ _ _ l _ (by omega) hr).mono ?_
    rintro e w8 ⟨rfl, hb⟩
    have b7 := hide (b7.out.below hb)
    have B := hide (bel_next B.out hb)
    clear hb b7a b7b b7c b7d b7l b11a b11b b11c b11d b11l
    obtain ⟨b7a, b7b, b7c, b7d⟩ := b7.out.cells4
    have b7l := b7.out.lt
    rcases kx.out with kx | ⟨rfl, rfl⟩
    · go_wp2
      go_ret
      exact ⟨rfl, B.out⟩
    · go_wp2
      go_ret
      exact ⟨rfl, B.out⟩
  · have V := hide (fun w => r2_.Valid_no a0 len0 cap0 p x a w hval)
    clear hval hnil
    go_enter Try.func6, Try.ntmps6
    have b2 := hide (Bx.new4 w (.slice a0 len0 cap0) (.int .i64 p) (.int .i64 x) (.int .i64 a) 26)
    go_wp2_with fail
    refine (awake _).mono ?_
    rintro e w1 ⟨rfl, hb⟩
    have b2 := hide (b2.out.below hb)
    have B := hide (bel_next (bl_new _ _) hb)
    clear hb
    obtain ⟨b2a, b2b, b2c, b2d⟩ := b2.out.cells4
    have b2l := b2.out.lt
    go_wp2_with fail
    refine (V.out _).mono ?_
    rintro e w2 ⟨rfl, hb⟩
    have B := hide (bel_next B.out hb)
    clear hb b2a b2b b2c b2d b2l b2
    go_wp2_with fail
    refine (awake _).mono ?_
    rintro e w3 ⟨rfl, hb⟩
    have B := hide (bel_next B.out hb)
    clear hb
    go_wp2
    go_ret
    exact ⟨rfl, B.out⟩
end l2_
end Go.Proofs.Ytldkfmbcinmofaa
