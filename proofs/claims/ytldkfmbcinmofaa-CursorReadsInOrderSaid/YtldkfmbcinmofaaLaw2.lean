/-
  THE WALKS OF THE FOUR LAWS OF LAYER 2 (zoneinfolaw02): for every input the law returns true and writes nothing that was there. No conditions.
-/
import Derived.Test.YtldkfmbcinmofaaExp
namespace Go.Proofs.Ytldkfmbcinmofaa
open Go.ChangeShapes Go.WideShapes Go.ChangeAt Go.RowKit
set_option linter.unusedVariables false
namespace cu_
theorem Take_is {A : Option Addr} {n c : Nat} {xs : List Int} {p k : Int} (P K : Nat) (q : Int) {w : World} (hp : p = P) (hk : k = K) (hq : ((P + K : Nat) : Int) = q) (hA : A = none → n = 0 ∧ c = 0) (hn : n ≤ c) (hc : c ≤ 9223372036854775807) (hm : n ≤ 1000000) (h1 : P + K ≤ n) (hr : Rd w A n (xs.map (Value.int .u8))) :
    Calls Try.prog 10 #[cu A n c p 0 0, .int .i64 k] w fun e w' => ∃ A' c', e = .returned (.tuple #[.slice A' K c', cu A n c q 0 0]) ∧
      Ow w' w.heap.size 5 A' K c' ((fld xs P K).map (Value.int .u8)) ∧ Below w.heap.size w w' := by
  subst hp hk hq
  exact Take_yes A n c xs P K w hA hn hc hm h1 hr
theorem Uint_is {A : Option Addr} {n c : Nat} {l : List Int} {p k : Int} (v q : Int) {w : World} (hk : k = 1 ∨ k = 4 ∨ k = 8) (hn : n ≤ 9223372036854775807) (h0 : 0 ≤ p) (h1 : p + k ≤ n) (hr : Rd w A n (l.map (Value.int .u8))) (hl : Bytes l)
    (hv : uval (fld l p.toNat k.toNat) = v) (hq : p + k = q) :
    Calls Try.prog 14 #[cu A n c p 0 0, .int .i64 k] w fun e w' => e = .returned (.tuple #[.int .u64 v, cu A n c q 0 0]) ∧ Below w.heap.size w w' := by
  subst hv hq
  exact Uint_yes A n c l p k w hk hn h0 h1 hr hl
theorem Uint_not {A : Option Addr} {n c : Nat} {l : List Int} {p k : Int} (N : Int) {w : World} (hk : k = 1 ∨ k = 4 ∨ k = 8) (hn : n ≤ 9223372036854775807) (h1 : p < 0 ∨ n < p + k) (hr : Rd w A n (l.map (Value.int .u8))) (hN : (n : Int) = N) :
    Calls Try.prog 14 #[cu A n c p 0 0, .int .i64 k] w fun e w' => e = .returned (.tuple #[.int .u64 0, cu A n c p 1 N]) ∧ Below w.heap.size w w' := by
  subst hN
  exact Uint_no A n c l p k w hk hn h1 hr
theorem Int_is {A : Option Addr} {n c : Nat} {l : List Int} {p k : Int} (v q : Int) {w : World} (hk : k = 1 ∨ k = 4 ∨ k = 8) (hn : n ≤ 9223372036854775807) (h0 : 0 ≤ p) (h1 : p + k ≤ n) (hr : Rd w A n (l.map (Value.int .u8))) (hl : Bytes l)
    (hv : sgn k (uval (fld l p.toNat k.toNat)) = v) (hq : p + k = q) :
    Calls Try.prog 16 #[cu A n c p 0 0, .int .i64 k] w fun e w' => e = .returned (.tuple #[.int .i64 v, cu A n c q 0 0]) ∧ Below w.heap.size w w' := by
  subst hv hq
  exact Int_yes A n c l p k w hk hn h0 h1 hr hl
theorem Expect_is {A : Option Addr} {n c : Nat} {xs : List Int} {p : Int} (P : Nat) (q : Int) {y : Int} {B : Option Addr} {m d : Nat} {w : World} (hp : p = P) (hq : ((P + m : Nat) : Int) = q) (hn : n ≤ c) (hc : c ≤ 9223372036854775807) (h1 : P + m ≤ n)
    (hr : Rd w A n (xs.map (Value.int .u8))) (hr' : Rd w B m ((fld xs P m).map (Value.int .u8))) :
    Calls Try.prog 17 #[cu A n c p 0 0, .slice B m d, .int .i64 y] w fun e w' => e = .returned (cu A n c q 0 0) ∧ Below w.heap.size w w' := by
  subst hp hq
  exact Expect_yes A n c xs P y B m d w hn hc h1 hr hr'
theorem Expect_differs {A : Option Addr} {n c : Nat} {xs : List Int} {p : Int} (P : Nat) (q : Int) {y : Int} {B : Option Addr} {m d : Nat} (ys : List Int) (i : Nat) {w : World} (hp : p = P) (hq : (P : Int) + i = q) (hn : n ≤ c) (hc : c ≤ 9223372036854775807) (h1 : P + m ≤ n)
    (hr : Rd w A n (xs.map (Value.int .u8))) (hr' : Rd w B m (ys.map (Value.int .u8))) (hi : i < m) (hy : y ≠ 0)
    (he : ∀ j, j < i → (fld xs P m)[j]?.getD 0 = ys[j]?.getD 0) (hne : (fld xs P m)[i]?.getD 0 ≠ ys[i]?.getD 0) :
    Calls Try.prog 17 #[cu A n c p 0 0, .slice B m d, .int .i64 y] w fun e w' => e = .returned (cu A n c p y q) ∧ Below w.heap.size w w' := by
  subst hp hq
  exact Expect_differ A n c xs P y B m d ys i w hn hc h1 hr hr' hi hy he hne
end cu_
namespace l2_
set_option maxRecDepth 100000 in
set_option maxHeartbeats 2000000 in
theorem awake (w : World) : Calls Try.prog 7 #[] w fun e w' => e = .returned (.bool true) ∧ Below w.heap.size w w' := by
  go_enter Try.func7, Try.ntmps7
  go_wp2_with fail
  refine (cu_.New _ _ _ _).mono ?_
  rintro e w1 ⟨rfl, hb⟩
  have hr : Rd w1 (some ⟨w.heap.size, 0, none⟩) 3 ([1, 2, 3].map (Value.int .u8)) := (Rd.ints w 5 .u8 [1, 2, 3] 3 rfl rfl).below hb
  have B := hide (bel_next (bl_new _ _) hb)
  clear hb
  have hl : Bytes [1, 2, 3] := bytes_of_mem (by decide)
  have b1 := hide (Bx.new4 w1 (.slice (some ⟨w.heap.size, 0, none⟩) 3 3) (.int .i64 0) (.int .i64 0) (.int .i64 0) 26)
  go_wp2_with fail
  refine (cu_.Take_is (xs := [1, 2, 3]) 0 2 2 rfl rfl rfl (by simp) (by omega) (by omega) (by omega) (by omega) (hr.alloc _)).mono ?_
  rintro e w2 ⟨A2, c2, rfl, ho2, hb⟩
  have hr := (hr.alloc _).below hb
  have b1 := hide (b1.out.below hb)
  have B := hide (bel_next (bl_alloc B.out _) hb)
  have ho2 := hide ho2.rd
  clear hb
  have b3 := hide (Bx.new4 w2 (.slice (some ⟨w.heap.size, 0, none⟩) 3 3) (.int .i64 2) (.int .i64 0) (.int .i64 0) 26)
  go_wp2_with fail
  refine (cu_.Uint_not (l := [1, 2, 3]) 3 (by omega) (by omega) (by omega) (hr.alloc _) rfl).mono ?_
  rintro e w3 ⟨rfl, hb⟩
  have hr := (hr.alloc _).below hb
  have ho2 := hide ((ho2.out.alloc _).below hb)
  have b1 := hide ((b1.out.alloc _).below hb)
  have b3 := hide (b3.out.below hb)
  have B := hide (bel_next (bl_alloc B.out _) hb)
  clear hb
  have b5 := hide (Bx.new4 w3 (.slice (some ⟨w.heap.size, 0, none⟩) 3 3) (.int .i64 2) (.int .i64 1) (.int .i64 3) 26)
  obtain ⟨b3a, b3b, b3c, b3d⟩ := b3.out.cells4
  have b3l := b3.out.lt
  go_wp2_with fail
  refine (cu_.Uint_is (l := [1, 2, 3]) 3 3 (by omega) (by omega) (by omega) (by omega) (hr.alloc _) hl (by decide) (by omega)).mono ?_
  rintro e w4 ⟨rfl, hb⟩
  clear b3a b3b b3c b3d b3l
  have hr := (hr.alloc _).below hb
  have ho2 := hide ((ho2.out.alloc _).below hb)
  have b1 := hide ((b1.out.alloc _).below hb)
  have b3 := hide ((b3.out.alloc _).below hb)
  have b5 := hide (b5.out.below hb)
  have B := hide (bel_next (bl_alloc B.out _) hb)
  clear hb
  have b7 := hide (Bx.new4 w4 (.slice (some ⟨w.heap.size, 0, none⟩) 3 3) (.int .i64 3) (.int .i64 0) (.int .i64 0) 26)
  obtain ⟨b1a, b1b, b1c, b1d⟩ := b1.out.cells4
  have b1l := b1.out.lt
  go_wp2_with fail
  refine (cu_.Expect_differs (xs := [1, 2, 3]) 0 1 [1, 9] 1 rfl (by omega) (by omega) (by omega) (by omega) ((hr.alloc _).alloc _) (Rd.ints _ 5 .u8 [1, 9] 2 rfl (by simp)) (by omega) (by omega) (by decide) (by decide)).mono ?_
  rintro e w5 ⟨rfl, hb⟩
  clear b1a b1b b1c b1d b1l
  have hr := ((hr.alloc _).alloc _).below hb
  have ho2 := hide (((ho2.out.alloc _).alloc _).below hb)
  have b1 := hide (((b1.out.alloc _).alloc _).below hb)
  have b3 := hide (((b3.out.alloc _).alloc _).below hb)
  have b5 := hide (((b5.out.alloc _).alloc _).below hb)
  have b7 := hide ((b7.out.alloc _).below hb)
  have B := hide (bel_next (bl_alloc (bl_alloc B.out _) _) hb)
  clear hb
  have b8 := hide (Bx.new4 w5 (.slice (some ⟨w.heap.size, 0, none⟩) 3 3) (.int .i64 0) (.int .i64 3) (.int .i64 1) 26)
  obtain ⟨b1a, b1b, b1c, b1d⟩ := b1.out.cells4
  have b1l := b1.out.lt
  go_wp2_with fail
  refine (cu_.Expect_is (xs := [1, 2, 3]) 0 2 rfl rfl (by omega) (by omega) (by omega) ((hr.alloc _).alloc _) (Rd.ints _ 5 .u8 [1, 2] 2 rfl (by simp))).mono ?_
  rintro e w6 ⟨rfl, hb⟩
  clear b1a b1b b1c b1d b1l
  have hr := ((hr.alloc _).alloc _).below hb
  have ho2 := hide (((ho2.out.alloc _).alloc _).below hb)
  have b1 := hide (((b1.out.alloc _).alloc _).below hb)
  have b3 := hide (((b3.out.alloc _).alloc _).below hb)
  have b5 := hide (((b5.out.alloc _).alloc _).below hb)
  have b7 := hide (((b7.out.alloc _).alloc _).below hb)
  have b8 := hide ((b8.out.alloc _).below hb)
  have B := hide (bel_next (bl_alloc (bl_alloc B.out _) _) hb)
  clear hb
  have b9 := hide (Bx.new4 w6 (.slice (some ⟨w.heap.size, 0, none⟩) 3 3) (.int .i64 2) (.int .i64 0) (.int .i64 0) 26)
  go_wp2_with fail
  refine (cu_.New _ _ _ _).mono ?_
  rintro e w7 ⟨rfl, hb⟩
  have ho2 := hide (((ho2.out.alloc _).alloc _).below hb)
  have b1 := hide (((b1.out.alloc _).alloc _).below hb)
  have b3 := hide (((b3.out.alloc _).alloc _).below hb)
  have b5 := hide (((b5.out.alloc _).alloc _).below hb)
  have b7 := hide (((b7.out.alloc _).alloc _).below hb)
  have b8 := hide (((b8.out.alloc _).alloc _).below hb)
  have b9 := hide ((b9.out.alloc _).below hb)
  have hs : Rd w7 (some ⟨w6.heap.size + 1, 0, none⟩) 1 ([255].map (Value.int .u8)) := (Rd.ints _ 5 .u8 [255] 1 rfl (by simp)).below hb
  have B := hide (bel_next (bl_alloc (bl_alloc B.out _) _) hb)
  clear hb
  go_wp2_with fail
  refine (cu_.Int_is (l := [255]) (-1) 1 (by omega) (by omega) (by omega) (by omega) hs (bytes_of_mem (by decide)) (by decide) (by omega)).mono ?_
  rintro e w8 ⟨rfl, hb⟩
  have b1 := hide (b1.out.below hb)
  have b3 := hide (b3.out.below hb)
  have b5 := hide (b5.out.below hb)
  have b7 := hide (b7.out.below hb)
  have b8 := hide (b8.out.below hb)
  have b9 := hide (b9.out.below hb)
  have ho2 := hide (ho2.out.below hb)
  have B := hide (bel_next B.out hb)
  clear hb
  obtain ⟨b1a, b1b, b1c, b1d⟩ := b1.out.cells4
  have b1l := b1.out.lt
  obtain ⟨b3a, b3b, b3c, b3d⟩ := b3.out.cells4
  have b3l := b3.out.lt
  obtain ⟨b5a, b5b, b5c, b5d⟩ := b5.out.cells4
  have b5l := b5.out.lt
  obtain ⟨b7a, b7b, b7c, b7d⟩ := b7.out.cells4
  have b7l := b7.out.lt
  obtain ⟨b8a, b8b, b8c, b8d⟩ := b8.out.cells4
  have b8l := b8.out.lt
  obtain ⟨b9a, b9b, b9c, b9d⟩ := b9.out.cells4
  have b9l := b9.out.lt
  go_wp2_with fail
  refine (r1_.Same _ _ _ _ _ _ [1, 2] _ (by omega) ((ho2.out.alloc _).alloc _) (Rd.ints _ 5 .u8 [1, 2] 2 rfl (by simp))).mono ?_
  rintro e w9 ⟨rfl, hb⟩
  clear b1a b1b b1c b1d b1l b3a b3b b3c b3d b3l b5a b5b b5c b5d b5l b7a b7b b7c b7d b7l b8a b8b b8c b8d b8l b9a b9b b9c b9d b9l
  have b1 := hide (((b1.out.alloc _).alloc _).below hb)
  have b3 := hide (((b3.out.alloc _).alloc _).below hb)
  have b5 := hide (((b5.out.alloc _).alloc _).below hb)
  have b7 := hide (((b7.out.alloc _).alloc _).below hb)
  have b8 := hide (((b8.out.alloc _).alloc _).below hb)
  have b9 := hide (((b9.out.alloc _).alloc _).below hb)
  have B := hide (bel_next (bl_alloc (bl_alloc B.out _) _) hb)
  clear hb
  obtain ⟨b1a, b1b, b1c, b1d⟩ := b1.out.cells4
  have b1l := b1.out.lt
  obtain ⟨b3a, b3b, b3c, b3d⟩ := b3.out.cells4
  have b3l := b3.out.lt
  obtain ⟨b5a, b5b, b5c, b5d⟩ := b5.out.cells4
  have b5l := b5.out.lt
  obtain ⟨b7a, b7b, b7c, b7d⟩ := b7.out.cells4
  have b7l := b7.out.lt
  obtain ⟨b8a, b8b, b8c, b8d⟩ := b8.out.cells4
  have b8l := b8.out.lt
  obtain ⟨b9a, b9b, b9c, b9d⟩ := b9.out.cells4
  have b9l := b9.out.lt
  go_wp2_with fail
  refine (cu_.Rest_ok _ _ _ _ _ _ (by omega) (by omega) (by omega)).mono ?_
  rintro e w10 ⟨rfl, hb⟩
  clear b1a b1b b1c b1d b1l b3a b3b b3c b3d b3l b5a b5b b5c b5d b5l b7a b7b b7c b7d b7l b8a b8b b8c b8d b8l b9a b9b b9c b9d b9l
  have b1 := hide (b1.out.below hb)
  have b3 := hide (b3.out.below hb)
  have b5 := hide (b5.out.below hb)
  have b7 := hide (b7.out.below hb)
  have b8 := hide (b8.out.below hb)
  have b9 := hide (b9.out.below hb)
  have B := hide (bel_next B.out hb)
  clear hb
  obtain ⟨b1a, b1b, b1c, b1d⟩ := b1.out.cells4
  have b1l := b1.out.lt
  obtain ⟨b5a, b5b, b5c, b5d⟩ := b5.out.cells4
  have b5l := b5.out.lt
  go_wp2_with fail
  refine (cu_.Rest_err _ _ _ _ _ _ _ (by omega)).mono ?_
  rintro e w11 ⟨rfl, hb⟩
  clear b1a b1b b1c b1d b1l b5a b5b b5c b5d b5l
  have b1 := hide (b1.out.below hb)
  have b3 := hide (b3.out.below hb)
  have b5 := hide (b5.out.below hb)
  have b7 := hide (b7.out.below hb)
  have b8 := hide (b8.out.below hb)
  have b9 := hide (b9.out.below hb)
  have B := hide (bel_next B.out hb)
  clear hb
  obtain ⟨b1a, b1b, b1c, b1d⟩ := b1.out.cells4
  have b1l := b1.out.lt
  obtain ⟨b5a, b5b, b5c, b5d⟩ := b5.out.cells4
  have b5l := b5.out.lt
  go_wp2_with fail
  refine (cu_.Fail_err _ _ _ _ _ _ _ _ _ (by omega)).mono ?_
  rintro e w12 ⟨rfl, hb⟩
  clear b1a b1b b1c b1d b1l b5a b5b b5c b5d b5l
  have hf2 : ∀ w', (Instr.field 26 (cu (some ⟨w.heap.size, 0, none⟩) 3 3 2 1 3) 2).run Try.prog w' = .ok (.int .i64 1) w' := fun _ => rfl
  have b1 := hide (b1.out.below hb)
  have b3 := hide (b3.out.below hb)
  have b5 := hide (b5.out.below hb)
  have b7 := hide (b7.out.below hb)
  have b8 := hide (b8.out.below hb)
  have b9 := hide (b9.out.below hb)
  have B := hide (bel_next B.out hb)
  clear hb
  obtain ⟨b1a, b1b, b1c, b1d⟩ := b1.out.cells4
  have b1l := b1.out.lt
  obtain ⟨b5a, b5b, b5c, b5d⟩ := b5.out.cells4
  have b5l := b5.out.lt
  go_wp2_with fail
  refine (cu_.Fail_none _ _ _ _ _ _ _).mono ?_
  rintro e w13 ⟨rfl, hb⟩
  clear b1a b1b b1c b1d b1l b5a b5b b5c b5d b5l
  have hf3 : ∀ w', (Instr.field 26 (cu (some ⟨w.heap.size, 0, none⟩) 3 3 0 0 0) 3).run Try.prog w' = .ok (.int .i64 0) w' := fun _ => rfl
  have B := hide (bel_next B.out hb)
  clear hb
  go_wp2
  go_ret
  exact ⟨rfl, B.out⟩
end l2_
end Go.Proofs.Ytldkfmbcinmofaa
