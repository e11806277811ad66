/-
  THE WALK OF CursorStopsAtFirstError (zoneinfolaw02): for every input the law returns true and writes nothing that was there. No conditions.
-/
import Derived.Test.YtldkfmbcinmofaaLaw2
import Derived.Deep.RegionHeld3
import Derived.Deep.DeepCutAuto
namespace Go.Proofs.Ytldkfmbcinmofaa
open Go.ChangeShapes Go.WideShapes Go.ChangeAt Go.RowKit
set_option linter.unusedVariables false
namespace l2_
theorem cellB {W w1 : World} (hb : Below W.heap.size W w1) {a : Addr} {v : Value} (h : W.cell? a = some v) : w1.cell? a = some v := by
  rw [hb.cell (cell_lt h)]
  exact h
set_option maxRecDepth 100000 in
set_option maxHeartbeats 20000000 in
theorem sf_main (A : Option Addr) (n c : Nat) (l : List Int) (p x a : Int) (k a2 : Int) (B : Option Addr) (m d : Nat) (w : World) (hn : n ≤ c) (hc : c ≤ 9223372036854775807) (hm : n ≤ 2000) (hm2 : m ≤ 2000)
    (h0 : 0 ≤ p) (h1 : p ≤ n) (hxa : x ≠ 0 ∨ a = 0) (hr : Rd w A n (l.map (Value.int .u8))) (u0 : 0 ≤ a2) (u1 : a2 < 256)
    (hcase : (x = 0 ∧ (k < 0 ∨ n - p < k)) ∨ x ≠ 0) :
    Calls Try.prog 4 #[cu A n c p x a, .int .i64 k, .int .u8 a2, .slice B m d] w fun e w' => e = .returned (.bool true) ∧ Below w.heap.size w w' := by
  have V := hide (fun w => r2_.Valid_yes A n c p x a w h0 h1 hxa hm)
  obtain ⟨x', a', hx', hTk, hcs⟩ : ∃ x' a', x' ≠ 0 ∧ (∀ w, Calls Try.prog 10 #[cu A n c p x a, .int .i64 k] w fun e w' => ∃ A' c', e = .returned (.tuple #[.slice A' 0 c', cu A n c p x' a']) ∧ Ow w' w.heap.size 5 A' 0 c' [] ∧ Below w.heap.size w w') ∧ ((x = 0 ∧ x' = 1 ∧ a' = n) ∨ (x ≠ 0 ∧ x' = x ∧ a' = a)) := by
    rcases hcase with ⟨rfl, hk⟩ | hx
    · exact ⟨1, n, by omega, fun w => cu_.Take_no A n c p a k w (by omega) h0 h1 hk, .inl ⟨rfl, rfl, rfl⟩⟩
    · exact ⟨x, a, hx, fun w => cu_.Take_err A n c p x a k w hx, .inr ⟨hx, rfl, rfl⟩⟩
  have T := hide hTk
  have Hr := hide hr
  clear hcase hTk hxa hr
  have e0 : (x' == 0) = false := by simpa using hx'
  go_enter Try.func4, Try.ntmps4
  have b4 := hide (Bx.new4 w (.slice A n c) (.int .i64 p) (.int .i64 x) (.int .i64 a) 26)
  go_wp2_with fail
  refine (awake _).mono ?_
  rintro e w1 ⟨rfl, hb⟩
  have b4 := hide (b4.out.below hb)
  have B := hide (bel_next (bl_new _ _) hb)
  clear hb
  obtain ⟨b4a, b4b, b4c, b4d⟩ := b4.out.cells4
  have b4l := b4.out.lt
  go_wp2_with fail
  refine (V.out _).mono ?_
  rintro e w2 ⟨rfl, hb⟩
  have b4 := hide (b4.out.below hb)
  have B := hide (bel_next B.out hb)
  clear hb b4a b4b b4c b4d b4l
  obtain ⟨b4a, b4b, b4c, b4d⟩ := b4.out.cells4
  have b4l := b4.out.lt
  go_wp2_with fail
  refine (T.out _).mono ?_
  rintro e w3 ⟨A3, c3, rfl, ho, hb⟩
  have b4 := hide (b4.out.below hb)
  have B := hide (bel_next B.out hb)
  clear hb ho b4a b4b b4c b4d b4l
  obtain ⟨b4a, b4b, b4c, b4d⟩ := b4.out.cells4
  have b4l := b4.out.lt
  have b10 := hide (Bx.new4 w3 (.slice A n c) (.int .i64 p) (.int .i64 x') (.int .i64 a') 26)
  go_upto_region 6 with fail
  go_cut [83] (fun s wx => s = .bool false ∧ Bx wx w3.heap.size [.slice A n c, .int .i64 p, .int .i64 x', .int .i64 a'] ∧ Below w.heap.size w wx)
  case first =>
    rcases hcs with ⟨rfl, rfl, rfl⟩ | ⟨hx0, rfl, rfl⟩
    · go_wp2_with fail
      go_meet
      exact ⟨rfl, b10.out, bl_alloc B.out _⟩
    · go_wp2_with fail
      refine (r2_.Same _ _ _ _ _ _ l _ (by omega) ((Hr.out.below B.out).alloc _)).mono ?_
      rintro e w4 ⟨rfl, hb⟩
      have b10 := hide (b10.out.below hb)
      have B := hide (bel_next (bl_alloc B.out _) hb)
      clear hb
      go_wp2_with fail
      go_meet
      exact ⟨rfl, b10.out, B.out⟩
  case rest =>
    obtain ⟨rfl, hb10, hB⟩ := hcut
    have b10 := hide hb10
    have B := hide hB
    clear hb10 hB b4a b4b b4c b4d b4l b4 hcs
    obtain ⟨b10a, b10b, b10c, b10d⟩ := b10.out.cells4
    have b10l := b10.out.lt
    go_wp2_with fail
    refine (cu_.Take_err _ _ _ _ _ _ _ _ hx').mono ?_
    rintro e w5 ⟨A5, c5, rfl, ho, hb⟩
    have b10 := hide (b10.out.below hb)
    have B := hide (bel_next B.out hb)
    clear hb ho b10a b10b b10c b10d b10l
    have b12 := hide (Bx.new4 w5 (.slice A n c) (.int .i64 p) (.int .i64 x') (.int .i64 a') 26)
    obtain ⟨b10a, b10b, b10c, b10d⟩ := b10.out.cells4
    have b10l := b10.out.lt
    go_upto_region 9 with fail
    go_cut [13, 14] (fun s1 s2 wx => ∃ g : Nat, s1 = .int .u64 0 ∧ s2 = .pointer (some ⟨g, 0, none⟩) ∧ Bx wx g [.slice A n c, .int .i64 p, .int .i64 x', .int .i64 a'] ∧ Bx wx w3.heap.size [.slice A n c, .int .i64 p, .int .i64 x', .int .i64 a'] ∧ Bx wx w5.heap.size [.slice A n c, .int .i64 p, .int .i64 x', .int .i64 a'] ∧ Below w.heap.size w wx)
    case first =>
      have hs5 := B.out.size
      go_region_with (first
        | (go_at_call 15; refine (r1_.Width _ _ u0 u1).mono ?_; rintro e w6 ⟨N, rfl, hN, hb⟩;
           obtain ⟨q10, q12, BB⟩ : Bx w6 w3.heap.size [.slice A n c, .int .i64 p, .int .i64 x', .int .i64 a'] ∧ Bx w6 w5.heap.size [.slice A n c, .int .i64 p, .int .i64 x', .int .i64 a'] ∧ Below w.heap.size w w6 := (by
             first
               | exact ⟨(b10.out.alloc _).drew.below hb, b12.out.drew.below hb, bel_next (bl_drew (bl_alloc B.out _)) hb⟩
               | exact ⟨(((b10.out.alloc _).drew).alloc _).below hb, ((b12.out.drew).alloc _).below hb, bel_next (bl_alloc (bl_drew (bl_alloc B.out _)) _) hb⟩);
           obtain ⟨q10a, q10b, q10c, q10d⟩ := q10.cells4; have q10l := q10.lt; have q12l := q12.lt;
           have hsz := BB.size; have q10 := hide q10; have q12 := hide q12; have BB := hide BB;
           (try (have q0 := hide ((Bx.new4d w5 _ (.slice none 0 0) (.int .i64 0) (.int .i64 0) (.int .i64 0) 26).below hb); have q0l := q0.out.lt));
           clear hb)
        | (go_at_call 14; refine (cu_.Uint_err _ _ _ l _ _ _ _ _ hx' ?_).mono ?_; (first | exact Hr.out.below BB.out | exact (Hr.out.below BB.out).alloc _); rintro e w7 ⟨rfl, hb⟩;
           obtain ⟨q10, q12, BB⟩ : Bx w7 w3.heap.size [.slice A n c, .int .i64 p, .int .i64 x', .int .i64 a'] ∧ Bx w7 w5.heap.size [.slice A n c, .int .i64 p, .int .i64 x', .int .i64 a'] ∧ Below w.heap.size w w7 := (by
             first
               | exact ⟨q10.out.below hb, q12.out.below hb, bel_next BB.out hb⟩
               | exact ⟨(q10.out.alloc _).below hb, (q12.out.alloc _).below hb, bel_next (bl_alloc BB.out _) hb⟩);
           have q10 := hide q10; have q12 := hide q12; have BB := hide BB;
           (try (have q0 := hide (q0.out.below hb); obtain ⟨y0, y1, y2, y3⟩ := q0.out.cells4; have y4 := q0.out.fr));
           (try (have q0 := hide ((Bx.new4 w6 (.slice none 0 0) (.int .i64 0) (.int .i64 0) (.int .i64 0) 26).below hb); obtain ⟨y0, y1, y2, y3⟩ := q0.out.cells4; have y4 := q0.out.fr));
           clear hb))
      all_goals go_wp2_with fail
      all_goals go_meet
      all_goals first
        | exact ⟨w7.heap.size, rfl, rfl, Bx.new4 w7 (.slice A n c) (.int .i64 p) (.int .i64 x') (.int .i64 a') 26, q10.out.alloc _, q12.out.alloc _, bl_alloc BB.out _⟩
        | exact ⟨w5.heap.size + 1, rfl, rfl, q0.out.store4, q10.out.away4 (by omega), q12.out.away4 (by omega), bl_set4 BB.out (by omega)⟩
        | exact ⟨w6.heap.size, rfl, rfl, q0.out.store4, q10.out.away4 (by omega), q12.out.away4 (by omega), bl_set4 BB.out (by omega)⟩
    obtain ⟨g14, rfl, rfl, h14, h10, h12, hB⟩ := hcut
    have b14 := hide h14
    have b10 := hide h10
    have b12 := hide h12
    have B := hide hB
    clear h14 h10 h12 hB b10a b10b b10c b10d b10l
    obtain ⟨b10a, b10b, b10c, b10d⟩ := b10.out.cells4
    have b10l := b10.out.lt
    have b12l := b12.out.lt
    have b14l := b14.out.lt
    go_upto_region 10 with fail
    go_cut [15, 16] (fun s1 s2 wx => ∃ g : Nat, s1 = .int .i64 0 ∧ s2 = .pointer (some ⟨g, 0, none⟩) ∧ Bx wx g [.slice A n c, .int .i64 p, .int .i64 x', .int .i64 a'] ∧ Bx wx w3.heap.size [.slice A n c, .int .i64 p, .int .i64 x', .int .i64 a'] ∧ Bx wx w5.heap.size [.slice A n c, .int .i64 p, .int .i64 x', .int .i64 a'] ∧ Bx wx g14 [.slice A n c, .int .i64 p, .int .i64 x', .int .i64 a'] ∧ Below w.heap.size w wx)
    case first =>
      have hs5 := B.out.size
      go_region_with (first
        | (go_at_call 15; refine (r1_.Width _ _ u0 u1).mono ?_; rintro e w8 ⟨N, rfl, hN, hb⟩;
           obtain ⟨q10, q12, q14, BB⟩ : Bx w8 w3.heap.size [.slice A n c, .int .i64 p, .int .i64 x', .int .i64 a'] ∧ Bx w8 w5.heap.size [.slice A n c, .int .i64 p, .int .i64 x', .int .i64 a'] ∧ Bx w8 g14 [.slice A n c, .int .i64 p, .int .i64 x', .int .i64 a'] ∧ Below w.heap.size w w8 := (by
             first
               | exact ⟨b10.out.drew.below hb, b12.out.drew.below hb, b14.out.drew.below hb, bel_next (bl_drew B.out) hb⟩
               | exact ⟨((b10.out.drew).alloc _).below hb, ((b12.out.drew).alloc _).below hb, ((b14.out.drew).alloc _).below hb, bel_next (bl_alloc (bl_drew B.out) _) hb⟩);
           obtain ⟨q10a, q10b, q10c, q10d⟩ := q10.cells4; have q10l := q10.lt; have q12l := q12.lt; have q14l := q14.lt;
           have hsz := BB.size; have q10 := hide q10; have q12 := hide q12; have q14 := hide q14; have BB := hide BB;
           (try (have q0 := hide ((show Bx ((wc.drew).alloc _) wc.heap.size _ from Bx.new4 (wc.drew) (.slice none 0 0) (.int .i64 0) (.int .i64 0) (.int .i64 0) 26).below hb); have q0l := q0.out.lt));
           clear hb)
        | (go_at_call 16; refine (cu_.Int_err _ _ _ l _ _ _ _ _ hx' ?_).mono ?_; (first | exact Hr.out.below BB.out | exact (Hr.out.below BB.out).alloc _); rintro e w9 ⟨rfl, hb⟩;
           obtain ⟨q10, q12, q14, BB⟩ : Bx w9 w3.heap.size [.slice A n c, .int .i64 p, .int .i64 x', .int .i64 a'] ∧ Bx w9 w5.heap.size [.slice A n c, .int .i64 p, .int .i64 x', .int .i64 a'] ∧ Bx w9 g14 [.slice A n c, .int .i64 p, .int .i64 x', .int .i64 a'] ∧ Below w.heap.size w w9 := (by
             first
               | exact ⟨q10.out.below hb, q12.out.below hb, q14.out.below hb, bel_next BB.out hb⟩
               | exact ⟨(q10.out.alloc _).below hb, (q12.out.alloc _).below hb, (q14.out.alloc _).below hb, bel_next (bl_alloc BB.out _) hb⟩);
           have q10 := hide q10; have q12 := hide q12; have q14 := hide q14; have BB := hide BB;
           (try (have q0 := hide (q0.out.below hb); obtain ⟨y0, y1, y2, y3⟩ := q0.out.cells4; have y4 := q0.out.fr));
           (try (have q0 := hide ((Bx.new4 w8 (.slice none 0 0) (.int .i64 0) (.int .i64 0) (.int .i64 0) 26).below hb); obtain ⟨y0, y1, y2, y3⟩ := q0.out.cells4; have y4 := q0.out.fr));
           clear hb))
      all_goals go_wp2_with fail
      all_goals go_meet
      all_goals first
        | exact ⟨w9.heap.size, rfl, rfl, Bx.new4 w9 (.slice A n c) (.int .i64 p) (.int .i64 x') (.int .i64 a') 26, q10.out.alloc _, q12.out.alloc _, q14.out.alloc _, bl_alloc BB.out _⟩
        | exact ⟨wc.heap.size, rfl, rfl, q0.out.store4, q10.out.away4 (by omega), q12.out.away4 (by omega), q14.out.away4 (by omega), bl_set4 BB.out (by omega)⟩
        | exact ⟨w8.heap.size, rfl, rfl, q0.out.store4, q10.out.away4 (by omega), q12.out.away4 (by omega), q14.out.away4 (by omega), bl_set4 BB.out (by omega)⟩
    obtain ⟨g16, rfl, rfl, h16, h10, h12, h14, hB⟩ := hcut
    have b14 := hide h14
    have b10 := hide h10
    have b12 := hide h12
    have b16 := hide h16
    have B := hide hB
    clear h14 h10 h12 h16 hB b10a b10b b10c b10d b10l b12l b14l
    go_upto_region 11 with fail
    go_region_held3 (fun w' => w'.cell? ⟨w3.heap.size, 0, none⟩ = some (.slice A n c) ∧ w'.cell? ⟨w3.heap.size, 1, none⟩ = some (.int .i64 p) ∧ w'.cell? ⟨w3.heap.size, 2, none⟩ = some (.int .i64 x') ∧ w'.cell? ⟨w3.heap.size, 3, none⟩ = some (.int .i64 a') ∧
      w'.cell? ⟨w5.heap.size, 0, none⟩ = some (.slice A n c) ∧ w'.cell? ⟨w5.heap.size, 1, none⟩ = some (.int .i64 p) ∧ w'.cell? ⟨w5.heap.size, 2, none⟩ = some (.int .i64 x') ∧ w'.cell? ⟨w5.heap.size, 3, none⟩ = some (.int .i64 a') ∧
      w'.cell? ⟨g14, 0, none⟩ = some (.slice A n c) ∧ w'.cell? ⟨g14, 1, none⟩ = some (.int .i64 p) ∧ w'.cell? ⟨g14, 2, none⟩ = some (.int .i64 x') ∧ w'.cell? ⟨g14, 3, none⟩ = some (.int .i64 a') ∧
      w'.cell? ⟨g16, 0, none⟩ = some (.slice A n c) ∧ w'.cell? ⟨g16, 1, none⟩ = some (.int .i64 p) ∧ w'.cell? ⟨g16, 2, none⟩ = some (.int .i64 x') ∧ w'.cell? ⟨g16, 3, none⟩ = some (.int .i64 a') ∧ Below w.heap.size w w')
      (first
        | exact ⟨b10.out.cells4.1, b10.out.cells4.2.1, b10.out.cells4.2.2.1, b10.out.cells4.2.2.2, b12.out.cells4.1, b12.out.cells4.2.1, b12.out.cells4.2.2.1, b12.out.cells4.2.2.2, b14.out.cells4.1, b14.out.cells4.2.1, b14.out.cells4.2.2.1, b14.out.cells4.2.2.2, b16.out.cells4.1, b16.out.cells4.2.1, b16.out.cells4.2.2.1, b16.out.cells4.2.2.2, by first | exact B.out | exact bl_drew B.out⟩
        | (go_split_ands; refine ⟨?_, ?_, ?_, ?_, ?_, ?_, ?_, ?_, ?_, ?_, ?_, ?_, ?_, ?_, ?_, ?_, ?_⟩ <;> first | exact cellB hb (by assumption) | exact bel_next (by assumption) hb))
      (first
        | (go_at_call 13; go_split_ands; refine (r2_.Same _ _ _ _ _ _ l _ (by omega) (Hr.out.below (by assumption))).mono ?_; rintro e w11 ⟨rfl, hb⟩)
        | (go_at_call 17; refine (cu_.Expect_err _ _ _ _ _ _ _ _ _ _ _ hx').mono ?_; rintro e w11 ⟨rfl, hb⟩)
        | (go_at_call 18; refine (cu_.Fail_err _ _ _ _ _ _ _ _ _ hx').mono ?_; rintro e w11 ⟨rfl, hb⟩)
        | (go_at_call 9; refine (cu_.Rest_err _ _ _ _ _ _ _ hx').mono ?_; rintro e w11 ⟨rfl, hb⟩))
    have hfin : Below w.heap.size w w11 := by
      first
        | assumption
        | (go_split_ands; assumption)
        | (refine bel_next (w1 := ?W) ?a hb; first | assumption | (refine bel_next (w1 := ?W2) ?a2 ?b2; rotate_left; assumption; assumption))
    have hfin := hide hfin
    go_wp2
    go_ret
    exact ⟨rfl, hfin.out⟩
end l2_
end Go.Proofs.Ytldkfmbcinmofaa
