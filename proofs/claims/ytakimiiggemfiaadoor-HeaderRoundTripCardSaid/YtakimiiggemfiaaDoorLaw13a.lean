/-
  THE WALKS OF THE LAWS OF LAYER 13 (zoneinfolaw13): HeaderRoundTrip. No conditions.
-/
import Derived.Test.YtakimiiggemfiaaDoorLaw13
import Derived.Deep.RegionLaw
namespace Go.Proofs.YtakimiiggemfiaaDoor
open Go.ChangeShapes Go.WideShapes Go.ChangeAt Go.RowKit
set_option linter.unusedVariables false
namespace l13_
set_option maxRecDepth 100000 in
set_option maxHeartbeats 8000000 in
theorem roundTrip (v a b c d x y : Int) (A1 : Option Addr) (n1 c1 : Nat) (z1 : List Int) (A2 : Option Addr) (n2 c2 : Nat) (z2 : List Int) (w : World) (hT : Th w) (hv : (Lit.int .i64 v).wf = true) (ha : (Lit.int .u32 a).wf = true) (hb_ : (Lit.int .u32 b).wf = true) (hc : (Lit.int .u32 c).wf = true) (hd : (Lit.int .u32 d).wf = true) (hx : (Lit.int .u32 x).wf = true) (hy : (Lit.int .u32 y).wf = true) (h1 : IsRw .u8 w A1 n1 c1 z1) (h2 : IsRw .u8 w A2 n2 c2 z2) :
    Calls Tryd.prog 3 #[.agg #[.int .i64 v, .int .u32 a, .int .u32 b, .int .u32 c, .int .u32 d, .int .u32 x, .int .u32 y], .slice A1 n1 c1, .slice A2 n2 c2] w fun e w' => e = .returned (.bool true) ∧ Below w.heap.size w w' := by
  have u32 : ∀ {t : Int}, (Lit.int .u32 t).wf = true → U32 t := fun h => by simp [Lit.wf, IntKind.min, IntKind.max, IntKind.signed, IntKind.bits] at h; unfold U32; omega
  have hok : 1 ≤ v → v ≤ 4 → Hd.ok ⟨v, a, b, c, d, x, y⟩ := fun h h' => ⟨h, h', u32 ha, u32 hb_, u32 hc, u32 hd, u32 hx, u32 hy⟩
  have r1 := h1.rd
  have r2 := h2.rd
  have nil1 := hide h1.nil
  have nil2 := hide h2.nil
  have B1 : Bytes (z1.take n1) := bytes_of_mem fun t ht => wf_u8 (h1.wf t ht)
  have B2 : Bytes (z2.take n2) := bytes_of_mem fun t ht => wf_u8 (h2.wf t ht)
  obtain ⟨ca1, _⟩ := h1.cap
  obtain ⟨ca2, _⟩ := h2.cap
  clear hv ha hb_ hc hd hx hy u32 h1 h2
  obtain ⟨xs, hxs⟩ : ∃ xs, xs = z1.take n1 := ⟨_, rfl⟩
  obtain ⟨ys, hys⟩ : ∃ ys, ys = z2.take n2 := ⟨_, rfl⟩
  rw [← hxs] at r1 B1
  rw [← hys] at r2 B2
  clear hxs hys
  have HT := hide hT
  have hb := hide (bl_new w (.cells #[.int .i64 v, .int .u32 a, .int .u32 b, .int .u32 c, .int .u32 d, .int .u32 x, .int .u32 y] 24))
  have bx := hide (Bx.new w [.int .i64 v, .int .u32 a, .int .u32 b, .int .u32 c, .int .u32 d, .int .u32 x, .int .u32 y] 24)
  by_cases v0 : v < 1
  · clear hok r1 r2 B1 B2
    go_enter Tryd.func3, Tryd.ntmps3
    go_upto_region 1 with fail
    generalize (w.alloc (.cells #[.int .i64 v, .int .u32 a, .int .u32 b, .int .u32 c, .int .u32 d, .int .u32 x, .int .u32 y] 24)) = w0 at *
    go_wp2_with fail
    refine (awake _ (HT.out.below hb.out)).mono ?_
    rintro e w1 ⟨rfl, h1⟩
    replace hb := hide (bel_next hb.out h1)
    replace bx := hide (bx.out.below h1)
    clear h1
    have c7 := cells7 bx.out
    go_wp2_with fail
    clear c7
    refine (awake _ (HT.out.below hb.out)).mono ?_
    rintro e w9 ⟨rfl, h1⟩
    replace hb := hide (bel_next hb.out h1)
    replace bx := hide (bx.out.below h1)
    clear h1
    go_wp2
    go_ret
    exact ⟨rfl, hb.out⟩
  by_cases v1 : 4 < v
  · clear hok r1 r2 B1 B2
    go_enter Tryd.func3, Tryd.ntmps3
    go_upto_region 1 with fail
    generalize (w.alloc (.cells #[.int .i64 v, .int .u32 a, .int .u32 b, .int .u32 c, .int .u32 d, .int .u32 x, .int .u32 y] 24)) = w0 at *
    go_wp2_with fail
    refine (awake _ (HT.out.below hb.out)).mono ?_
    rintro e w1 ⟨rfl, h1⟩
    replace hb := hide (bel_next hb.out h1)
    replace bx := hide (bx.out.below h1)
    clear h1
    have c7 := cells7 bx.out
    go_wp2_with fail
    clear c7
    refine (awake _ (HT.out.below hb.out)).mono ?_
    rintro e w9 ⟨rfl, h1⟩
    replace hb := hide (bel_next hb.out h1)
    replace bx := hide (bx.out.below h1)
    clear h1
    go_wp2
    go_ret
    exact ⟨rfl, hb.out⟩
  have hok := hok (by omega) (by omega)
  by_cases hn : 500 < n1
  · have hn' : (500 : Int) < n1 := by omega
    clear hok r1 r2 B1 B2
    go_enter Tryd.func3, Tryd.ntmps3
    go_upto_region 1 with fail
    generalize (w.alloc (.cells #[.int .i64 v, .int .u32 a, .int .u32 b, .int .u32 c, .int .u32 d, .int .u32 x, .int .u32 y] 24)) = w0 at *
    go_wp2_with fail
    refine (awake _ (HT.out.below hb.out)).mono ?_
    rintro e w1 ⟨rfl, h1⟩
    replace hb := hide (bel_next hb.out h1)
    replace bx := hide (bx.out.below h1)
    clear h1
    have c7 := cells7 bx.out
    go_wp2_with fail
    clear c7
    refine (awake _ (HT.out.below hb.out)).mono ?_
    rintro e w9 ⟨rfl, h1⟩
    replace hb := hide (bel_next hb.out h1)
    replace bx := hide (bx.out.below h1)
    clear h1
    go_wp2
    go_ret
    exact ⟨rfl, hb.out⟩
  by_cases hn2 : 500 < n2
  · have hn' : (500 : Int) < n2 := by omega
    clear hok r1 r2 B1 B2
    go_enter Tryd.func3, Tryd.ntmps3
    go_upto_region 1 with fail
    generalize (w.alloc (.cells #[.int .i64 v, .int .u32 a, .int .u32 b, .int .u32 c, .int .u32 d, .int .u32 x, .int .u32 y] 24)) = w0 at *
    go_wp2_with fail
    refine (awake _ (HT.out.below hb.out)).mono ?_
    rintro e w1 ⟨rfl, h1⟩
    replace hb := hide (bel_next hb.out h1)
    replace bx := hide (bx.out.below h1)
    clear h1
    have c7 := cells7 bx.out
    go_wp2_with fail
    clear c7
    refine (awake _ (HT.out.below hb.out)).mono ?_
    rintro e w9 ⟨rfl, h1⟩
    replace hb := hide (bel_next hb.out h1)
    replace bx := hide (bx.out.below h1)
    clear h1
    go_wp2
    go_ret
    exact ⟨rfl, hb.out⟩
  have l1 : xs.length = n1 := by have := r1.len; simpa using this
  have l2 : ys.length = n2 := by have := r2.len; simpa using this
  have de := dec_enc xs ys _ hok
  rw [l1] at de
  have E := hide (fun w hT => hd_.Encode ⟨v, a, b, c, d, x, y⟩ w hT hok)
  have K := hide (fun w hT => hd_.Consistent ⟨v, a, b, c, d, x, y⟩ w hT)
  have BB : Bytes (xs ++ (encH ⟨v, a, b, c, d, x, y⟩ ++ ys)) := B1.app ((encH_bytes hok).app B2)
  have O1 := hide (oneCells .u8 xs)
  have O2 := hide (oneCells .u8 ys)
  have O3 := hide (oneCells .u8 (encH ⟨v, a, b, c, d, x, y⟩))
  obtain ⟨N, hN⟩ : ∃ N, N = n1 + 44 + n2 := ⟨_, rfl⟩
  obtain ⟨bs, hbs⟩ : ∃ bs, bs = xs ++ (encH ⟨v, a, b, c, d, x, y⟩ ++ ys) := ⟨_, rfl⟩
  rw [← hbs] at de BB
  have D := hide (fun A cc w hT h q e a0 hr hA hn hc hd => hd_.Decode A N cc n1 bs w hT (h := h) (q := q) (e := e) (a := a0) hr BB hA hn hc (by omega) (by omega) hd)
  have k1 : (n1 : Int) ≤ 500 := by omega
  have k2 : (n2 : Int) ≤ 500 := by omega
  have m1 := hide (show 0 + n1 ≤ maxLen by simp [maxLen]; omega)
  have m2 := hide (show (0 + n1) * 1 ≤ 140737488355328 by omega)
  have m3 := hide (show n1 + 44 ≤ maxLen by simp [maxLen]; omega)
  have m4 := hide (show (n1 + 44) * 1 ≤ 140737488355328 by omega)
  have m5 := hide (show n1 + 44 + n2 ≤ maxLen by simp [maxLen]; omega)
  have m6 := hide (show (n1 + 44 + n2) * 1 ≤ 140737488355328 by omega)
  replace r1 := hide r1
  replace r2 := hide r2
  replace de := hide de
  replace hN := hide hN
  replace hbs := hide hbs
  clear hok B1 B2 l1 l2 BB
  go_enter Tryd.func3, Tryd.ntmps3
  go_upto_region 1 with fail
  generalize (w.alloc (.cells #[.int .i64 v, .int .u32 a, .int .u32 b, .int .u32 c, .int .u32 d, .int .u32 x, .int .u32 y] 24)) = w0 at *
  go_wp2_with fail
  refine (awake _ (HT.out.below hb.out)).mono ?_
  rintro e w1 ⟨rfl, h1⟩
  replace hb := hide (bel_next hb.out h1)
  replace bx := hide (bx.out.below h1)
  clear h1
  have c7 := cells7 bx.out
  go_upto_region 3 with fail
  clear c7
  have hb1 := hide hb.out.size
  go_cut [7] (fun s7 wx => ∃ (A7 : Option Addr) (c7 : Nat), s7 = .slice A7 N c7 ∧ Ow wx w1.heap.size 5 A7 N c7 (bs.map (Value.int .u8)) ∧ Below w1.heap.size w1 wx)
  case first =>
    have hoE := hide (ow_nil_ w1 5)
    have hoD := hide hoE.out.drew
    have hbE := hide (bl_alloc (Below.refl w1.heap.size w1) (.cells #[] 5))
    have hbD := hide (bl_drew hbE.out)
    have rE := hide ((r1.out.below hb.out).alloc (.cells #[] 5))
    have rD := hide rE.out.drew
    have c7 := cells7 bx.out
    have e7 := cells7 (bx.out.alloc (.cells #[] 5))
    go_region_law (first
      | (refine step_apA elU8_ hoD.out hbD.out (Nat.le_refl _) rD.out (.tmp 34) (.tmp 35) rfl rfl rfl rfl nil1.out O1.out m1.out m2.out ?_; intro A9 c9 w9 ho9 h1 _; rw [Nat.zero_add] at ho9 ⊢; rw [List.nil_append] at ho9; replace ho9 := hide ho9; have bx9 := hide (bx.out.below h1); have x9 := cells7 bx9.out; replace h1 := hide h1)
      | (refine step_apA elU8_ hoE.out hbE.out (Nat.le_refl _) rE.out (.tmp 34) (.tmp 35) rfl rfl rfl rfl nil1.out O1.out m1.out m2.out ?_; intro A9 c9 w9 ho9 h1 _; rw [Nat.zero_add] at ho9 ⊢; rw [List.nil_append] at ho9; replace ho9 := hide ho9; have bx9 := hide (bx.out.below h1); have x9 := cells7 bx9.out; replace h1 := hide h1)
      | (refine step_apA elU8_ ho10.out h10.out (Nat.le_refl _) r5.out (.tmp 36) (.tmp 38) rfl rfl rfl rfl nil5.out O3.out m3.out m4.out ?_; intro A11 c11 w11 ho11 h11 _; replace ho11 := hide ho11; replace h11 := hide h11)
      | (refine step_apA elU8_ ho11.out h11.out (Nat.le_refl _) (r2.out.below (bel_next hb.out h11.out)) (.tmp 39) (.tmp 40) rfl rfl rfl rfl nil2.out O2.out m5.out m6.out ?_; intro A12 c12 w12 ho12 h12 _; rw [← hN.out] at ho12 ⊢; replace ho12 := hide ho12; replace h12 := hide h12)
      | (go_simp; go_at_call 8; refine (E.out _ (HT.out.below (bel_next hb.out h1.out))).mono ?_; rintro e w10 ⟨A5, c5, rfl, o5, h5⟩; have ho10 := hide (ho9.out.below h5); have h10 := hide (bel_next h1.out h5); have r5 := hide o5.rd; have nil5 := hide o5.nilcap))
    all_goals
      go_wp2_with fail
      go_meet
      have hf := ho12.out
      rw [← List.map_append, ← List.map_append, List.append_assoc, ← hbs.out] at hf
      exact ⟨A12, c12, rfl, hf, h12.out⟩
  case rest =>
    obtain ⟨A7, cc7, rfl, o7, h1⟩ := hcut
    replace hb := hide (bel_next hb.out h1)
    replace bx := hide (bx.out.below h1)
    clear h1
    have oc7 := o7.cap
    have om7 := o7.capMax
    have om7' : (cc7 : Int) ≤ 9223372036854775807 := by simp [maxLen] at om7; omega
    have nil7 := hide o7.nilcap
    have r7 := hide o7.rd
    clear o7
    go_wp2_with fail
    refine (cu_.New _ _ _ _).mono ?_
    rintro e w3 ⟨rfl, h1⟩
    replace hb := hide (bel_next hb.out h1)
    replace bx := hide (bx.out.below h1)
    replace r7 := hide (r7.out.below h1)
    clear h1
    have bc := hide (Bx.new w3 [.slice A7 N cc7, .int .i64 n1, .int .i64 0, .int .i64 0] 30)
    replace hb := hide (bl_alloc hb.out (.cells #[.slice A7 N cc7, .int .i64 n1, .int .i64 0, .int .i64 0] 30))
    replace bx := hide (bx.out.alloc (.cells #[.slice A7 N cc7, .int .i64 n1, .int .i64 0, .int .i64 0] 30))
    replace r7 := hide (r7.out.alloc (.cells #[.slice A7 N cc7, .int .i64 n1, .int .i64 0, .int .i64 0] 30))
    go_upto_region 6 with fail
    generalize (w3.alloc (.cells #[.slice A7 N cc7, .int .i64 n1, .int .i64 0, .int .i64 0] 30)) = w4 at *
    have c4 := bc.out.cells4
    go_wp2_with fail
    clear c4
    rcases hcon : Hd.con ⟨v, a, b, c, d, x, y⟩
    · rw [hcon] at K
      have de2 := de.out
      rw [if_neg (by rw [hcon]; decide)] at de2
      refine (D.out _ _ _ (HT.out.below hb.out) ⟨0, 0, 0, 0, 0, 0, 0⟩ (n1 + 44) 6 n1 r7.out nil7 oc7 (by omega) de2).mono ?_
      rintro e w5 ⟨rfl, h1⟩
      replace hb := hide (bel_next hb.out h1)
      replace bx := hide (bx.out.below h1)
      replace r7 := hide (r7.out.below h1)
      replace bc := hide (bc.out.below h1)
      clear h1
      clear r7 bc
      have b9 := hide ((Bx.new w5 [.int .i64 0, .int .u32 0, .int .u32 0, .int .u32 0, .int .u32 0, .int .u32 0, .int .u32 0] 24).alloc (.cells #[.slice A7 N cc7, .int .i64 (n1 + 44), .int .i64 6, .int .i64 n1] 30))
      have b10 := hide (Bx.snd4 w5 (.cells #[.int .i64 0, .int .u32 0, .int .u32 0, .int .u32 0, .int .u32 0, .int .u32 0, .int .u32 0] 24) (.slice A7 N cc7) (.int .i64 (n1 + 44)) (.int .i64 6) (.int .i64 n1) 30)
      replace hb := hide (bl_alloc (bl_alloc hb.out (.cells #[.int .i64 0, .int .u32 0, .int .u32 0, .int .u32 0, .int .u32 0, .int .u32 0, .int .u32 0] 24)) (.cells #[.slice A7 N cc7, .int .i64 (n1 + 44), .int .i64 6, .int .i64 n1] 30))
      replace bx := hide ((bx.out.alloc (.cells #[.int .i64 0, .int .u32 0, .int .u32 0, .int .u32 0, .int .u32 0, .int .u32 0, .int .u32 0] 24)).alloc (.cells #[.slice A7 N cc7, .int .i64 (n1 + 44), .int .i64 6, .int .i64 n1] 30))
      go_upto_region 7 with fail
      generalize ((w5.alloc (.cells #[.int .i64 0, .int .u32 0, .int .u32 0, .int .u32 0, .int .u32 0, .int .u32 0, .int .u32 0] 24)).alloc (.cells #[.slice A7 N cc7, .int .i64 (n1 + 44), .int .i64 6, .int .i64 n1] 30)) = w6 at *
      have c7 := cells7 bx.out
      go_wp2_with fail
      refine (K.out _ (HT.out.below hb.out)).mono ?_
      rintro e w7 ⟨rfl, h1⟩
      replace hb := hide (bel_next hb.out h1)
      replace bx := hide (bx.out.below h1)
      replace b9 := hide (b9.out.below h1)
      replace b10 := hide (b10.out.below h1)
      clear h1
      clear c7
      have c7 := cells7 bx.out
      have c9 := cells7 b9.out
      have c10 := b10.out.cells4
      clear bx b9 b10
      go_wp2
      go_ret
      exact ⟨rfl, hb.out⟩
    · rw [hcon] at K
      have de2 := de.out
      rw [if_pos hcon] at de2
      refine (D.out _ _ _ (HT.out.below hb.out) ⟨v, a, b, c, d, x, y⟩ (n1 + 44) 0 0 r7.out nil7 oc7 (by omega) de2).mono ?_
      rintro e w5 ⟨rfl, h1⟩
      replace hb := hide (bel_next hb.out h1)
      replace bx := hide (bx.out.below h1)
      replace r7 := hide (r7.out.below h1)
      replace bc := hide (bc.out.below h1)
      clear h1
      clear r7 bc
      have b9 := hide ((Bx.new w5 [.int .i64 v, .int .u32 a, .int .u32 b, .int .u32 c, .int .u32 d, .int .u32 x, .int .u32 y] 24).alloc (.cells #[.slice A7 N cc7, .int .i64 (n1 + 44), .int .i64 0, .int .i64 0] 30))
      have b10 := hide (Bx.snd4 w5 (.cells #[.int .i64 v, .int .u32 a, .int .u32 b, .int .u32 c, .int .u32 d, .int .u32 x, .int .u32 y] 24) (.slice A7 N cc7) (.int .i64 (n1 + 44)) (.int .i64 0) (.int .i64 0) 30)
      replace hb := hide (bl_alloc (bl_alloc hb.out (.cells #[.int .i64 v, .int .u32 a, .int .u32 b, .int .u32 c, .int .u32 d, .int .u32 x, .int .u32 y] 24)) (.cells #[.slice A7 N cc7, .int .i64 (n1 + 44), .int .i64 0, .int .i64 0] 30))
      replace bx := hide ((bx.out.alloc (.cells #[.int .i64 v, .int .u32 a, .int .u32 b, .int .u32 c, .int .u32 d, .int .u32 x, .int .u32 y] 24)).alloc (.cells #[.slice A7 N cc7, .int .i64 (n1 + 44), .int .i64 0, .int .i64 0] 30))
      go_upto_region 7 with fail
      generalize ((w5.alloc (.cells #[.int .i64 v, .int .u32 a, .int .u32 b, .int .u32 c, .int .u32 d, .int .u32 x, .int .u32 y] 24)).alloc (.cells #[.slice A7 N cc7, .int .i64 (n1 + 44), .int .i64 0, .int .i64 0] 30)) = w6 at *
      have c7 := cells7 bx.out
      go_wp2_with fail
      refine (K.out _ (HT.out.below hb.out)).mono ?_
      rintro e w7 ⟨rfl, h1⟩
      replace hb := hide (bel_next hb.out h1)
      replace bx := hide (bx.out.below h1)
      replace b9 := hide (b9.out.below h1)
      replace b10 := hide (b10.out.below h1)
      clear h1
      clear c7
      have c7 := cells7 bx.out
      have c9 := cells7 b9.out
      have c10 := b10.out.cells4
      clear bx b9 b10
      go_wp2
      go_ret
      exact ⟨rfl, hb.out⟩
end l13_
end Go.Proofs.YtakimiiggemfiaaDoor
