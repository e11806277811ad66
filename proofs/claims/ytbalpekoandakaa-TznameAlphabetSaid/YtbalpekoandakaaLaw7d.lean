/-
  THE WALKS OF THE LAWS OF LAYER 7 (zoneinfolaw07): TznameAlphabet. No conditions.
-/
import Derived.Test.YtbalpekoandakaaLaw7
import Derived.Test.YtbalpekoandakaaTnMath
namespace Go.Proofs.Ytbalpekoandakaa
open Go.ChangeShapes Go.WideShapes Go.ChangeAt Go.RowKit
set_option linter.unusedVariables false
theorem wf_u16' {n : Int} (h : (Lit.int .u16 n).wf = true) : 0 ≤ n ∧ n < 65536 := by simp [Lit.wf, IntKind.min, IntKind.max, IntKind.signed, IntKind.bits] at h; omega
namespace l7_
set_option maxRecDepth 100000 in
set_option maxHeartbeats 4000000 in
theorem alphabet (s : ByteArray) (t c : Int) (w : World) (hs : s.size ≤ maxLen) (ht : (Lit.int .u16 t).wf = true) (hc : (Lit.int .u8 c).wf = true) :
    Calls Try.prog 6 #[.string s, .int .u16 t, .int .u8 c] w fun e w' => e = .returned (.bool true) ∧ Below w.heap.size w w' := by
  obtain ⟨c0, c1⟩ := wf_u8 hc
  obtain ⟨t0, t1⟩ := wf_u16' ht
  clear hc ht
  have hb := hide (Below.refl w.heap.size w)
  have U := hide (fun w => r7_.Valid s w hs)
  rcases hv : nameOk (byt s)
  · rw [hv] at U
    clear hv
    go_enter Try.func6, Try.ntmps6
    go_wp2_with fail
    refine (awake _).mono ?_
    rintro e w1 ⟨rfl, h1⟩
    replace hb := hide (bel_next hb.out h1)
    clear h1
    go_wp2_with fail
    refine (U.out _).mono ?_
    rintro e w2 ⟨rfl, rfl⟩
    go_wp2_with fail
    refine (awake _).mono ?_
    rintro e w1 ⟨rfl, h1⟩
    replace hb := hide (bel_next hb.out h1)
    clear h1
    go_wp2
    go_ret
    exact ⟨rfl, hb.out⟩
  rw [hv] at U
  have h2 := nameOk_iff.1 hv
  rw [len_byt] at h2
  obtain ⟨h3, h4, _⟩ := h2
  obtain ⟨k, hk⟩ : ∃ k : Nat, t % ((s.size : Int) + 1) = k := ⟨(t % ((s.size : Int) + 1)).toNat, by have := Int.emod_nonneg t (show (s.size : Int) + 1 ≠ 0 by omega); omega⟩
  have hks : k ≤ s.size := by have := Int.emod_lt_of_pos t (show (0 : Int) < (s.size : Int) + 1 by omega); omega
  have A := hide (fun w => tn_.IsAlpha c w c0 c1)
  have V := hide (fun w => tn_.Valid s w (by omega))
  have V2 := hide (fun w => tn_.Valid (s.extract 0 2) w (by simp; omega))
  rw [hv] at V
  rw [show nameOk (byt (s.extract 0 2)) = false by rw [byt_extract]; exact nameOk_short _ (by simp; omega)] at V2
  obtain ⟨y, hy⟩ : ∃ y : UInt8, (y.toNat : Int) = c := ⟨UInt8.ofNat c.toNat, by simp; omega⟩
  have e5 : byt (s.extract 0 k ++ ⟨#[y]⟩ ++ s.extract k s.size) = (byt s).take k ++ y :: (byt s).drop k := by
    rw [byt_append, byt_append, byt_extract, byt_extract]
    have e6 : (byt s).take s.size = byt s := by rw [← len_byt]; exact List.take_length
    rw [e6]
    simp [byt]
  have V1 := hide (fun w => tn_.Valid (s.extract 0 k ++ ⟨#[y]⟩ ++ s.extract k s.size) w (by
    rw [← len_byt, e5]; have := len_byt s; simp; omega))
  rw [e5, nameOk_ins k y hv, len_byt] at V1
  clear hv e5
  have hcv : ∀ (W : World) (g : Nat), W.cell? ⟨g, 0, none⟩ = some (.int .u8 c) → (convert 31 9 (.slice (some ⟨g, 0, none⟩) 1 1)).run Try.prog W = .ok (.string ⟨#[y]⟩) W := by
    intro W g h
    exact run_convert_bytes_back W _ _ 5 ⟨g, 0, none⟩ 1 [y] Try.underlying31 Try.underlying5 Try.underlying9 (fun j hj => by
      obtain rfl : j = 0 := by simpa using hj
      simp
      rw [hy]
      exact h)
  go_enter Try.func6, Try.ntmps6
  go_wp2_with fail
  refine (awake _).mono ?_
  rintro e w1 ⟨rfl, h1⟩
  replace hb := hide (bel_next hb.out h1)
  clear h1
  go_wp2_with fail
  refine (U.out _).mono ?_
  rintro e w2 ⟨rfl, rfl⟩
  go_wp2
  rw [hk]
  have k0 : (0 : Int) ≤ (k : Int) := by omega
  have k1 : (k : Int) ≤ (s.size : Int) := by omega
  go_region
  replace hb := hide (bl_drew (bl_alloc hb.out (.cells #[.int .u8 c] 5)))
  generalize s.extract 0 k ++ ⟨#[y]⟩ ++ s.extract k s.size = X at *
  rw [show nameB y = nameI c by unfold nameB; rw [hy]] at V1
  clear hcv hy hk k0 k1 U
  have hsl : s.size < 255 ∨ s.size = 255 := by omega
  have i2 : (2 : Int) ≤ s.size := by omega
  have hc : (alphaI c = true ∧ nameI c = true) ∨ (alphaI c = false ∧ 48 ≤ c ∧ c ≤ 57 ∧ nameI c = true) ∨ (alphaI c = false ∧ c = 43 ∧ nameI c = true) ∨ (alphaI c = false ∧ c = 45 ∧ nameI c = true) ∨ (alphaI c = false ∧ c < 48 ∧ ¬ c = 43 ∧ ¬ c = 45 ∧ nameI c = false) ∨ (alphaI c = false ∧ 57 < c ∧ ¬ c = 43 ∧ ¬ c = 45 ∧ nameI c = false) := by
    unfold nameI
    cases h : alphaI c
    · simp
      omega
    · simp
  rcases hc with ⟨h1, h2⟩ | ⟨h1, d1, d2, h2⟩ | ⟨h1, rfl, h2⟩ | ⟨h1, rfl, h2⟩ | ⟨h1, d1, d2, d3, h2⟩ | ⟨h1, d1, d2, d3, h2⟩
  all_goals
    rw [h1] at A
    rw [h2] at V1
    clear h1 h2
    try (have f1 : (c == 43) = false := by simpa using d2)
    try (have f2 : (c == 45) = false := by simpa using d3)
    rcases hsl with hsl | hsl
  all_goals
    first | rw [show decide (s.size < 255) = true from decide_eq_true hsl] at V1 | rw [show decide (s.size < 255) = false from decide_eq_false (by omega)] at V1
    go_wp2_with fail
    refine (A.out _).mono ?_
    rintro e w1 ⟨rfl, h1⟩
    replace hb := hide (bel_next hb.out h1)
    clear h1
    go_wp2_with fail
    refine (V1.out _).mono ?_
    rintro e w1 ⟨rfl, h1⟩
    replace hb := hide (bel_next hb.out h1)
    clear h1
    go_wp2_with fail
    refine (V2.out _).mono ?_
    rintro e w1 ⟨rfl, h1⟩
    replace hb := hide (bel_next hb.out h1)
    clear h1
    go_wp2_with fail
    refine (V.out _).mono ?_
    rintro e w1 ⟨rfl, h1⟩
    replace hb := hide (bel_next hb.out h1)
    clear h1
    go_wp2
    go_ret
    exact ⟨rfl, hb.out⟩
end l7_
end Go.Proofs.Ytbalpekoandakaa
