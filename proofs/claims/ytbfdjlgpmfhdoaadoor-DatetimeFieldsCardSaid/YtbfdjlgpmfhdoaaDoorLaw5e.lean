/-
  THE WALKS OF THE LAWS OF LAYER 5 (zoneinfolaw05): DatetimeFields. No conditions beyond the tables'.
-/
import Derived.Test.YtbfdjlgpmfhdoaaDoorDtW
namespace Go.Proofs.YtbfdjlgpmfhdoaaDoor
open Go.ChangeShapes Go.WideShapes Go.ChangeAt Go.RowKit
set_option linter.unusedVariables false
namespace l5_
set_option maxRecDepth 100000 in
set_option maxHeartbeats 4000000 in
theorem fields (a0 : Int) (w : World) (hT : Tb w) (w0 : (Lit.int .i64 a0).wf = true) :
    Calls Tryd.prog 7 #[.int .i64 a0] w fun e w' => e = .returned (.bool true) ∧ Below w.heap.size w w' := by
  obtain ⟨p0, q0⟩ := wf_i64 w0
  have hb := hide (Below.refl w.heap.size w)
  have HT := hide hT
  clear hT w0
  by_cases hlast : a0 = 9223372036854775807
  · subst hlast
    go_enter Tryd.func7, Tryd.ntmps7
    go_wp2_with fail
    refine (awake _ HT.out).mono ?_
    rintro e w1 ⟨rfl, h1⟩
    replace HT := hide (HT.out.below h1)
    replace hb := hide (bel_next hb.out h1)
    clear h1
    go_wp2_with fail
    refine (awake _ HT.out).mono ?_
    rintro e w1 ⟨rfl, h1⟩
    replace HT := hide (HT.out.below h1)
    replace hb := hide (bel_next hb.out h1)
    clear h1
    go_wp2
    go_ret
    exact ⟨rfl, hb.out⟩
  obtain ⟨y, mo, d, hd⟩ := IsDate.ex (a0 / 86400)
  obtain ⟨f3, f4, f5, f6, ht⟩ := Tod.ex a0
  have hbd := ht.bd
  have hcase : ∃ y' mo' d' g3 g4 g5 g6, IsDate ((a0 + 1) / 86400) y' mo' d' ∧ Tod (a0 + 1) g3 g4 g5 g6 ∧
      ((f5 < 59 ∧ y' = y ∧ mo' = mo ∧ d' = d ∧ g3 = f3 ∧ g4 = f4 ∧ g5 = f5 + 1 ∧ g6 = f6) ∨ (f5 = 59 ∧ f4 < 59 ∧ y' = y ∧ mo' = mo ∧ d' = d ∧ g3 = f3 ∧ g4 = f4 + 1 ∧ g5 = 0 ∧ g6 = f6) ∨
       (f5 = 59 ∧ f4 = 59 ∧ f3 < 23 ∧ g3 = f3 + 1 ∧ g4 = 0 ∧ g5 = 0 ∧ g6 = f6) ∨ (f5 = 59 ∧ f4 = 59 ∧ f3 = 23 ∧ g3 = 0 ∧ g4 = 0 ∧ g5 = 0 ∧ g6 = (f6 + 1) % 7)) := by
    obtain ⟨rfl, rfl, rfl, rfl⟩ := ht
    by_cases hn : a0 % 86400 = 86399
    · obtain ⟨y', mo', d', hd'⟩ := IsDate.ex ((a0 + 1) / 86400)
      exact ⟨y', mo', d', 0, 0, 0, _, hd', ⟨by omega, by omega, by omega, rfl⟩, .inr (.inr (.inr ⟨by omega, by omega, by omega, rfl, rfl, rfl, by omega⟩))⟩
    · have e : (a0 + 1) / 86400 = a0 / 86400 := by omega
      by_cases h5 : a0 % 86400 % 60 < 59
      · exact ⟨y, mo, d, _, _, _, _, by rw [e]; exact hd, ⟨rfl, rfl, rfl, rfl⟩, .inl ⟨h5, rfl, rfl, rfl, by omega, by omega, by omega, by omega⟩⟩
      · by_cases h4 : a0 % 86400 % 3600 / 60 < 59
        · exact ⟨y, mo, d, _, _, _, _, by rw [e]; exact hd, ⟨rfl, rfl, rfl, rfl⟩, .inr (.inl ⟨by omega, h4, rfl, rfl, rfl, by omega, by omega, by omega, by omega⟩)⟩
        · exact ⟨y, mo, d, _, _, _, _, by rw [e]; exact hd, ⟨rfl, rfl, rfl, rfl⟩, .inr (.inr (.inl ⟨by omega, by omega, by omega, by omega, by omega, by omega, by omega⟩))⟩
  obtain ⟨y', mo', d', g3, g4, g5, g6, hd', ht', hc⟩ := hcase
  have O0 := hide (fun w hT => dt_.Of_is w hT p0 q0 hd ht)
  have O1 := hide (fun w hT => dt_.Of_is w hT (by omega) (by omega) hd' ht')
  have S0 := hide (fun w hT => dt_.Split a0 w hT p0 q0)
  obtain ⟨b30, b31, b40, b41, b50, b51, b60, b61, hsum⟩ := hbd
  rw [← hsum] at S0
  clear hd ht hd' ht' hsum
  generalize a0 / 86400 = n at *
  rcases hc with ⟨c1, rfl, rfl, rfl, rfl, rfl, rfl, rfl⟩ | ⟨rfl, c1, rfl, rfl, rfl, rfl, rfl, rfl, rfl⟩ | ⟨rfl, rfl, c1, rfl, rfl, rfl, rfl⟩ | ⟨rfl, rfl, rfl, rfl, rfl, rfl, rfl⟩
  · go_enter Tryd.func7, Tryd.ntmps7
    go_wp2_with fail
    refine (awake _ HT.out).mono ?_
    rintro e w1 ⟨rfl, h1⟩
    replace HT := hide (HT.out.below h1)
    replace hb := hide (bel_next hb.out h1)
    clear h1
    go_wp2_with fail
    refine (O0.out _ HT.out).mono ?_
    rintro e wx ⟨rfl, h1⟩
    have b1 := hide (Bx.new wx [.int .i64 y', .int .i64 mo', .int .i64 d', .int .i64 (g3), .int .i64 (g4), .int .i64 (f5), .int .i64 (g6)] 23)
    have hbx := hide (bl_new wx (.cells #[.int .i64 y', .int .i64 mo', .int .i64 d', .int .i64 (g3), .int .i64 (g4), .int .i64 (f5), .int .i64 (g6)] 23))
    replace HT := hide ((HT.out.below h1).below hbx.out)
    replace hb := hide (bel_next (bel_next hb.out h1) hbx.out)
    clear h1 hbx
    go_wp2_with fail
    refine (O1.out _ HT.out).mono ?_
    rintro e wz ⟨rfl, h1⟩
    have hbz := hide (bl_new wz (.cells #[.int .i64 y', .int .i64 mo', .int .i64 d', .int .i64 (g3), .int .i64 (g4), .int .i64 (f5 + 1), .int .i64 (g6)] 23))
    replace b1 := hide ((b1.out.below h1).below hbz.out)
    have b2 := hide (Bx.new wz [.int .i64 y', .int .i64 mo', .int .i64 d', .int .i64 (g3), .int .i64 (g4), .int .i64 (f5 + 1), .int .i64 (g6)] 23)
    replace HT := hide ((HT.out.below h1).below hbz.out)
    replace hb := hide (bel_next (bel_next hb.out h1) hbz.out)
    clear h1 hbz
    go_wp2_with fail
    refine (S0.out _ HT.out).mono ?_
    rintro e ws ⟨rfl, h1⟩
    replace b1 := hide (b1.out.below h1)
    replace b2 := hide (b2.out.below h1)
    replace hb := hide (bel_next hb.out h1)
    clear h1 HT
    obtain ⟨x0, x1, x2, x3, x4, x5, x6⟩ := cells7 b1.out
    obtain ⟨z0, z1, z2, z3, z4, z5, z6⟩ := cells7 b2.out
    have l1 := b1.out.lt
    have l2 := b2.out.lt
    go_wp2_with fail
    go_ret
    exact ⟨by first | rfl | exact retb (by simp), by first | exact hb.out | exact bl_alloc hb.out _⟩
  · go_enter Tryd.func7, Tryd.ntmps7
    go_wp2_with fail
    refine (awake _ HT.out).mono ?_
    rintro e w1 ⟨rfl, h1⟩
    replace HT := hide (HT.out.below h1)
    replace hb := hide (bel_next hb.out h1)
    clear h1
    go_wp2_with fail
    refine (O0.out _ HT.out).mono ?_
    rintro e wx ⟨rfl, h1⟩
    have b1 := hide (Bx.new wx [.int .i64 y', .int .i64 mo', .int .i64 d', .int .i64 (g3), .int .i64 (f4), .int .i64 (59), .int .i64 (g6)] 23)
    have hbx := hide (bl_new wx (.cells #[.int .i64 y', .int .i64 mo', .int .i64 d', .int .i64 (g3), .int .i64 (f4), .int .i64 (59), .int .i64 (g6)] 23))
    replace HT := hide ((HT.out.below h1).below hbx.out)
    replace hb := hide (bel_next (bel_next hb.out h1) hbx.out)
    clear h1 hbx
    go_wp2_with fail
    refine (O1.out _ HT.out).mono ?_
    rintro e wz ⟨rfl, h1⟩
    have hbz := hide (bl_new wz (.cells #[.int .i64 y', .int .i64 mo', .int .i64 d', .int .i64 (g3), .int .i64 (f4 + 1), .int .i64 (0), .int .i64 (g6)] 23))
    replace b1 := hide ((b1.out.below h1).below hbz.out)
    have b2 := hide (Bx.new wz [.int .i64 y', .int .i64 mo', .int .i64 d', .int .i64 (g3), .int .i64 (f4 + 1), .int .i64 (0), .int .i64 (g6)] 23)
    replace HT := hide ((HT.out.below h1).below hbz.out)
    replace hb := hide (bel_next (bel_next hb.out h1) hbz.out)
    clear h1 hbz
    go_wp2_with fail
    refine (S0.out _ HT.out).mono ?_
    rintro e ws ⟨rfl, h1⟩
    replace b1 := hide (b1.out.below h1)
    replace b2 := hide (b2.out.below h1)
    replace hb := hide (bel_next hb.out h1)
    clear h1 HT
    obtain ⟨x0, x1, x2, x3, x4, x5, x6⟩ := cells7 b1.out
    obtain ⟨z0, z1, z2, z3, z4, z5, z6⟩ := cells7 b2.out
    have l1 := b1.out.lt
    have l2 := b2.out.lt
    go_wp2_with fail
    go_ret
    exact ⟨by first | rfl | exact retb (by simp), by first | exact hb.out | exact bl_alloc hb.out _⟩
  · go_enter Tryd.func7, Tryd.ntmps7
    go_wp2_with fail
    refine (awake _ HT.out).mono ?_
    rintro e w1 ⟨rfl, h1⟩
    replace HT := hide (HT.out.below h1)
    replace hb := hide (bel_next hb.out h1)
    clear h1
    go_wp2_with fail
    refine (O0.out _ HT.out).mono ?_
    rintro e wx ⟨rfl, h1⟩
    have b1 := hide (Bx.new wx [.int .i64 y, .int .i64 mo, .int .i64 d, .int .i64 (f3), .int .i64 (59), .int .i64 (59), .int .i64 (g6)] 23)
    have hbx := hide (bl_new wx (.cells #[.int .i64 y, .int .i64 mo, .int .i64 d, .int .i64 (f3), .int .i64 (59), .int .i64 (59), .int .i64 (g6)] 23))
    replace HT := hide ((HT.out.below h1).below hbx.out)
    replace hb := hide (bel_next (bel_next hb.out h1) hbx.out)
    clear h1 hbx
    go_wp2_with fail
    refine (O1.out _ HT.out).mono ?_
    rintro e wz ⟨rfl, h1⟩
    have hbz := hide (bl_new wz (.cells #[.int .i64 y', .int .i64 mo', .int .i64 d', .int .i64 (f3 + 1), .int .i64 (0), .int .i64 (0), .int .i64 (g6)] 23))
    replace b1 := hide ((b1.out.below h1).below hbz.out)
    have b2 := hide (Bx.new wz [.int .i64 y', .int .i64 mo', .int .i64 d', .int .i64 (f3 + 1), .int .i64 (0), .int .i64 (0), .int .i64 (g6)] 23)
    replace HT := hide ((HT.out.below h1).below hbz.out)
    replace hb := hide (bel_next (bel_next hb.out h1) hbz.out)
    clear h1 hbz
    go_wp2_with fail
    refine (S0.out _ HT.out).mono ?_
    rintro e ws ⟨rfl, h1⟩
    replace b1 := hide (b1.out.below h1)
    replace b2 := hide (b2.out.below h1)
    replace hb := hide (bel_next hb.out h1)
    clear h1 HT
    obtain ⟨x0, x1, x2, x3, x4, x5, x6⟩ := cells7 b1.out
    obtain ⟨z0, z1, z2, z3, z4, z5, z6⟩ := cells7 b2.out
    have l1 := b1.out.lt
    have l2 := b2.out.lt
    go_wp2_with fail
    go_ret
    exact ⟨by first | rfl | exact retb (by simp), by first | exact hb.out | exact bl_alloc hb.out _⟩
  · go_enter Tryd.func7, Tryd.ntmps7
    go_wp2_with fail
    refine (awake _ HT.out).mono ?_
    rintro e w1 ⟨rfl, h1⟩
    replace HT := hide (HT.out.below h1)
    replace hb := hide (bel_next hb.out h1)
    clear h1
    go_wp2_with fail
    refine (O0.out _ HT.out).mono ?_
    rintro e wx ⟨rfl, h1⟩
    have b1 := hide (Bx.new wx [.int .i64 y, .int .i64 mo, .int .i64 d, .int .i64 (23), .int .i64 (59), .int .i64 (59), .int .i64 (f6)] 23)
    have hbx := hide (bl_new wx (.cells #[.int .i64 y, .int .i64 mo, .int .i64 d, .int .i64 (23), .int .i64 (59), .int .i64 (59), .int .i64 (f6)] 23))
    replace HT := hide ((HT.out.below h1).below hbx.out)
    replace hb := hide (bel_next (bel_next hb.out h1) hbx.out)
    clear h1 hbx
    go_wp2_with fail
    refine (O1.out _ HT.out).mono ?_
    rintro e wz ⟨rfl, h1⟩
    have hbz := hide (bl_new wz (.cells #[.int .i64 y', .int .i64 mo', .int .i64 d', .int .i64 (0), .int .i64 (0), .int .i64 (0), .int .i64 ((f6 + 1) % 7)] 23))
    replace b1 := hide ((b1.out.below h1).below hbz.out)
    have b2 := hide (Bx.new wz [.int .i64 y', .int .i64 mo', .int .i64 d', .int .i64 (0), .int .i64 (0), .int .i64 (0), .int .i64 ((f6 + 1) % 7)] 23)
    replace HT := hide ((HT.out.below h1).below hbz.out)
    replace hb := hide (bel_next (bel_next hb.out h1) hbz.out)
    clear h1 hbz
    go_wp2_with fail
    refine (S0.out _ HT.out).mono ?_
    rintro e ws ⟨rfl, h1⟩
    replace b1 := hide (b1.out.below h1)
    replace b2 := hide (b2.out.below h1)
    replace hb := hide (bel_next hb.out h1)
    clear h1 HT
    obtain ⟨x0, x1, x2, x3, x4, x5, x6⟩ := cells7 b1.out
    obtain ⟨z0, z1, z2, z3, z4, z5, z6⟩ := cells7 b2.out
    have l1 := b1.out.lt
    have l2 := b2.out.lt
    go_wp2_with fail
    go_ret
    exact ⟨by first | rfl | exact retb (by simp), by first | exact hb.out | exact bl_alloc hb.out _⟩
end l5_
end Go.Proofs.YtbfdjlgpmfhdoaaDoor
