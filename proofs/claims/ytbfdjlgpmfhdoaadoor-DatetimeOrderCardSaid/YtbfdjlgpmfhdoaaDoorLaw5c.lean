/-
  THE WALKS OF THE LAWS OF LAYER 5 (zoneinfolaw05): DatetimeOrder. No conditions beyond the tables'.
-/
import Derived.Test.YtbfdjlgpmfhdoaaDoorDtW
import Derived.Deep.DeepCutAuto
namespace Go.Proofs.YtbfdjlgpmfhdoaaDoor
open Go.ChangeShapes Go.WideShapes Go.ChangeAt Go.RowKit
set_option linter.unusedVariables false
namespace l5_
set_option maxRecDepth 100000 in
set_option maxHeartbeats 4000000 in
theorem order (a0 a1 : Int) (w : World) (hT : Tb w) (w0 : (Lit.int .i64 a0).wf = true) (w1 : (Lit.int .i64 a1).wf = true) :
    Calls Tryd.prog 5 #[.int .i64 a0, .int .i64 a1] w fun e w' => e = .returned (.bool true) ∧ Below w.heap.size w w' := by
  obtain ⟨p0, q0⟩ := wf_i64 w0
  obtain ⟨p1, q1⟩ := wf_i64 w1
  have hb := hide (Below.refl w.heap.size w)
  have HT := hide hT
  clear hT w0 w1
  have S0 := hide (fun w hT => dt_.Split a0 w hT p0 q0)
  have S1 := hide (fun w hT => dt_.Split a1 w hT p1 q1)
  obtain ⟨y, mo, d0, hd⟩ := IsDate.ex (a0 / 86400)
  obtain ⟨f3, f4, f5, f6, ht⟩ := Tod.ex a0
  have hf6 : 0 ≤ f6 := ht.bd.2.2.2.2.2.2.1
  have hf6' : f6 ≤ 6 := ht.bd.2.2.2.2.2.2.2.1
  have O0 := hide (fun w hT => dt_.Of_is w hT p0 q0 hd ht)
  obtain ⟨y', mo', d0', hd'⟩ := IsDate.ex ((a0 + 86400) / 86400)
  have ht' : Tod (a0 + 86400) f3 f4 f5 ((f6 + 1) % 7) := by
    obtain ⟨rfl, rfl, rfl, rfl⟩ := ht
    refine ⟨by omega, by omega, by omega, by omega⟩
  have O1 := hide (fun (w : World) (hT : Tb w) (h : a0 + 86400 < 9223372036854775808) => dt_.Of_is w hT (by omega) h hd' ht')
  clear hd hd' ht ht'
  obtain ⟨d, hdd⟩ : ∃ d, d = a0 / 86400 := ⟨_, rfl⟩
  obtain ⟨s, hss⟩ : ∃ s, s = a0 % 86400 := ⟨_, rfl⟩
  obtain ⟨e, hee⟩ : ∃ e, e = a1 / 86400 := ⟨_, rfl⟩
  obtain ⟨r, hrr⟩ : ∃ r, r = a1 % 86400 := ⟨_, rfl⟩
  rw [← hdd, ← hss] at S0
  rw [← hee, ← hrr] at S1
  have t1 : 86400 * d + s = a0 := by omega
  have t2 : 86400 * e + r = a1 := by omega
  have s0 : 0 ≤ s := by omega
  have s1 : s < 86400 := by omega
  have r0 : 0 ≤ r := by omega
  have r1 : r < 86400 := by omega
  clear hdd hss hee hrr
  have nb : ∀ x z : Int, x ≠ z → (x == z) = false := fun x z h => by simpa using h
  have nd : ∀ x z : Int, z ≤ x → decide (x < z) = false := fun x z h => by simp; omega
  have hc : (a0 < a1 ∧ d < e ∧ (a0 == a1) = false ∧ (d == e) = false) ∨ (a0 < a1 ∧ d = e ∧ s < r ∧ (a0 == a1) = false ∧ (s == r) = false) ∨ (a0 = a1 ∧ d = e ∧ s = r) ∨ (a1 < a0 ∧ e < d ∧ (a0 == a1) = false ∧ (d == e) = false ∧ decide (a0 < a1) = false ∧ decide (d < e) = false) ∨ (a1 < a0 ∧ d = e ∧ r < s ∧ (a0 == a1) = false ∧ (s == r) = false ∧ decide (a0 < a1) = false ∧ decide (s < r) = false) := by
    have h : (a0 < a1 ∧ d < e) ∨ (a0 < a1 ∧ d = e ∧ s < r) ∨ (a0 = a1 ∧ d = e ∧ s = r) ∨ (a1 < a0 ∧ e < d) ∨ (a1 < a0 ∧ d = e ∧ r < s) := by omega
    rcases h with ⟨h1, h2⟩ | ⟨h1, h2, h3⟩ | h | ⟨h1, h2⟩ | ⟨h1, h2, h3⟩
    · exact .inl ⟨h1, h2, nb _ _ (by omega), nb _ _ (by omega)⟩
    · exact .inr (.inl ⟨h1, h2, h3, nb _ _ (by omega), nb _ _ (by omega)⟩)
    · exact .inr (.inr (.inl h))
    · exact .inr (.inr (.inr (.inl ⟨h1, h2, nb _ _ (by omega), nb _ _ (by omega), nd _ _ (by omega), nd _ _ (by omega)⟩)))
    · exact .inr (.inr (.inr (.inr ⟨h1, h2, h3, nb _ _ (by omega), nb _ _ (by omega), nd _ _ (by omega), nd _ _ (by omega)⟩)))
  clear nb nd
  have hz : d < 0 ∨ 0 ≤ d := by omega
  have hl : 9223372036854689407 < a0 ∨ (a0 ≤ 9223372036854689407 ∧ a0 + 86400 < 9223372036854775808) := by omega
  have k0 : decide (s < 0) = false := by simp; omega
  have k1 : decide (86400 ≤ s) = false := by simp; omega
  rcases hc with ⟨c1, c2, c3, c4⟩ | ⟨c1, rfl, c3, c4, c5⟩ | ⟨rfl, rfl, rfl⟩ | ⟨c1, c2, c3, c4, c5, c6⟩ | ⟨c1, rfl, c3, c4, c5, c6, c7⟩
  all_goals
    go_enter Tryd.func5, Tryd.ntmps5
    go_wp2_with fail
    refine (awake _ HT.out).mono ?_
    rintro e w1 ⟨rfl, h1⟩
    replace HT := hide (HT.out.below h1)
    replace hb := hide (bel_next hb.out h1)
    clear h1
    go_wp2_with fail
    refine (S0.out _ HT.out).mono ?_
    rintro e w1 ⟨rfl, h1⟩
    replace HT := hide (HT.out.below h1)
    replace hb := hide (bel_next hb.out h1)
    clear h1
    go_wp2_with fail
    refine (S1.out _ HT.out).mono ?_
    rintro e w1 ⟨rfl, h1⟩
    replace HT := hide (HT.out.below h1)
    replace hb := hide (bel_next hb.out h1)
    clear h1
    go_upto_region 7 with fail
    rcases hz with hz | hz
    all_goals
      go_upto_region 9 with fail
      rcases hl with hl | ⟨hl, hl2⟩
      · first
          | (exfalso; omega)
          | (go_wp2_with fail
             go_ret
             exact ⟨rfl, hb.out⟩)
      · go_wp2_with fail
        refine (O0.out _ HT.out).mono ?_
        rintro e wx ⟨rfl, h1⟩
        have b1 := hide (Bx.new wx [.int .i64 y, .int .i64 mo, .int .i64 d0, .int .i64 f3, .int .i64 f4, .int .i64 f5, .int .i64 f6] 23)
        have hbx := hide (bl_new wx (.cells #[.int .i64 y, .int .i64 mo, .int .i64 d0, .int .i64 f3, .int .i64 f4, .int .i64 f5, .int .i64 f6] 23))
        replace HT := hide ((HT.out.below h1).below hbx.out)
        replace hb := hide (bel_next (bel_next hb.out h1) hbx.out)
        clear h1 hbx
        go_wp2_with fail
        refine (O1.out _ HT.out hl2).mono ?_
        rintro e wz ⟨rfl, h1⟩
        replace hb := hide (bel_next hb.out h1)
        replace b1 := hide (b1.out.below h1)
        have hfin := hide (bl_alloc hb.out (.cells #[.int .i64 y', .int .i64 mo', .int .i64 d0', .int .i64 f3, .int .i64 f4, .int .i64 f5, .int .i64 ((f6 + 1) % 7)] 23))
        replace b1 := hide (b1.out.alloc (.cells #[.int .i64 y', .int .i64 mo', .int .i64 d0', .int .i64 f3, .int .i64 f4, .int .i64 f5, .int .i64 ((f6 + 1) % 7)] 23))
        clear h1
        obtain ⟨x0, x1, x2, x3, x4, x5, x6⟩ := cells7 b1.out
        go_wp2_with fail
        go_ret
        exact ⟨rfl, hfin.out⟩
end l5_
end Go.Proofs.YtbfdjlgpmfhdoaaDoor
