/-
  THE WALKS OF THE LAWS OF LAYER 8 (zoneinfolaw08): HmsMatchesReference. No conditions.
-/
import Derived.Test.YtgbojphbodijbaaDoorLaw8
namespace Go.Proofs.YtgbojphbodijbaaDoor
open Go.ChangeShapes Go.WideShapes Go.ChangeAt Go.RowKit
set_option linter.unusedVariables false
namespace l8_
set_option maxRecDepth 100000 in
set_option maxHeartbeats 4000000 in
theorem mref (s : ByteArray) (x : Int) (w : World) (hT : Tp w) (hs : s.size ≤ maxLen) (hx : (Lit.int .i64 x).wf = true) :
    Calls Tryd.prog 3 #[.string s, .int .i64 x] w fun e w' => e = .returned (.bool true) ∧ Below w.heap.size w w' := by
  obtain ⟨x0, x1⟩ := wf_i64 hx
  clear hx
  have HT := hide hT
  clear hT
  have hb := hide (Below.refl w.heap.size w)
  by_cases hl : s.size ≤ 1000
  · have hs1 : s.size ≤ 1000000 := by omega
    have P := hide (fun w => hm_.Parse s w hs1)
    have Q := hide (fun w => r8_.Parse s w hs1)
    have V := hide (fun w => hm_.InRange x w x0 x1)
    have U := hide (fun w => r8_.InRange x w)
    generalize hmsParse (byt s) = r at *
    clear hs hs1
    by_cases hr : -604800 < x ∧ x < 604800
    · have F := hide (fun w hT => hm_.Format x w hT hr.1 hr.2)
      have G := hide (fun w => r8_.Format x w hr.1 hr.2)
      rw [show (decide (-604800 < x) && decide (x < 604800)) = true by simp [hr]] at V U
      generalize mkS (hmsFmt x) = f at *
      rcases r with _ | ⟨q, n⟩
      all_goals
        simp only [hmsRes] at P Q
        go_enter Tryd.func3, Tryd.ntmps3
        go_wp2_with fail
        refine (awake _ (HT.out.below hb.out)).mono ?_
        rintro e w1 ⟨rfl, h1⟩
        replace hb := hide (bel_next hb.out h1)
        clear h1
        go_wp2_with fail
        refine (P.out _).mono ?_
        rintro e w1 ⟨rfl, h1⟩
        replace hb := hide (bel_next hb.out h1)
        clear h1
        go_wp2_with fail
        refine (Q.out _).mono ?_
        rintro e w1 ⟨rfl, h1⟩
        replace hb := hide (bel_next hb.out h1)
        clear h1
        go_wp2_with fail
        refine (V.out _).mono ?_
        rintro e w1 ⟨rfl, h1⟩
        replace hb := hide (bel_next hb.out h1)
        clear h1
        go_wp2_with fail
        refine (U.out _).mono ?_
        rintro e w2 ⟨rfl, rfl⟩
        go_wp2_with fail
        refine (U.out _).mono ?_
        rintro e w2 ⟨rfl, rfl⟩
        go_wp2_with fail
        refine (F.out _ (HT.out.below hb.out)).mono ?_
        rintro e w1 ⟨rfl, h1⟩
        replace hb := hide (bel_next hb.out h1)
        clear h1
        go_wp2_with fail
        refine (G.out _).mono ?_
        rintro e w1 ⟨rfl, h1⟩
        replace hb := hide (bel_next hb.out h1)
        clear h1
        go_wp2
        go_ret
        exact ⟨rfl, hb.out⟩
    · rw [show (decide (-604800 < x) && decide (x < 604800)) = false by simp; omega] at V U
      rcases r with _ | ⟨q, n⟩
      all_goals
        simp only [hmsRes] at P Q
        go_enter Tryd.func3, Tryd.ntmps3
        go_wp2_with fail
        refine (awake _ (HT.out.below hb.out)).mono ?_
        rintro e w1 ⟨rfl, h1⟩
        replace hb := hide (bel_next hb.out h1)
        clear h1
        go_wp2_with fail
        refine (P.out _).mono ?_
        rintro e w1 ⟨rfl, h1⟩
        replace hb := hide (bel_next hb.out h1)
        clear h1
        go_wp2_with fail
        refine (Q.out _).mono ?_
        rintro e w1 ⟨rfl, h1⟩
        replace hb := hide (bel_next hb.out h1)
        clear h1
        go_wp2_with fail
        refine (V.out _).mono ?_
        rintro e w1 ⟨rfl, h1⟩
        replace hb := hide (bel_next hb.out h1)
        clear h1
        go_wp2_with fail
        refine (U.out _).mono ?_
        rintro e w2 ⟨rfl, rfl⟩
        go_wp2_with fail
        refine (U.out _).mono ?_
        rintro e w2 ⟨rfl, rfl⟩
        go_wp2
        go_ret
        exact ⟨rfl, hb.out⟩
  · have hl' : (1000 : Int) < s.size := by omega
    go_enter Tryd.func3, Tryd.ntmps3
    go_wp2_with fail
    refine (awake _ (HT.out.below hb.out)).mono ?_
    rintro e w1 ⟨rfl, h1⟩
    replace hb := hide (bel_next hb.out h1)
    clear h1
    go_wp2_with fail
    refine (awake _ (HT.out.below hb.out)).mono ?_
    rintro e w1 ⟨rfl, h1⟩
    replace hb := hide (bel_next hb.out h1)
    clear h1
    go_wp2
    go_ret
    exact ⟨rfl, hb.out⟩
end l8_
end Go.Proofs.YtgbojphbodijbaaDoor
