/-
  THE WALKS OF THE LAWS OF LAYER 8 (zoneinfolaw08): HmsPrefix. No conditions.
-/
import Derived.Test.YtgbojphbodijbaaDoorLaw8
import Derived.Test.YtgbojphbodijbaaDoorHmMath2
namespace Go.Proofs.YtgbojphbodijbaaDoor
open Go.ChangeShapes Go.WideShapes Go.ChangeAt Go.RowKit
set_option linter.unusedVariables false
namespace l8_
set_option maxRecDepth 100000 in
set_option maxHeartbeats 4000000 in
theorem prefix_ (s : ByteArray) (w : World) (hT : Tp w) (hs : s.size ≤ maxLen) :
    Calls Tryd.prog 5 #[.string s] w fun e w' => e = .returned (.bool true) ∧ Below w.heap.size w w' := by
  have HT := hide hT
  clear hT
  have hb := hide (Below.refl w.heap.size w)
  by_cases hl : s.size ≤ 1000
  case neg =>
    have hl' : (1000 : Int) < s.size := by omega
    go_enter Tryd.func5, Tryd.ntmps5
    go_wp2_with fail
    refine (awake _ (HT.out.below hb.out)).mono ?_
    rintro e w1 ⟨rfl, h1⟩
    replace hb := hide (bel_next hb.out h1)
    clear h1
    go_wp2_with fail
    refine (awake _ (HT.out.below hb.out)).mono ?_
    rintro e w1 ⟨rfl, h1⟩
    replace hb := hide (bel_next hb.out h1)
    clear h1
    go_wp2
    go_ret
    exact ⟨rfl, hb.out⟩
  have P := hide (fun w => hm_.Parse s w (by omega))
  rcases hp : hmsParse (byt s) with _ | ⟨a, n⟩
  · rw [hp] at P
    simp only [hmsRes] at P
    clear hp
    go_enter Tryd.func5, Tryd.ntmps5
    go_wp2_with fail
    refine (awake _ (HT.out.below hb.out)).mono ?_
    rintro e w1 ⟨rfl, h1⟩
    replace hb := hide (bel_next hb.out h1)
    clear h1
    go_wp2_with fail
    refine (P.out _).mono ?_
    rintro e w1 ⟨rfl, h1⟩
    replace hb := hide (bel_next hb.out h1)
    clear h1
    go_wp2
    go_ret
    exact ⟨rfl, hb.out⟩
  · obtain ⟨h1, h2, h3, h4, h5, h6⟩ := parse_prefix hp
    rw [hp] at P
    rw [len_byt] at h2
    simp only [hmsRes] at P
    have e : byt (s.extract 0 n) = (byt s).take n := by rw [byt_extract]; simp
    have Q := hide (fun w => hm_.Parse (s.extract 0 n) w (by simp; omega))
    rw [e, h5] at Q
    simp only [hmsRes] at Q
    have V := hide (fun w => hm_.InRange a w (by omega) (by omega))
    rw [show (decide (-604800 < a) && decide (a < 604800)) = true by simp [h3, h4]] at V
    have F := hide (fun w hT => hm_.Format a w hT h3 h4)
    obtain ⟨f, hf⟩ : ∃ f, f = mkS (hmsFmt a) := ⟨_, rfl⟩
    have hfl : f.size ≤ n := by rw [hf, size_mk]; exact h6
    rw [← hf] at F
    have i1 : (1 : Int) ≤ (n : Int) := by omega
    have i2 : (n : Int) ≤ (s.size : Int) := by omega
    clear hp h5 h6 e hf
    go_enter Tryd.func5, Tryd.ntmps5
    go_wp2_with fail
    refine (awake _ (HT.out.below hb.out)).mono ?_
    rintro e w1 ⟨rfl, h1⟩
    replace hb := hide (bel_next hb.out h1)
    clear h1
    go_wp2_with fail
    refine (P.out _).mono ?_
    rintro e w1 ⟨rfl, h1⟩
    replace hb := hide (bel_next hb.out h1)
    clear h1
    go_wp2_with fail
    refine (V.out _).mono ?_
    rintro e w1 ⟨rfl, h1⟩
    replace hb := hide (bel_next hb.out h1)
    clear h1
    go_wp2_with fail
    refine (Q.out _).mono ?_
    rintro e w1 ⟨rfl, h1⟩
    replace hb := hide (bel_next hb.out h1)
    clear h1
    go_wp2_with fail
    refine (F.out _ (HT.out.below hb.out)).mono ?_
    rintro e w1 ⟨rfl, h1⟩
    replace hb := hide (bel_next hb.out h1)
    clear h1
    go_wp2
    go_ret
    exact ⟨rfl, hb.out⟩
end l8_
end Go.Proofs.YtgbojphbodijbaaDoor
