/-
  THE WALKS OF THE LAWS OF LAYER 7 (zoneinfolaw07): TznameParseForms. No conditions.
-/
import Derived.Test.YtbalpekoandakaaLaw7
import Derived.Test.YtbalpekoandakaaTnMath
namespace Go.Proofs.Ytbalpekoandakaa
open Go.ChangeShapes Go.WideShapes Go.ChangeAt Go.RowKit
set_option linter.unusedVariables false
namespace l7_
set_option maxRecDepth 100000 in
set_option maxHeartbeats 4000000 in
theorem parseForms (s : ByteArray) (w : World) (hs : s.size ≤ maxLen) :
    Calls Try.prog 5 #[.string s] w fun e w' => e = .returned (.bool true) ∧ Below w.heap.size w w' := by
  have hb := hide (Below.refl w.heap.size w)
  by_cases hl : s.size ≤ 1000
  case neg =>
    have hl' : (1000 : Int) < s.size := by omega
    go_enter Try.func5, Try.ntmps5
    go_wp2_with fail
    refine (awake _).mono ?_
    rintro e w1 ⟨rfl, h1⟩
    replace hb := hide (bel_next hb.out h1)
    clear h1
    go_wp2_with fail
    refine (awake _).mono ?_
    rintro e w1 ⟨rfl, h1⟩
    replace hb := hide (bel_next hb.out h1)
    clear h1
    go_wp2
    go_ret
    exact ⟨rfl, hb.out⟩
  have P := hide (fun w => tn_.Parse s w (by omega))
  have V := hide (fun w => tn_.Valid s w (by omega))
  have R := hide (fun w => tn_.Parse (⟨#[60]⟩ ++ s ++ ⟨#[62, 120]⟩) w (by rw [← len_byt, byt_append, byt_append, List.length_append, List.length_append]; have e0 := len_byt s; have e1 : (byt ⟨#[60]⟩).length = 1 := rfl; have e2 : (byt ⟨#[62, 120]⟩).length = 2 := rfl; omega))
  have hr : nameOk (byt s) = true → tnRes (tnParse (byt (⟨#[60]⟩ ++ s ++ ⟨#[62, 120]⟩))) = .tuple #[.string s, .int .i64 ((s.size : Int) + 2), .bool true] := by
    intro h
    have e := tnParse_q (byt s) [120] h
    have e2 : byt (⟨#[60]⟩ ++ s ++ ⟨#[62, 120]⟩) = 60 :: (byt s ++ 62 :: [120]) := by rw [byt_append, byt_append]; rfl
    rw [e2, e]
    simp only [tnRes, mk_byt, len_byt]
    rfl
  have hp : ∀ a n, tnParse (byt s) = some (a, n) → nameOk a = true ∧ n ≤ s.size ∧ 3 ≤ n ∧ (s.extract 0 n = mkS a ∨ s.extract 0 n = (⟨#[60]⟩ ++ mkS a ++ ⟨#[62]⟩)) := by
    intro a n h
    obtain ⟨h1, h2, h3, h4⟩ := tnParse_some h
    rw [len_byt] at h2
    refine ⟨h1, h2, h3, ?_⟩
    have e : byt (s.extract 0 n) = (byt s).take n := by rw [byt_extract]; simp
    rcases h4 with h4 | h4
    · left
      apply byt_inj.1
      rw [e, h4, byt_mk]
    · right
      apply byt_inj.1
      rw [e, h4, byt_append, byt_append, byt_mk]
      rfl
  rcases hpv : tnParse (byt s) with _ | ⟨a, n⟩
  · rw [hpv] at P
    simp only [tnRes] at P
    clear hp hpv
    rcases hv : nameOk (byt s)
    · rw [hv] at V
      clear hr hv R
      go_enter Try.func5, Try.ntmps5
      go_wp2_with fail
      refine (awake _).mono ?_
      rintro e w1 ⟨rfl, h1⟩
      replace hb := hide (bel_next hb.out h1)
      clear h1
      go_wp2_with fail
      refine (P.out _).mono ?_
      rintro e w1 ⟨rfl, h1⟩
      replace hb := hide (bel_next hb.out h1)
      clear h1
      go_wp2_with fail
      refine (V.out _).mono ?_
      rintro e w1 ⟨rfl, h1⟩
      replace hb := hide (bel_next hb.out h1)
      clear h1
      go_wp2
      go_ret
      exact ⟨rfl, hb.out⟩
    · rw [hv] at V
      rw [hr hv] at R
      clear hr hv
      go_enter Try.func5, Try.ntmps5
      go_wp2_with fail
      refine (awake _).mono ?_
      rintro e w1 ⟨rfl, h1⟩
      replace hb := hide (bel_next hb.out h1)
      clear h1
      go_wp2_with fail
      refine (P.out _).mono ?_
      rintro e w1 ⟨rfl, h1⟩
      replace hb := hide (bel_next hb.out h1)
      clear h1
      go_wp2_with fail
      refine (V.out _).mono ?_
      rintro e w1 ⟨rfl, h1⟩
      replace hb := hide (bel_next hb.out h1)
      clear h1
      go_wp2_with fail
      refine (R.out _).mono ?_
      rintro e w1 ⟨rfl, h1⟩
      replace hb := hide (bel_next hb.out h1)
      clear h1
      go_wp2
      go_ret
      exact ⟨rfl, hb.out⟩
  · obtain ⟨h1, h2, h3, h4⟩ := hp a n hpv
    rw [hpv] at P
    simp only [tnRes] at P
    have A := hide (fun w => tn_.Valid (mkS a) w (by have := (nameOk_iff.1 h1).2.1; rw [size_mk]; omega))
    rw [byt_mk, h1] at A
    have hA0 : (mkS a).size ≤ 255 := by have := (nameOk_iff.1 h1).2.1; rw [size_mk]; omega
    clear hp hpv h1
    generalize mkS a = A0 at *
    have hx : (s.extract 0 n = A0) ∨ (¬ s.extract 0 n = A0 ∧ s.extract 0 n = (⟨#[60]⟩ ++ A0 ++ ⟨#[62]⟩)) := by
      by_cases h : s.extract 0 n = A0
      · exact .inl h
      · exact .inr ⟨h, h4.resolve_left h⟩
    clear h4
    have i2 : (n : Int) ≤ s.size := by omega
    rcases hx with hx | ⟨hx1, hx2⟩
    · have e1 := seq_eq hx
      clear hx
      rcases hv : nameOk (byt s)
      · rw [hv] at V
        clear hr hv R
        go_enter Try.func5, Try.ntmps5
        go_wp2_with fail
        refine (awake _).mono ?_
        rintro e w1 ⟨rfl, h1⟩
        replace hb := hide (bel_next hb.out h1)
        clear h1
        go_wp2_with fail
        refine (P.out _).mono ?_
        rintro e w1 ⟨rfl, h1⟩
        replace hb := hide (bel_next hb.out h1)
        clear h1
        go_wp2_with fail
        refine (A.out _).mono ?_
        rintro e w1 ⟨rfl, h1⟩
        replace hb := hide (bel_next hb.out h1)
        clear h1
        go_wp2_with fail
        refine (V.out _).mono ?_
        rintro e w1 ⟨rfl, h1⟩
        replace hb := hide (bel_next hb.out h1)
        clear h1
        go_wp2
        go_ret
        exact ⟨rfl, hb.out⟩
      · rw [hv] at V
        rw [hr hv] at R
        clear hr hv
        go_enter Try.func5, Try.ntmps5
        go_wp2_with fail
        refine (awake _).mono ?_
        rintro e w1 ⟨rfl, h1⟩
        replace hb := hide (bel_next hb.out h1)
        clear h1
        go_wp2_with fail
        refine (P.out _).mono ?_
        rintro e w1 ⟨rfl, h1⟩
        replace hb := hide (bel_next hb.out h1)
        clear h1
        go_wp2_with fail
        refine (A.out _).mono ?_
        rintro e w1 ⟨rfl, h1⟩
        replace hb := hide (bel_next hb.out h1)
        clear h1
        go_wp2_with fail
        refine (V.out _).mono ?_
        rintro e w1 ⟨rfl, h1⟩
        replace hb := hide (bel_next hb.out h1)
        clear h1
        go_wp2_with fail
        refine (R.out _).mono ?_
        rintro e w1 ⟨rfl, h1⟩
        replace hb := hide (bel_next hb.out h1)
        clear h1
        go_wp2
        go_ret
        exact ⟨rfl, hb.out⟩
    · have e1 := seq_ne hx1
      have e2 := seq_eq hx2
      clear hx1 hx2
      rcases hv : nameOk (byt s)
      · rw [hv] at V
        clear hr hv R
        go_enter Try.func5, Try.ntmps5
        go_wp2_with fail
        refine (awake _).mono ?_
        rintro e w1 ⟨rfl, h1⟩
        replace hb := hide (bel_next hb.out h1)
        clear h1
        go_wp2_with fail
        refine (P.out _).mono ?_
        rintro e w1 ⟨rfl, h1⟩
        replace hb := hide (bel_next hb.out h1)
        clear h1
        go_wp2_with fail
        refine (A.out _).mono ?_
        rintro e w1 ⟨rfl, h1⟩
        replace hb := hide (bel_next hb.out h1)
        clear h1
        go_wp2_with fail
        refine (V.out _).mono ?_
        rintro e w1 ⟨rfl, h1⟩
        replace hb := hide (bel_next hb.out h1)
        clear h1
        go_wp2
        go_ret
        exact ⟨rfl, hb.out⟩
      · rw [hv] at V
        rw [hr hv] at R
        clear hr hv
        go_enter Try.func5, Try.ntmps5
        go_wp2_with fail
        refine (awake _).mono ?_
        rintro e w1 ⟨rfl, h1⟩
        replace hb := hide (bel_next hb.out h1)
        clear h1
        go_wp2_with fail
        refine (P.out _).mono ?_
        rintro e w1 ⟨rfl, h1⟩
        replace hb := hide (bel_next hb.out h1)
        clear h1
        go_wp2_with fail
        refine (A.out _).mono ?_
        rintro e w1 ⟨rfl, h1⟩
        replace hb := hide (bel_next hb.out h1)
        clear h1
        go_wp2_with fail
        refine (V.out _).mono ?_
        rintro e w1 ⟨rfl, h1⟩
        replace hb := hide (bel_next hb.out h1)
        clear h1
        go_wp2_with fail
        refine (R.out _).mono ?_
        rintro e w1 ⟨rfl, h1⟩
        replace hb := hide (bel_next hb.out h1)
        clear h1
        go_wp2
        go_ret
        exact ⟨rfl, hb.out⟩
end l7_
end Go.Proofs.Ytbalpekoandakaa
