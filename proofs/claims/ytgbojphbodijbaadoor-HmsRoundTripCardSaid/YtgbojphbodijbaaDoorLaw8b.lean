/-
  THE WALKS OF THE LAWS OF LAYER 8 (zoneinfolaw08): HmsRoundTrip. No conditions.
-/
import Derived.Test.YtgbojphbodijbaaDoorLaw8
import Derived.Test.YtgbojphbodijbaaDoorHmMath
namespace Go.Proofs.YtgbojphbodijbaaDoor
open Go.ChangeShapes Go.WideShapes Go.ChangeAt Go.RowKit
set_option linter.unusedVariables false
namespace l8_
set_option maxRecDepth 100000 in
set_option maxHeartbeats 4000000 in
theorem roundTrip (x y : Int) (w : World) (hT : Tp w) (hx : (Lit.int .i64 x).wf = true) (hy : (Lit.int .i64 y).wf = true) :
    Calls Tryd.prog 4 #[.int .i64 x, .int .i64 y] w fun e w' => e = .returned (.bool true) ∧ Below w.heap.size w w' := by
  obtain ⟨x0, x1⟩ := wf_i64 hx
  obtain ⟨y0, y1⟩ := wf_i64 hy
  clear hx hy
  have HT := hide hT
  clear hT
  have hb := hide (Below.refl w.heap.size w)
  have Ux := hide (fun w => r8_.InRange x w)
  have Uy := hide (fun w => r8_.InRange y w)
  rcases hvx : (decide (-604800 < x) && decide (x < 604800))
  · rw [hvx] at Ux
    clear hvx
    go_enter Tryd.func4, Tryd.ntmps4
    go_wp2_with fail
    refine (awake _ (HT.out.below hb.out)).mono ?_
    rintro e w1 ⟨rfl, h1⟩
    replace hb := hide (bel_next hb.out h1)
    clear h1
    go_wp2_with fail
    refine (Ux.out _).mono ?_
    rintro e w2 ⟨rfl, rfl⟩
    go_wp2_with fail
    refine (awake _ (HT.out.below hb.out)).mono ?_
    rintro e w1 ⟨rfl, h1⟩
    replace hb := hide (bel_next hb.out h1)
    clear h1
    go_wp2
    go_ret
    exact ⟨rfl, hb.out⟩
  rw [hvx] at Ux
  rcases hvy : (decide (-604800 < y) && decide (y < 604800))
  · rw [hvy] at Uy
    clear hvy hvx
    go_enter Tryd.func4, Tryd.ntmps4
    go_wp2_with fail
    refine (awake _ (HT.out.below hb.out)).mono ?_
    rintro e w1 ⟨rfl, h1⟩
    replace hb := hide (bel_next hb.out h1)
    clear h1
    go_wp2_with fail
    refine (Ux.out _).mono ?_
    rintro e w2 ⟨rfl, rfl⟩
    go_wp2_with fail
    refine (Uy.out _).mono ?_
    rintro e w2 ⟨rfl, rfl⟩
    go_wp2_with fail
    refine (awake _ (HT.out.below hb.out)).mono ?_
    rintro e w1 ⟨rfl, h1⟩
    replace hb := hide (bel_next hb.out h1)
    clear h1
    go_wp2
    go_ret
    exact ⟨rfl, hb.out⟩
  rw [hvy] at Uy
  have hx2 : -604800 < x ∧ x < 604800 := by simpa using hvx
  have hy2 : -604800 < y ∧ y < 604800 := by simpa using hvy
  clear hvx hvy x0 x1 y0 y1
  obtain ⟨x0, x1⟩ := hx2
  obtain ⟨y0, y1⟩ := hy2
  have Fx := hide (fun w hT => hm_.Format x w hT x0 x1)
  have Fy := hide (fun w hT => hm_.Format y w hT y0 y1)
  obtain ⟨f, hf⟩ : ∃ f, f = mkS (hmsFmt x) := ⟨_, rfl⟩
  obtain ⟨g, hg⟩ : ∃ g, g = mkS (hmsFmt y) := ⟨_, rfl⟩
  have hbf : byt f = hmsFmt x := by rw [hf, byt_mk]
  have hfs : 1 ≤ f.size ∧ f.size ≤ 10 := by have := hmsFmt_len x0 x1; rw [← hbf, len_byt] at this; exact this
  have hfg : (f = g) ↔ (x = y) := by
    constructor
    · intro h
      rw [hf, hg, mk_inj] at h
      exact hmsFmt_inj x0 x1 y0 y1 h
    · rintro rfl; rw [hf, hg]
  have P := hide (fun w => hm_.Parse f w (by omega))
  rw [show hmsParse (byt f) = some (x, f.size) by
    have := parse_fmt [] x0 x1 hstop_nil
    rw [List.append_nil, ← hbf, len_byt] at this
    exact this] at P
  simp only [hmsRes] at P
  rw [← hf] at Fx
  rw [← hg] at Fy
  obtain ⟨f0, f1⟩ := hfs
  have f00 : 0 < f.size := by omega
  by_cases hn : x < 0
  · have h45 : ((f[0]'f00).toNat : Int) = 45 := by
      have e : (byt f).drop 0 = 45 :: hmsAbs (-x) := by rw [hbf]; unfold hmsFmt; rw [if_pos hn]; rfl
      obtain ⟨_, e2, _⟩ := drop_cons e
      rw [e2]
      rfl
    clear hf hg hbf
    by_cases he : x = y
    · have heF : f = g := hfg.2 he
      subst he
      subst heF
      clear hfg
      go_enter Tryd.func4, Tryd.ntmps4
      go_wp2_with fail
      refine (awake _ (HT.out.below hb.out)).mono ?_
      rintro e w1 ⟨rfl, h1⟩
      replace hb := hide (bel_next hb.out h1)
      clear h1
      go_wp2_with fail
      refine (Ux.out _).mono ?_
      rintro e w2 ⟨rfl, rfl⟩
      go_wp2_with fail
      refine (Uy.out _).mono ?_
      rintro e w2 ⟨rfl, rfl⟩
      go_wp2_with fail
      refine (Fx.out _ (HT.out.below hb.out)).mono ?_
      rintro e w1 ⟨rfl, h1⟩
      replace hb := hide (bel_next hb.out h1)
      clear h1
      go_wp2_with fail
      refine (P.out _).mono ?_
      rintro e w1 ⟨rfl, h1⟩
      replace hb := hide (bel_next hb.out h1)
      clear h1
      go_wp2_with fail
      refine (Fy.out _ (HT.out.below hb.out)).mono ?_
      rintro e w1 ⟨rfl, h1⟩
      replace hb := hide (bel_next hb.out h1)
      clear h1
      go_wp2
      go_ret
      exact ⟨rfl, hb.out⟩
    · have heF : ¬ f = g := fun h => he (hfg.1 h)
      have e1 := seq_ne heF
      have e2 : (x == y) = false := by simpa using he
      clear hfg heF
      go_enter Tryd.func4, Tryd.ntmps4
      go_wp2_with fail
      refine (awake _ (HT.out.below hb.out)).mono ?_
      rintro e w1 ⟨rfl, h1⟩
      replace hb := hide (bel_next hb.out h1)
      clear h1
      go_wp2_with fail
      refine (Ux.out _).mono ?_
      rintro e w2 ⟨rfl, rfl⟩
      go_wp2_with fail
      refine (Uy.out _).mono ?_
      rintro e w2 ⟨rfl, rfl⟩
      go_wp2_with fail
      refine (Fx.out _ (HT.out.below hb.out)).mono ?_
      rintro e w1 ⟨rfl, h1⟩
      replace hb := hide (bel_next hb.out h1)
      clear h1
      go_wp2_with fail
      refine (P.out _).mono ?_
      rintro e w1 ⟨rfl, h1⟩
      replace hb := hide (bel_next hb.out h1)
      clear h1
      go_wp2_with fail
      refine (Fy.out _ (HT.out.below hb.out)).mono ?_
      rintro e w1 ⟨rfl, h1⟩
      replace hb := hide (bel_next hb.out h1)
      clear h1
      go_wp2
      go_ret
      exact ⟨rfl, hb.out⟩
  · have hbody : hmsBody (byt f) = some (x, f.size) := by
      have := body_abs (x := x) [] (by omega) x1 hstop_nil
      rw [List.append_nil] at this
      rw [hbf]
      unfold hmsFmt
      rw [if_neg hn, this]
      congr 2
      have e : byt f = hmsAbs x := by rw [hbf]; unfold hmsFmt; rw [if_neg hn]
      rw [← e, len_byt]
    have Q := hide (fun w => hm_.Parse (⟨#[43]⟩ ++ f) w (by rw [← len_byt, byt_append, List.length_append]; have e0 := len_byt f; have e1 : (byt ⟨#[43]⟩).length = 1 := rfl; omega))
    have R := hide (fun w => hm_.Parse (⟨#[45]⟩ ++ f) w (by rw [← len_byt, byt_append, List.length_append]; have e0 := len_byt f; have e1 : (byt ⟨#[45]⟩).length = 1 := rfl; omega))
    rw [show hmsParse (byt (⟨#[43]⟩ ++ f)) = some (x, f.size + 1) by
      rw [byt_append, show byt ⟨#[43]⟩ ++ byt f = 43 :: byt f from rfl, parse_plus, hbody]; rfl] at Q
    rw [show hmsParse (byt (⟨#[45]⟩ ++ f)) = some (-x, f.size + 1) by
      rw [byt_append, show byt ⟨#[45]⟩ ++ byt f = 45 :: byt f from rfl, parse_minus, hbody]; rfl] at R
    simp only [hmsRes] at Q R
    clear hf hg hbf hbody
    by_cases he : x = y
    · have heF : f = g := hfg.2 he
      subst he
      subst heF
      clear hfg
      go_enter Tryd.func4, Tryd.ntmps4
      go_wp2_with fail
      refine (awake _ (HT.out.below hb.out)).mono ?_
      rintro e w1 ⟨rfl, h1⟩
      replace hb := hide (bel_next hb.out h1)
      clear h1
      go_wp2_with fail
      refine (Ux.out _).mono ?_
      rintro e w2 ⟨rfl, rfl⟩
      go_wp2_with fail
      refine (Uy.out _).mono ?_
      rintro e w2 ⟨rfl, rfl⟩
      go_wp2_with fail
      refine (Fx.out _ (HT.out.below hb.out)).mono ?_
      rintro e w1 ⟨rfl, h1⟩
      replace hb := hide (bel_next hb.out h1)
      clear h1
      go_wp2_with fail
      refine (P.out _).mono ?_
      rintro e w1 ⟨rfl, h1⟩
      replace hb := hide (bel_next hb.out h1)
      clear h1
      go_wp2_with fail
      refine (Fy.out _ (HT.out.below hb.out)).mono ?_
      rintro e w1 ⟨rfl, h1⟩
      replace hb := hide (bel_next hb.out h1)
      clear h1
      go_wp2_with fail
      refine (Q.out _).mono ?_
      rintro e w1 ⟨rfl, h1⟩
      replace hb := hide (bel_next hb.out h1)
      clear h1
      go_wp2_with fail
      refine (R.out _).mono ?_
      rintro e w1 ⟨rfl, h1⟩
      replace hb := hide (bel_next hb.out h1)
      clear h1
      go_wp2
      go_ret
      exact ⟨rfl, hb.out⟩
    · have heF : ¬ f = g := fun h => he (hfg.1 h)
      have e1 := seq_ne heF
      have e2 : (x == y) = false := by simpa using he
      clear hfg heF
      go_enter Tryd.func4, Tryd.ntmps4
      go_wp2_with fail
      refine (awake _ (HT.out.below hb.out)).mono ?_
      rintro e w1 ⟨rfl, h1⟩
      replace hb := hide (bel_next hb.out h1)
      clear h1
      go_wp2_with fail
      refine (Ux.out _).mono ?_
      rintro e w2 ⟨rfl, rfl⟩
      go_wp2_with fail
      refine (Uy.out _).mono ?_
      rintro e w2 ⟨rfl, rfl⟩
      go_wp2_with fail
      refine (Fx.out _ (HT.out.below hb.out)).mono ?_
      rintro e w1 ⟨rfl, h1⟩
      replace hb := hide (bel_next hb.out h1)
      clear h1
      go_wp2_with fail
      refine (P.out _).mono ?_
      rintro e w1 ⟨rfl, h1⟩
      replace hb := hide (bel_next hb.out h1)
      clear h1
      go_wp2_with fail
      refine (Fy.out _ (HT.out.below hb.out)).mono ?_
      rintro e w1 ⟨rfl, h1⟩
      replace hb := hide (bel_next hb.out h1)
      clear h1
      go_wp2_with fail
      refine (Q.out _).mono ?_
      rintro e w1 ⟨rfl, h1⟩
      replace hb := hide (bel_next hb.out h1)
      clear h1
      go_wp2_with fail
      refine (R.out _).mono ?_
      rintro e w1 ⟨rfl, h1⟩
      replace hb := hide (bel_next hb.out h1)
      clear h1
      go_wp2
      go_ret
      exact ⟨rfl, hb.out⟩
end l8_
end Go.Proofs.YtgbojphbodijbaaDoor
