/-
  THE WALKS OF THE LAWS OF LAYER 7 (zoneinfolaw07): TznameRoundTrip. No conditions.
-/
import Derived.Test.YtbalpekoandakaaLaw7
import Derived.Test.YtbalpekoandakaaTnMath
namespace Go.Proofs.Ytbalpekoandakaa
open Go.ChangeShapes Go.WideShapes Go.ChangeAt Go.RowKit
set_option linter.unusedVariables false
namespace l7_
set_option maxRecDepth 100000 in
set_option maxHeartbeats 4000000 in
theorem roundTrip (n o t : ByteArray) (w : World) (hn : n.size ≤ maxLen) (ho : o.size ≤ maxLen) (ht : t.size ≤ maxLen) :
    Calls Try.prog 4 #[.string n, .string o, .string t] w fun e w' => e = .returned (.bool true) ∧ Below w.heap.size w w' := by
  have hb := hide (Below.refl w.heap.size w)
  have Un := hide (fun w => r7_.Valid n w hn)
  have Uo := hide (fun w => r7_.Valid o w ho)
  rcases hvn : nameOk (byt n)
  · rw [hvn] at Un
    clear hvn
    go_enter Try.func4, Try.ntmps4
    go_wp2_with fail
    refine (awake _).mono ?_
    rintro e w1 ⟨rfl, h1⟩
    replace hb := hide (bel_next hb.out h1)
    clear h1
    go_wp2_with fail
    refine (Un.out _).mono ?_
    rintro e w2 ⟨rfl, rfl⟩
    go_wp2_with fail
    refine (awake _).mono ?_
    rintro e w1 ⟨rfl, h1⟩
    replace hb := hide (bel_next hb.out h1)
    clear h1
    go_wp2
    go_ret
    exact ⟨rfl, hb.out⟩
  rw [hvn] at Un
  rcases hvo : nameOk (byt o)
  · rw [hvo] at Uo
    clear hvn hvo
    go_enter Try.func4, Try.ntmps4
    go_wp2_with fail
    refine (awake _).mono ?_
    rintro e w1 ⟨rfl, h1⟩
    replace hb := hide (bel_next hb.out h1)
    clear h1
    go_wp2_with fail
    refine (Un.out _).mono ?_
    rintro e w2 ⟨rfl, rfl⟩
    go_wp2_with fail
    refine (Uo.out _).mono ?_
    rintro e w2 ⟨rfl, rfl⟩
    go_wp2_with fail
    refine (awake _).mono ?_
    rintro e w1 ⟨rfl, h1⟩
    replace hb := hide (bel_next hb.out h1)
    clear h1
    go_wp2
    go_ret
    exact ⟨rfl, hb.out⟩
  rw [hvo] at Uo
  by_cases hl : t.size ≤ 100
  case neg =>
    have hl' : (100 : Int) < t.size := by omega
    clear hvn hvo
    go_enter Try.func4, Try.ntmps4
    go_wp2_with fail
    refine (awake _).mono ?_
    rintro e w1 ⟨rfl, h1⟩
    replace hb := hide (bel_next hb.out h1)
    clear h1
    go_wp2_with fail
    refine (Un.out _).mono ?_
    rintro e w2 ⟨rfl, rfl⟩
    go_wp2_with fail
    refine (Uo.out _).mono ?_
    rintro e w2 ⟨rfl, rfl⟩
    go_wp2_with fail
    refine (awake _).mono ?_
    rintro e w1 ⟨rfl, h1⟩
    replace hb := hide (bel_next hb.out h1)
    clear h1
    go_wp2
    go_ret
    exact ⟨rfl, hb.out⟩
  have hn2 := nameOk_iff.1 hvn
  have ho2 := nameOk_iff.1 hvo
  rw [len_byt] at hn2 ho2
  have Fn := hide (fun w => tn_.Format n w (by omega))
  have Fo := hide (fun w => tn_.Format o w (by omega))
  obtain ⟨f, hf⟩ : ∃ f, f = mkS (tnFmt (byt n)) := ⟨_, rfl⟩
  obtain ⟨g, hg⟩ : ∃ g, g = mkS (tnFmt (byt o)) := ⟨_, rfl⟩
  have hbf : byt f = tnFmt (byt n) := by rw [hf, byt_mk]
  have hfs : f.size ≤ 257 := by have := tnFmt_len (byt n); rw [← hbf, len_byt, len_byt] at this; omega
  have hfg : (f = g) ↔ (n = o) := by
    constructor
    · intro h
      rw [hf, hg, mk_inj] at h
      exact byt_inj.1 (tnFmt_inj hvn hvo h)
    · rintro rfl; rw [hf, hg]
  have hp : tnParse (byt f) = some (byt n, f.size) := by
    have := tnParse_fmt [] hvn (.inl rfl)
    rw [List.append_nil, ← hbf, len_byt] at this
    exact this
  have P := hide (fun w => tn_.Parse f w (by omega))
  rw [hp] at P
  simp only [tnRes, mk_byt] at P
  rw [← hf] at Fn
  rw [← hg] at Fo
  have R := hide (fun w => tn_.Parse (f ++ t) w (by simp; omega))
  have hr : (t.size = 0 ∨ ∃ h : 0 < t.size, alphaI ((t[0]'h).toNat : Int) = false) → tnParse (byt (f ++ t)) = some (byt n, f.size) := by
    intro h
    have e := tnParse_fmt (byt t) hvn (by
      rcases h with h | ⟨h0, h1⟩
      · left
        exact List.eq_nil_of_length_eq_zero (by rw [len_byt]; exact h)
      · right
        cases hbt : byt t with
        | nil => rw [← len_byt, hbt] at h0; simp at h0
        | cons a s =>
          refine ⟨a, s, rfl, ?_⟩
          rw [← get_byt t 0 h0] at h1
          simp only [hbt, List.getElem_cons_zero] at h1
          exact h1)
    rw [← hbf, len_byt, ← byt_append] at e
    exact e
  have hcase : t.size = 0 ∨ ∃ h : 0 < t.size, ∃ x : Int, ((t[0]'h).toNat : Int) = x ∧ 0 ≤ x ∧ x < 256 ∧ (alphaI x = true ∨ alphaI x = false) := by
    rcases Nat.eq_zero_or_pos t.size with h | h
    · exact .inl h
    · exact .inr ⟨h, _, rfl, by omega, by have := (t[0]'h).toNat_lt; omega, by cases alphaI ((t[0]'h).toNat : Int) <;> simp⟩
  clear hvn hvo hn2 ho2 hf hg hbf hp hn ho ht
  have Hr := hide hr
  clear hr
  have hft : f.size ≤ 1000 := by omega
  by_cases he : n = o
  · have heF : f = g := hfg.2 he
    subst he
    subst heF
    clear hfg
    rcases hcase with h0 | ⟨h0, x, hx, x0, x1, ha | ha⟩
    · replace R := hide R.out
      rw [Hr.out (.inl h0)] at R
      unfold tnRes at R
      simp only [mk_byt] at R
      clear Hr
      go_enter Try.func4, Try.ntmps4
      go_wp2_with fail
      refine (awake _).mono ?_
      rintro e w1 ⟨rfl, h1⟩
      replace hb := hide (bel_next hb.out h1)
      clear h1
      go_wp2_with fail
      refine (Un.out _).mono ?_
      rintro e w2 ⟨rfl, rfl⟩
      go_wp2_with fail
      refine (Uo.out _).mono ?_
      rintro e w2 ⟨rfl, rfl⟩
      go_wp2_with fail
      refine (Fn.out _).mono ?_
      rintro e w1 ⟨rfl, h1⟩
      replace hb := hide (bel_next hb.out h1)
      clear h1
      go_wp2_with fail
      refine (Fo.out _).mono ?_
      rintro e w1 ⟨rfl, h1⟩
      replace hb := hide (bel_next hb.out h1)
      clear h1
      go_wp2_with fail
      refine (P.out _).mono ?_
      rintro e w1 ⟨rfl, h1⟩
      replace hb := hide (bel_next hb.out h1)
      clear h1
      go_wp2_with fail
      refine (R.out _).mono ?_
      rintro e w1 ⟨rfl, h1⟩
      replace hb := hide (bel_next hb.out h1)
      clear h1
      go_wp2
      go_ret
      exact ⟨rfl, hb.out⟩
    · have A := hide (fun w => tn_.IsAlpha x w x0 x1)
      rw [ha] at A
      clear Hr R ha
      go_enter Try.func4, Try.ntmps4
      go_wp2_with fail
      refine (awake _).mono ?_
      rintro e w1 ⟨rfl, h1⟩
      replace hb := hide (bel_next hb.out h1)
      clear h1
      go_wp2_with fail
      refine (Un.out _).mono ?_
      rintro e w2 ⟨rfl, rfl⟩
      go_wp2_with fail
      refine (Uo.out _).mono ?_
      rintro e w2 ⟨rfl, rfl⟩
      go_wp2_with fail
      refine (Fn.out _).mono ?_
      rintro e w1 ⟨rfl, h1⟩
      replace hb := hide (bel_next hb.out h1)
      clear h1
      go_wp2_with fail
      refine (Fo.out _).mono ?_
      rintro e w1 ⟨rfl, h1⟩
      replace hb := hide (bel_next hb.out h1)
      clear h1
      go_wp2_with fail
      refine (P.out _).mono ?_
      rintro e w1 ⟨rfl, h1⟩
      replace hb := hide (bel_next hb.out h1)
      clear h1
      go_wp2_with fail
      refine (A.out _).mono ?_
      rintro e w1 ⟨rfl, h1⟩
      replace hb := hide (bel_next hb.out h1)
      clear h1
      go_wp2
      go_ret
      exact ⟨rfl, hb.out⟩
    · have A := hide (fun w => tn_.IsAlpha x w x0 x1)
      rw [ha] at A
      rw [Hr.out (.inr ⟨h0, by rw [hx]; exact ha⟩)] at R
      unfold tnRes at R
      simp only [mk_byt] at R
      clear Hr ha
      go_enter Try.func4, Try.ntmps4
      go_wp2_with fail
      refine (awake _).mono ?_
      rintro e w1 ⟨rfl, h1⟩
      replace hb := hide (bel_next hb.out h1)
      clear h1
      go_wp2_with fail
      refine (Un.out _).mono ?_
      rintro e w2 ⟨rfl, rfl⟩
      go_wp2_with fail
      refine (Uo.out _).mono ?_
      rintro e w2 ⟨rfl, rfl⟩
      go_wp2_with fail
      refine (Fn.out _).mono ?_
      rintro e w1 ⟨rfl, h1⟩
      replace hb := hide (bel_next hb.out h1)
      clear h1
      go_wp2_with fail
      refine (Fo.out _).mono ?_
      rintro e w1 ⟨rfl, h1⟩
      replace hb := hide (bel_next hb.out h1)
      clear h1
      go_wp2_with fail
      refine (P.out _).mono ?_
      rintro e w1 ⟨rfl, h1⟩
      replace hb := hide (bel_next hb.out h1)
      clear h1
      go_wp2_with fail
      refine (A.out _).mono ?_
      rintro e w1 ⟨rfl, h1⟩
      replace hb := hide (bel_next hb.out h1)
      clear h1
      go_wp2_with fail
      refine (R.out _).mono ?_
      rintro e w1 ⟨rfl, h1⟩
      replace hb := hide (bel_next hb.out h1)
      clear h1
      go_wp2
      go_ret
      exact ⟨rfl, hb.out⟩
  · have heF : ¬ f = g := fun h => he (hfg.1 h)
    have e1 := seq_ne heF
    have e2 := seq_ne he
    clear hfg
    rcases hcase with h0 | ⟨h0, x, hx, x0, x1, ha | ha⟩
    · replace R := hide R.out
      rw [Hr.out (.inl h0)] at R
      unfold tnRes at R
      simp only [mk_byt] at R
      clear Hr
      go_enter Try.func4, Try.ntmps4
      go_wp2_with fail
      refine (awake _).mono ?_
      rintro e w1 ⟨rfl, h1⟩
      replace hb := hide (bel_next hb.out h1)
      clear h1
      go_wp2_with fail
      refine (Un.out _).mono ?_
      rintro e w2 ⟨rfl, rfl⟩
      go_wp2_with fail
      refine (Uo.out _).mono ?_
      rintro e w2 ⟨rfl, rfl⟩
      go_wp2_with fail
      refine (Fn.out _).mono ?_
      rintro e w1 ⟨rfl, h1⟩
      replace hb := hide (bel_next hb.out h1)
      clear h1
      go_wp2_with fail
      refine (Fo.out _).mono ?_
      rintro e w1 ⟨rfl, h1⟩
      replace hb := hide (bel_next hb.out h1)
      clear h1
      go_wp2_with fail
      refine (P.out _).mono ?_
      rintro e w1 ⟨rfl, h1⟩
      replace hb := hide (bel_next hb.out h1)
      clear h1
      go_wp2_with fail
      refine (R.out _).mono ?_
      rintro e w1 ⟨rfl, h1⟩
      replace hb := hide (bel_next hb.out h1)
      clear h1
      go_wp2
      go_ret
      exact ⟨rfl, hb.out⟩
    · have A := hide (fun w => tn_.IsAlpha x w x0 x1)
      rw [ha] at A
      clear Hr R ha
      go_enter Try.func4, Try.ntmps4
      go_wp2_with fail
      refine (awake _).mono ?_
      rintro e w1 ⟨rfl, h1⟩
      replace hb := hide (bel_next hb.out h1)
      clear h1
      go_wp2_with fail
      refine (Un.out _).mono ?_
      rintro e w2 ⟨rfl, rfl⟩
      go_wp2_with fail
      refine (Uo.out _).mono ?_
      rintro e w2 ⟨rfl, rfl⟩
      go_wp2_with fail
      refine (Fn.out _).mono ?_
      rintro e w1 ⟨rfl, h1⟩
      replace hb := hide (bel_next hb.out h1)
      clear h1
      go_wp2_with fail
      refine (Fo.out _).mono ?_
      rintro e w1 ⟨rfl, h1⟩
      replace hb := hide (bel_next hb.out h1)
      clear h1
      go_wp2_with fail
      refine (P.out _).mono ?_
      rintro e w1 ⟨rfl, h1⟩
      replace hb := hide (bel_next hb.out h1)
      clear h1
      go_wp2_with fail
      refine (A.out _).mono ?_
      rintro e w1 ⟨rfl, h1⟩
      replace hb := hide (bel_next hb.out h1)
      clear h1
      go_wp2
      go_ret
      exact ⟨rfl, hb.out⟩
    · have A := hide (fun w => tn_.IsAlpha x w x0 x1)
      rw [ha] at A
      rw [Hr.out (.inr ⟨h0, by rw [hx]; exact ha⟩)] at R
      unfold tnRes at R
      simp only [mk_byt] at R
      clear Hr ha
      go_enter Try.func4, Try.ntmps4
      go_wp2_with fail
      refine (awake _).mono ?_
      rintro e w1 ⟨rfl, h1⟩
      replace hb := hide (bel_next hb.out h1)
      clear h1
      go_wp2_with fail
      refine (Un.out _).mono ?_
      rintro e w2 ⟨rfl, rfl⟩
      go_wp2_with fail
      refine (Uo.out _).mono ?_
      rintro e w2 ⟨rfl, rfl⟩
      go_wp2_with fail
      refine (Fn.out _).mono ?_
      rintro e w1 ⟨rfl, h1⟩
      replace hb := hide (bel_next hb.out h1)
      clear h1
      go_wp2_with fail
      refine (Fo.out _).mono ?_
      rintro e w1 ⟨rfl, h1⟩
      replace hb := hide (bel_next hb.out h1)
      clear h1
      go_wp2_with fail
      refine (P.out _).mono ?_
      rintro e w1 ⟨rfl, h1⟩
      replace hb := hide (bel_next hb.out h1)
      clear h1
      go_wp2_with fail
      refine (A.out _).mono ?_
      rintro e w1 ⟨rfl, h1⟩
      replace hb := hide (bel_next hb.out h1)
      clear h1
      go_wp2_with fail
      refine (R.out _).mono ?_
      rintro e w1 ⟨rfl, h1⟩
      replace hb := hide (bel_next hb.out h1)
      clear h1
      go_wp2
      go_ret
      exact ⟨rfl, hb.out⟩
end l7_
end Go.Proofs.Ytbalpekoandakaa
