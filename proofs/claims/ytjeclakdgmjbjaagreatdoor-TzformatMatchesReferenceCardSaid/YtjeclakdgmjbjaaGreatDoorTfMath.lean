/-
  PLAIN MATHEMATICS of canonical forms of POSIX TZ rules: they parse back, and none is longer than a string that it stands for. No program, no conditions beyond each theorem's own.
-/
import Derived.Test.YtjeclakdgmjbjaaGreatDoorPtFmt
namespace Go.Proofs.YtjeclakdgmjbjaaGreatDoor
open Go.RowKit
set_option linter.unusedVariables false
/-- a rule day's canonical form. -/
def dayC (d : RD) : List UInt8 := dayCore d ++ (if d.2.2.2.2.2 = 7200 then [] else 47 :: hmsFmt d.2.2.2.2.2)
/-- a rule's canonical form. -/
def ruleF (r : PR) : List UInt8 :=
  tnFmt r.1 ++ (hmsFmt (-r.2.1) ++ (if r.2.2.1 = true then tnFmt r.2.2.2.1 ++ ((if r.2.2.2.2.1 - r.2.1 = 3600 then [] else hmsFmt (-r.2.2.2.2.1)) ++ 44 :: (dayC r.2.2.2.2.2.1 ++ 44 :: dayC r.2.2.2.2.2.2)) else []))
theorem dayC_len {d : RD} (hd : rdOk d) : (dayC d).length ≤ 100 := by
  have := dayF_len hd
  unfold dayC
  unfold dayF at this
  split
  · simp at this ⊢; omega
  · exact this
/-! ### not longer -/
theorem decF_l {v : Int} : (decF v).length = if v < 10 then 1 else if v < 100 then 2 else 3 := by
  unfold decF
  split
  · rfl
  · split <;> rfl
theorem num_short {l : List UInt8} {v : Int} {k : Nat} (h : ptNum l = some (v, k)) : (decF v).length ≤ k := by
  unfold ptNum at h
  split at h
  · rename_i hc
    cases h
    obtain ⟨v0, v1, v2, v3⟩ := dval_bd (l.takeWhile dig).length (l.takeWhile dig) (by omega) (fun c hc => r8_.tw_all' (p := dig) (l := l) hc) hc.2
    rw [decF_l]
    split
    · omega
    · split
      · rename_i h1 h2
        by_cases h3 : (l.takeWhile dig).length ≤ 1
        · have := v3 h3; omega
        · omega
      · rename_i h1 h2
        by_cases h3 : (l.takeWhile dig).length ≤ 2
        · have := v2 h3; omega
        · omega
  · cases h
theorem numP_short {l : List UInt8} {v : Int} {k : Nat} (h : ptNumP l = some (v, k)) : (decF v).length + 1 ≤ k := by
  unfold ptNumP at h
  split at h
  · cases h
  · rename_i w n hn
    have := num_short hn
    split at h
    · cases h
    · split at h
      · cases h; omega
      · cases h
theorem head_short {l : List UInt8} {a b c d e : Int} {n : Nat} (h : ptHead l = some ((a, b, c, d, e), n)) (T : Int) : (dayCore (a, b, c, d, e, T)).length ≤ n := by
  unfold ptHead at h
  split at h
  · cases h
  · split at h
    · split at h
      · cases h
      · rename_i hn
        cases h
        have := num_short hn
        unfold dayCore
        simp
        omega
    · split at h
      · split at h
        · cases h
        · rename_i h1
          split at h
          · cases h
          · rename_i h2
            split at h
            · cases h
            · rename_i h3
              cases h
              have := numP_short h1
              have := numP_short h2
              have := num_short h3
              unfold dayCore
              simp
              omega
      · split at h
        · cases h
        · rename_i hn
          cases h
          have := num_short hn
          unfold dayCore
          simp
          omega
theorem day_short {l : List UInt8} {d : RD} {n : Nat} (h : ptDay l = some (d, n)) : (dayC d).length ≤ n := by
  unfold ptDay at h
  split at h
  · cases h
  · rename_i hh k hk
    obtain ⟨a, b, c, d', e⟩ := hh
    have hs := head_short hk
    have plain : ∀ q, (if rdOk (ptMk (a, b, c, d', e) 7200) then some (ptMk (a, b, c, d', e) 7200, k) else none) = some q → (dayC q.1).length ≤ q.2 := by
      intro q hq
      split at hq
      · cases hq
        unfold dayC
        rw [if_pos (by rfl)]
        rw [List.append_nil]
        exact hs 7200
      · cases hq
    split at h
    · exact plain _ h
    · split at h
      · split at h
        · cases h
        · rename_i v m hv
          split at h
          · cases h
            have hp := (parse_prefix hv).2.2.2.2.2
            have := hs v
            show (dayC (a, b, c, d', e, v)).length ≤ k + 1 + m
            unfold dayC
            simp only
            by_cases h7 : v = 7200
            · rw [if_pos h7, List.append_nil]; omega
            · rw [if_neg h7, List.length_append, List.length_cons]; omega
          · cases h
      · exact plain _ h
theorem tw_idem (p : UInt8 → Bool) : ∀ l : List UInt8, (l.takeWhile p).takeWhile p = l.takeWhile p
  | [] => rfl
  | a :: t => by by_cases h : p a <;> simp [h, tw_idem p t]
theorem tn_short {l a : List UInt8} {n : Nat} (h : tnParse l = some (a, n)) : (tnFmt a).length ≤ n := by
  cases l with
  | nil => simp [tnParse] at h
  | cons c t =>
    unfold tnParse at h
    simp only at h
    split at h
    · split at h
      · cases h
        have := tnFmt_len (t.takeWhile not62)
        omega
      · cases h
    · split at h
      · rename_i hn
        cases h
        have e : letters ((c :: t).takeWhile alpha) = ((c :: t).takeWhile alpha).length := by
          unfold letters
          rw [tw_idem]
        unfold tnFmt
        rw [if_pos e]
        exact Nat.le_refl _
      · cases h
theorem comma_short {l : List UInt8} {a b : Nat} {d : RD} (e : ptComma l a = .ok (d, b)) : a + 1 + (dayC d).length ≤ b := by
  unfold ptComma at e
  split at e
  · cases e
  · split at e
    · split at e
      · cases e
      · rename_i hd
        cases e
        have := day_short hd
        omega
    · cases e
theorem days_short {l : List UInt8} {a : Nat} {std dst : List UInt8} {so dof : Int} {r : PR} (e : ptDays l a std so dst dof = .ok r) : ∃ st en, r = (std, so, true, dst, dof, st, en) ∧ a + 2 + (dayC st).length + (dayC en).length ≤ l.length := by
  unfold ptDays at e
  split at e
  · cases e
  · rename_i h1
    split at e
    · cases e
    · rename_i h2
      split at e
      · rename_i hc
        cases e
        have := comma_short h1
        have := comma_short h2
        exact ⟨_, _, rfl, by omega⟩
      · cases e
theorem rule_short {l : List UInt8} {r : PR} (h : ptParse l = .ok r) : (ruleF r).length ≤ l.length := by
  unfold ptParse at h
  split at h
  · cases h
  · rename_i std n hA
    have a1 := tn_short hA
    have a2 := (tnParse_some hA).2.1
    split at h
    · cases h
    · rename_i v m hB
      obtain ⟨_, b2, _, _, _, b3⟩ := parse_prefix hB
      rw [List.length_drop] at b2
      split at h
      · split at h
        · cases h
          unfold ruleF
          simp
          omega
        · split at h
          · cases h
          · rename_i dst n2 hC
            have c1 := tn_short hC
            split at h
            · obtain ⟨st, en, rfl, hl⟩ := days_short h
              unfold ruleF
              simp only [Int.neg_neg, if_true]
              rw [if_pos (by omega)]
              simp
              omega
            · rename_i v2 m2 hE
              have b4 := (parse_prefix hE).2.2.2.2.2
              split at h
              · obtain ⟨st, en, rfl, hl⟩ := days_short h
                unfold ruleF
                simp only [Int.neg_neg, if_true]
                split
                · simp; omega
                · simp; omega
              · cases h
      · cases h
/-! ### parses back -/
theorem day_back {d : RD} {tail : List UInt8} (hd : rdOk d) (ht : tail = [] ∨ ∃ t, tail = 44 :: t) : ptDay (dayC d ++ tail) = some (d, (dayC d).length) := by
  unfold dayC
  by_cases h : d.2.2.2.2.2 = 7200
  · rw [if_pos h, List.append_nil]
    exact ptDay_core hd (ht.imp id (fun ⟨t, e⟩ => ⟨44, t, e, rfl, by decide⟩)) h
  · rw [if_neg h]
    exact ptDay_full hd (by rcases ht with rfl | ⟨t, rfl⟩; exact hstop_nil; exact hstop44 t)
theorem rule_back {r : PR} (h : prOk r) : ptParse (ruleF r) = .ok r := by
  obtain ⟨n, so, hd, m, dof, st, en⟩ := r
  obtain ⟨hn, hso, hr⟩ := h
  simp only at hn hso hr
  have h1 : -604800 < -so := by have := hso.2; omega
  have h2 : -so < 604800 := by have := hso.1; omega
  have ha : offOk (-so) := by unfold offOk at *; omega
  cases hd
  · simp only [Bool.false_eq_true, if_false] at hr
    obtain ⟨rfl, rfl, rfl, rfl⟩ := hr
    obtain ⟨l, hl⟩ : ∃ l, l = ruleF (n, so, false, [], 0, rd0, rd0) := ⟨_, rfl⟩
    have hl' : l = tnFmt n ++ hmsFmt (-so) := by rw [hl]; unfold ruleF; simp
    rw [← hl]
    have e1 : tnParse l = some (n, (tnFmt n).length) := by rw [hl']; exact tnParse_fmt _ hn (.inr (by have := fmt_head h1 h2 []; rw [List.append_nil] at this; exact this))
    have d1 : l.drop (tnFmt n).length = hmsFmt (-so) := by rw [hl', drop_app]
    have e := parse_fmt [] h1 h2 hstop_nil
    rw [List.append_nil] at e
    have hlen := congrArg List.length hl'
    simp at hlen
    unfold ptParse
    rw [e1]
    simp only
    rw [d1, e]
    simp only
    rw [if_pos ha, if_pos (by omega), Int.neg_neg]
  · simp only [if_true] at hr
    obtain ⟨hm, hdo, hst, hen⟩ := hr
    have h3 : -604800 < -dof := by have := hdo.2; omega
    have h4 : -dof < 604800 := by have := hdo.1; omega
    have hb : offOk (-dof) := by unfold offOk at *; omega
    have hX := day_back (tail := 44 :: dayC en) hst (.inr ⟨_, rfl⟩)
    have hY := day_back (tail := []) hen (.inl rfl)
    rw [List.append_nil] at hY
    obtain ⟨Q, hQ⟩ : ∃ Q, Q = 44 :: (dayC st ++ 44 :: dayC en) := ⟨_, rfl⟩
    obtain ⟨O, hO⟩ : ∃ O, O = (if dof - so = 3600 then [] else hmsFmt (-dof)) := ⟨_, rfl⟩
    obtain ⟨l, hl⟩ : ∃ l, l = ruleF (n, so, true, m, dof, st, en) := ⟨_, rfl⟩
    have hl' : l = tnFmt n ++ (hmsFmt (-so) ++ (tnFmt m ++ (O ++ Q))) := by rw [hl, hO, hQ]; unfold ruleF; simp
    rw [← hl]
    have e1 : tnParse l = some (n, (tnFmt n).length) := by rw [hl']; exact tnParse_fmt _ hn (.inr (fmt_head h1 h2 _))
    have d1 : l.drop (tnFmt n).length = hmsFmt (-so) ++ (tnFmt m ++ (O ++ Q)) := by rw [hl', drop_app]
    have d2 : l.drop ((tnFmt n).length + (hmsFmt (-so)).length) = tnFmt m ++ (O ++ Q) := by rw [← List.drop_drop, d1, drop_app]
    have d3 : l.drop ((tnFmt n).length + (hmsFmt (-so)).length + (tnFmt m).length) = O ++ Q := by rw [← List.drop_drop, d2, drop_app]
    have d4 : l.drop ((tnFmt n).length + (hmsFmt (-so)).length + (tnFmt m).length + O.length) = Q := by rw [← List.drop_drop, d3, drop_app]
    have hOQ : ∃ c u, O ++ Q = c :: u ∧ alpha c = false := by
      rw [hO]
      split
      · exact ⟨44, _, by rw [hQ]; rfl, rfl⟩
      · exact fmt_head h3 h4 _
    have hlen := congrArg List.length d2
    simp at hlen
    have hm1 := tnFmt_len1 hm
    unfold ptParse
    rw [e1]
    simp only
    rw [d1, parse_fmt _ h1 h2 (tnFmt_head hm _)]
    simp only
    rw [if_pos ha, if_neg (by omega), d2, tnParse_fmt _ hm (.inr hOQ)]
    simp only
    rw [d3]
    by_cases h36 : dof - so = 3600
    · rw [if_pos h36] at hO
      subst hO
      rw [hQ, List.nil_append, show hmsParse (44 :: (dayC st ++ 44 :: dayC en)) = none from rfl]
      simp only [Int.neg_neg]
      rw [List.nil_append, hQ] at d3
      have hdof : dof = so + 3600 := by omega
      rw [← hdof]
      exact ptDays_of d3 hX hY hdo
    · rw [if_neg h36] at hO
      subst hO
      rw [hQ, parse_fmt _ h3 h4 (hstop44 _)]
      simp only
      rw [hQ] at d4
      rw [if_pos hb, Int.neg_neg, Int.neg_neg]
      exact ptDays_of d4 hX hY hdo
theorem ruleF_inj {r u : PR} (hr : prOk r) (hu : prOk u) : ruleF r = ruleF u ↔ r = u := by
  refine ⟨fun h => ?_, fun h => by rw [h]⟩
  have := rule_back hr
  rw [h, rule_back hu] at this
  injection this with this
  exact this.symm
end Go.Proofs.YtjeclakdgmjbjaaGreatDoor
