/-
  PLAIN MATHEMATICS of durations: a parsed prefix. No program.
-/
import Derived.Test.YtdhogpcoegfopaaGreatDoorHmMath
namespace Go.Proofs.YtdhogpcoegfopaaGreatDoor
open Go.RowKit
set_option linter.unusedVariables false
set_option maxRecDepth 100000
theorem field_take (m : List UInt8) (k : Nat) : hmsField (m.take (k + 3)) = hmsField m := by
  match m with
  | [] => rfl
  | [a] => rfl
  | [a, b] => rfl
  | a :: b :: c :: r => rfl
theorem field_len {m : List UInt8} (h : 0 ≤ hmsField m) : 3 ≤ m.length ∧ ∃ t, m = 58 :: t := by
  match m, h with
  | [], h => simp [hmsField] at h
  | [a], h => simp [hmsField] at h
  | [a, b], h => simp [hmsField] at h
  | a :: b :: c :: r, h =>
    refine ⟨by simp, b :: c :: r, ?_⟩
    unfold hmsField at h
    simp only at h
    split at h
    · rename_i h'
      rw [show a = 58 from UInt8.toNat_inj.1 (by have := h'.1; have e : (58 : UInt8).toNat = 58 := rfl; omega)]
    · omega
theorem tail_take (m : List UInt8) : (hmsTail m).2 ≤ m.length ∧ hmsTail (m.take (hmsTail m).2) = hmsTail m ∧ 0 ≤ (hmsTail m).1 ∧ (hmsTail m).1 < 3600 ∧ (0 < (hmsTail m).1 → 3 ≤ (hmsTail m).2) ∧ (0 < (hmsTail m).1 % 60 → (hmsTail m).2 = 6)
    ∧ (m.take (hmsTail m).2 = [] ∨ ∃ x t, m.take (hmsTail m).2 = x :: t ∧ dig x = false) := by
  have b1 := hmsField_bd m
  have b2 := hmsField_bd (m.drop 3)
  by_cases h1 : 0 ≤ hmsField m
  · obtain ⟨l1, t, ht⟩ := field_len h1
    by_cases h2 : 0 ≤ hmsField (m.drop 3)
    · obtain ⟨l2, _⟩ := field_len h2
      have e : hmsTail m = (60 * hmsField m + hmsField (m.drop 3), 6) := by unfold hmsTail; rw [if_pos h1, if_pos h2]
      rw [e]
      have e2 : (m.take 6).drop 3 = (m.drop 3).take 3 := by rw [List.drop_take]
      refine ⟨by simp at l2; simp; omega, ?_, by simp; omega, by simp; omega, by simp, by simp, .inr ⟨58, t.take 5, by rw [ht]; rfl, rfl⟩⟩
      unfold hmsTail
      rw [show hmsField (m.take 6) = hmsField m from field_take m 3, e2, show hmsField ((m.drop 3).take 3) = hmsField (m.drop 3) from field_take _ 0, if_pos h1, if_pos h2]
    · have e : hmsTail m = (60 * hmsField m, 3) := by unfold hmsTail; rw [if_pos h1, if_neg h2]
      rw [e]
      have e2 : (m.take 3).drop 3 = [] := by rw [List.drop_take]; simp
      refine ⟨l1, ?_, by simp <;> omega, by simp <;> omega, by simp, by simp <;> omega, .inr ⟨58, t.take 2, by rw [ht]; rfl, rfl⟩⟩
      unfold hmsTail
      rw [show hmsField (m.take 3) = hmsField m from field_take m 0, e2, if_pos h1, if_neg (by decide)]
  · have e : hmsTail m = (0, 0) := by unfold hmsTail; rw [if_neg h1]
    rw [e]
    exact ⟨by simp, rfl, by simp, by simp, by simp, by simp, .inl rfl⟩
theorem body_prefix {l : List UInt8} {v : Int} {k : Nat} (h : hmsBody l = some (v, k)) : 1 ≤ k ∧ k ≤ l.length ∧ 0 ≤ v ∧ v < 604800 ∧ hmsBody (l.take k) = some (v, k) ∧ (hmsAbs v).length ≤ k := by
  obtain ⟨d, hd⟩ : ∃ d, d = l.takeWhile dig := ⟨_, rfl⟩
  obtain ⟨m, hm⟩ : ∃ m, m = l.drop d.length := ⟨_, rfl⟩
  have hdd : ∀ c ∈ d, dig c = true := fun c hc => r8_.tw_all' (p := dig) (l := l) (by rw [← hd]; exact hc)
  have hl : l = d ++ m := by
    have := take_tw (p := dig) l
    rw [← hd] at this
    rw [hm, ← this]
    simp
    rw [show min d.length l.length = d.length from Nat.min_eq_left (by rw [hd]; exact tw_le _ _)]
    simp
  have hb : hmsBody l = if 1 ≤ d.length ∧ d.length ≤ 3 ∧ dval d ≤ 167 then some (3600 * dval d + (hmsTail m).1, d.length + (hmsTail m).2) else none := by
    simp only [hmsBody, ← hd, ← hm]
  rw [hb] at h
  split at h
  · rename_i hc
    obtain ⟨c1, c2, c3⟩ := hc
    cases h
    obtain ⟨t1, t2, t3, t4, t5, t6, t7⟩ := tail_take m
    obtain ⟨v0, v1, v2, v3⟩ := dval_bd d.length d (by omega) hdd c2
    have hlen : l.length = d.length + m.length := by rw [hl, List.length_append]
    have htk : l.take (d.length + (hmsTail m).2) = d ++ m.take (hmsTail m).2 := by
      rw [hl, List.take_append]
      simp
      rw [List.take_of_length_le (by omega)]
    refine ⟨by omega, by omega, by omega, by omega, ?_, ?_⟩
    · rw [htk, body_of hdd t7 c1 c2 c3, t2]
    · obtain ⟨q1, q2, q3, q4, q5⟩ := hh_val (h := dval d) (by omega) (by omega)
      have e1 : (3600 * dval d + (hmsTail m).1) / 3600 = dval d := by omega
      have e2 : (3600 * dval d + (hmsTail m).1) % 3600 = (hmsTail m).1 := by omega
      have e3 : (3600 * dval d + (hmsTail m).1) % 60 = (hmsTail m).1 % 60 := by omega
      have hhl : (hh (dval d)).length ≤ d.length := by
        by_cases x1 : d.length ≤ 1
        · have := v3 x1
          have := q5 (by omega)
          omega
        · by_cases x2 : d.length ≤ 2
          · have := v2 x2
            have := q4 (by omega)
            omega
          · omega
      unfold hmsAbs
      rw [e1, e2, e3]
      simp only [List.length_append]
      by_cases y1 : 0 < (hmsTail m).1
      · have := t5 y1
        by_cases y2 : 0 < (hmsTail m).1 % 60
        · have := t6 y2
          rw [if_pos y1, if_pos y2]
          simp [d2_len]
          omega
        · rw [if_pos y1, if_neg y2]
          simp [d2_len]
          omega
      · rw [if_neg y1, if_neg (show ¬ 0 < (hmsTail m).1 % 60 by omega)]
        simp
        omega
  · cases h
theorem parse_prefix {l : List UInt8} {a : Int} {n : Nat} (h : hmsParse l = some (a, n)) : 1 ≤ n ∧ n ≤ l.length ∧ -604800 < a ∧ a < 604800 ∧ hmsParse (l.take n) = some (a, n) ∧ (hmsFmt a).length ≤ n := by
  cases l with
  | nil => cases h
  | cons c t =>
    by_cases h43 : (c.toNat : Int) = 43
    · have e43 : c = 43 := UInt8.toNat_inj.1 (by have e : (43 : UInt8).toNat = 43 := rfl; omega)
      subst e43
      rw [parse_plus] at h
      cases hb : hmsBody t with
      | none => rw [hb] at h; cases h
      | some p =>
        obtain ⟨v, k⟩ := p
        rw [hb] at h
        cases h
        obtain ⟨g1, g2, g3, g4, g5, g6⟩ := body_prefix hb
        refine ⟨by omega, by simp; omega, by omega, by omega, ?_, ?_⟩
        · rw [List.take_succ_cons, parse_plus, g5]; rfl
        · unfold hmsFmt
          simp only
          rw [if_neg (by omega)]
          omega
    · by_cases h45 : (c.toNat : Int) = 45
      · have e45 : c = 45 := UInt8.toNat_inj.1 (by have e : (45 : UInt8).toNat = 45 := rfl; omega)
        subst e45
        rw [parse_minus] at h
        cases hb : hmsBody t with
        | none => rw [hb] at h; cases h
        | some p =>
          obtain ⟨v, k⟩ := p
          rw [hb] at h
          cases h
          obtain ⟨g1, g2, g3, g4, g5, g6⟩ := body_prefix hb
          refine ⟨by omega, by simp; omega, by simp; omega, by simp; omega, ?_, ?_⟩
          · rw [List.take_succ_cons, parse_minus, g5]; rfl
          · unfold hmsFmt
            simp only
            by_cases hv : -v < 0
            · rw [if_pos hv, Int.neg_neg]
              simp
              omega
            · rw [if_neg hv]
              obtain rfl : v = 0 := by omega
              have : (hmsAbs (-0)).length = (hmsAbs 0).length := rfl
              omega
      · have e : ∀ (u : List UInt8), hmsParse (c :: u) = hmsBody (c :: u) := fun u => by
          unfold hmsParse
          simp only
          rw [if_neg h43, if_neg h45]
        rw [e] at h
        obtain ⟨g1, g2, g3, g4, g5, g6⟩ := body_prefix h
        obtain ⟨j, rfl⟩ : ∃ j, n = j + 1 := ⟨n - 1, by omega⟩
        refine ⟨g1, g2, by omega, by omega, ?_, ?_⟩
        · rw [List.take_succ_cons, e, ← List.take_succ_cons, g5]
        · unfold hmsFmt
          rw [if_neg (by omega)]
          exact g6
end Go.Proofs.YtdhogpcoegfopaaGreatDoor
