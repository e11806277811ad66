/-
  PLAIN MATHEMATICS of POSIX TZ rules: a blank behind what is parsed. No program.
-/
import Derived.Test.YtdhogpcoegfopaaGreatDoorPt
namespace Go.Proofs.YtdhogpcoegfopaaGreatDoor
open Go.RowKit
set_option linter.unusedVariables false
set_option maxRecDepth 100000
theorem tw_sp {p : UInt8 → Bool} (hp : p 32 = false) (l : List UInt8) : (l ++ [32]).takeWhile p = l.takeWhile p := by
  induction l with
  | nil => rw [List.nil_append, List.takeWhile_cons_of_neg (by simp [hp])]; rfl
  | cons a l ih =>
    rw [List.cons_append]
    by_cases ha : p a = true
    · rw [List.takeWhile_cons_of_pos ha, List.takeWhile_cons_of_pos ha, ih]
    · rw [List.takeWhile_cons_of_neg ha, List.takeWhile_cons_of_neg ha]
theorem drop_sp {l : List UInt8} {n : Nat} (h : n ≤ l.length) : (l ++ [32]).drop n = l.drop n ++ [32] := List.drop_append_of_le_length h
theorem tnParse_sp (l : List UInt8) : tnParse (l ++ [32]) = tnParse l := by
  cases l with
  | nil => rfl
  | cons a t =>
    by_cases h : a.toNat = 60
    · rw [List.cons_append]
      simp only [tnParse, if_pos h]
      have hle := tw_le not62 t
      by_cases hq : (t.takeWhile not62).length < t.length
      · have e : (t ++ [32]).takeWhile not62 = t.takeWhile not62 := by
          rw [List.takeWhile_append, if_neg (by omega)]
        rw [e]
        simp only [List.length_append, List.length_singleton]
        by_cases hn : nameOk (t.takeWhile not62) = true
        · rw [if_pos ⟨by omega, hn⟩, if_pos ⟨hq, hn⟩]
        · rw [if_neg (fun h => hn h.2), if_neg (fun h => hn h.2)]
      · have e : (t ++ [32]).takeWhile not62 = t ++ [32] := by
          rw [List.takeWhile_append, if_pos (by omega)]
          rfl
        rw [e, if_neg (fun h => by omega), if_neg (fun h => hq h.1)]
    · have e := tw_sp (p := alpha) rfl (a :: t)
      rw [List.cons_append] at e ⊢
      simp only [tnParse, if_neg h, e]
theorem field_sp (m : List UInt8) : hmsField (m ++ [32]) = hmsField m := by
  match m with
  | [] => rfl
  | [a] => rfl
  | [a, b] =>
    show hmsField [a, b, 32] = -1
    unfold hmsField
    simp only
    rw [if_neg (fun h => by have := h.2.2.1; cases this)]
  | a :: b :: c :: r => rfl
theorem tail_sp (m : List UInt8) : hmsTail (m ++ [32]) = hmsTail m := by
  unfold hmsTail
  rw [field_sp]
  by_cases h : 0 ≤ hmsField m
  · rw [drop_sp (field_len h).1, field_sp]
  · rw [if_neg h, if_neg h]
theorem body_sp (l : List UInt8) : hmsBody (l ++ [32]) = hmsBody l := by
  have e := tw_sp (p := dig) rfl l
  simp only [hmsBody, e]
  rw [drop_sp (tw_le _ _), tail_sp]
theorem hmsParse_sp (l : List UInt8) : hmsParse (l ++ [32]) = hmsParse l := by
  cases l with
  | nil => rfl
  | cons c t =>
    have e := body_sp (c :: t)
    rw [List.cons_append] at e ⊢
    unfold hmsParse
    simp only
    rw [body_sp, e]
theorem ptNum_sp (l : List UInt8) : ptNum (l ++ [32]) = ptNum l := by
  unfold ptNum
  rw [tw_sp (p := dig) rfl]
theorem ptNumP_sp (l : List UInt8) : ptNumP (l ++ [32]) = ptNumP l := by
  unfold ptNumP
  rw [ptNum_sp]
  cases h : ptNum l with
  | none => rfl
  | some p =>
    obtain ⟨v, n⟩ := p
    have := ptNum_some h
    simp only
    rw [drop_sp this.2.2.1]
    cases hd : l.drop n with
    | nil => rfl
    | cons c t => rfl
theorem ptHead_sp (l : List UInt8) : ptHead (l ++ [32]) = ptHead l := by
  cases l with
  | nil => rfl
  | cons c t =>
    have e := ptNum_sp (c :: t)
    rw [List.cons_append] at e ⊢
    unfold ptHead
    simp only
    rw [ptNum_sp, e, ptNumP_sp]
    cases h1 : ptNumP t with
    | none => rfl
    | some p =>
      obtain ⟨m, i⟩ := p
      have a1 := ptNumP_some h1
      simp only
      rw [drop_sp a1.2.1, ptNumP_sp]
      cases h2 : ptNumP (t.drop i) with
      | none => rfl
      | some q =>
        obtain ⟨w, j⟩ := q
        have a2 := ptNumP_some h2
        simp at a2
        simp only
        rw [drop_sp (by omega), ptNum_sp]
theorem ptDay_sp (l : List UInt8) : ptDay (l ++ [32]) = ptDay l := by
  unfold ptDay
  rw [ptHead_sp]
  cases h : ptHead l with
  | none => rfl
  | some p =>
    obtain ⟨g, n⟩ := p
    have a := ptHead_some h
    simp only
    rw [drop_sp a.2]
    cases hd : l.drop n with
    | nil => rfl
    | cons c t =>
      simp only [List.cons_append]
      rw [hmsParse_sp]
theorem ptComma_sp {l : List UInt8} {a : Nat} (ha : a ≤ l.length) : ptComma (l ++ [32]) a = ptComma l a := by
  unfold ptComma
  rw [drop_sp ha]
  cases hd : l.drop a with
  | nil => rfl
  | cons c t =>
    simp only [List.cons_append]
    rw [ptDay_sp]
theorem ptDays_sp {l : List UInt8} {a : Nat} {std dst : List UInt8} {so dof : Int} {r : PR} (ha : a ≤ l.length) (e : ptDays l a std so dst dof = .ok r) : ptDays (l ++ [32]) a std so dst dof = .error l.length := by
  unfold ptDays at e ⊢
  rw [ptComma_sp ha]
  cases h1 : ptComma l a with
  | error x => rw [h1] at e; cases e
  | ok p =>
    obtain ⟨st, b⟩ := p
    have a1 := ptComma_ok h1
    rw [h1] at e
    simp only at e ⊢
    rw [ptComma_sp a1.2.1]
    cases h2 : ptComma l b with
    | error x => rw [h2] at e; cases e
    | ok q =>
      obtain ⟨en, c⟩ := q
      rw [h2] at e
      simp only at e ⊢
      split at e
      · rename_i hc
        rw [if_neg (fun h => by have := h.1; simp at this; omega), hc.1]
      · cases e
theorem ptParse_sp {l : List UInt8} {r : PR} (e : ptParse l = .ok r) : ptParse (l ++ [32]) = .error l.length := by
  unfold ptParse at e ⊢
  rw [tnParse_sp]
  cases h1 : tnParse l with
  | none => rw [h1] at e; cases e
  | some p =>
    obtain ⟨std, n⟩ := p
    have a1 := tnParse_some h1
    rw [h1] at e
    simp only at e ⊢
    rw [drop_sp a1.2.1, hmsParse_sp]
    cases h2 : hmsParse (l.drop n) with
    | none => rw [h2] at e; cases e
    | some q =>
      obtain ⟨v, m⟩ := q
      have a2 := parse_prefix h2
      simp at a2
      rw [h2] at e
      simp only at e ⊢
      by_cases hv : offOk v
      · rw [if_pos hv] at e ⊢
        have hlen : (l ++ [32]).length = l.length + 1 := by simp
        by_cases hl : n + m = l.length
        · rw [if_neg (by rw [hlen]; omega), drop_sp (by omega), hl, List.drop_length]
          rfl
        · rw [if_neg hl] at e
          rw [if_neg (by rw [hlen]; omega), drop_sp (by omega), tnParse_sp]
          cases h3 : tnParse (l.drop (n + m)) with
          | none => rw [h3] at e; cases e
          | some s =>
            obtain ⟨dst, n2⟩ := s
            have a3 := tnParse_some h3
            simp at a3
            rw [h3] at e
            simp only at e ⊢
            rw [drop_sp (by omega), hmsParse_sp]
            cases h4 : hmsParse (l.drop (n + m + n2)) with
            | none =>
              rw [h4] at e
              simp only at e ⊢
              exact ptDays_sp (by omega) e
            | some u =>
              obtain ⟨v2, m2⟩ := u
              have a4 := parse_prefix h4
              simp at a4
              rw [h4] at e
              simp only at e ⊢
              by_cases hv2 : offOk v2
              · rw [if_pos hv2] at e ⊢
                exact ptDays_sp (by omega) e
              · rw [if_neg hv2] at e; cases e
      · rw [if_neg hv] at e; cases e
end Go.Proofs.YtdhogpcoegfopaaGreatDoor
