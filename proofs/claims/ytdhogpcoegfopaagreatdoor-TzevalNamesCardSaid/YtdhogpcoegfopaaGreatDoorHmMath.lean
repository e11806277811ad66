/-
  PLAIN MATHEMATICS of durations: parsing a formatted one; what a parsed prefix is. No program.
-/
import Derived.Test.YtdhogpcoegfopaaGreatDoorHf
namespace Go.Proofs.YtdhogpcoegfopaaGreatDoor
open Go.RowKit
set_option linter.unusedVariables false
set_option maxRecDepth 100000
theorem dig_dg {x : Int} (h0 : 0 ≤ x) (h1 : x ≤ 9) : dig (dg x) = true := by
  unfold dig
  rw [dg_toNat h0 h1]
  simp
  omega
/-- what follows doesn't continue a duration. -/
def hstop (l : List UInt8) : Prop := l = [] ∨ ∃ c t, l = c :: t ∧ dig c = false ∧ ¬ (c.toNat : Int) = 58
theorem hstop_nil : hstop [] := .inl rfl
theorem hh_dig {h : Int} (h0 : 0 ≤ h) (h1 : h ≤ 167) : ∀ c ∈ hh h, dig c = true := by
  intro c hc
  have e49 : dig 49 = true := rfl
  unfold hh at hc
  simp at hc
  rcases hc with ⟨_, rfl⟩ | ⟨_, rfl⟩ | rfl
  · exact e49
  · exact dig_dg (by omega) (by omega)
  · exact dig_dg (by omega) (by omega)
theorem hh_val {h : Int} (h0 : 0 ≤ h) (h1 : h ≤ 167) : dval (hh h) = h ∧ 1 ≤ (hh h).length ∧ (hh h).length ≤ 3 ∧ (h < 100 → (hh h).length ≤ 2) ∧ (h < 10 → (hh h).length ≤ 1) := by
  have d1 := dg_toNat (x := h / 10 % 10) (by omega) (by omega)
  have d2 := dg_toNat (x := h % 10) (by omega) (by omega)
  have e49 : ((49 : UInt8).toNat : Int) = 49 := rfl
  unfold hh dval
  by_cases ha : 100 ≤ h
  · rw [if_pos ha, if_pos (show 10 ≤ h by omega)]
    simp [d1, d2]
    omega
  · rw [if_neg ha]
    by_cases hb : 10 ≤ h
    · rw [if_pos hb]
      simp [d1, d2]
      omega
    · rw [if_neg hb]
      simp [d2]
      omega
theorem field_d2 {m : Int} (t : List UInt8) (h0 : 0 ≤ m) (h1 : m ≤ 59) : hmsField (58 :: (d2 m ++ t)) = m := by
  have e1 := dg_toNat (x := m / 10) (by omega) (by omega)
  have e2 := dg_toNat (x := m % 10) (by omega) (by omega)
  have e58 : ((58 : UInt8).toNat : Int) = 58 := rfl
  unfold d2 hmsField
  simp only [List.cons_append, List.nil_append]
  rw [e1, e2, if_pos ⟨e58, dig_dg (by omega) (by omega), dig_dg (by omega) (by omega), by omega⟩]
  omega
theorem field_stop {l : List UInt8} (h : hstop l) : hmsField l = -1 := by
  rcases h with rfl | ⟨c, t, rfl, _, hc⟩
  · rfl
  · unfold hmsField
    split
    · rename_i e
      injection e with e1 e2
      subst e1
      rw [if_neg (fun h => hc h.1)]
    · rfl
theorem stop_dig {l : List UInt8} (h : hstop l) : l = [] ∨ ∃ c t, l = c :: t ∧ dig c = false := by
  rcases h with h | ⟨c, t, h1, h2, _⟩
  · exact .inl h
  · exact .inr ⟨c, t, h1, h2⟩
theorem tw_app' {p : UInt8 → Bool} {a b : List UInt8} (ha : ∀ c ∈ a, p c = true) (hb : b = [] ∨ ∃ x t, b = x :: t ∧ p x = false) : (a ++ b).takeWhile p = a := by
  rw [List.takeWhile_append_of_pos ha]
  rcases hb with rfl | ⟨x, t, rfl, hx⟩
  · simp
  · rw [List.takeWhile_cons_of_neg (by simp [hx])]
    simp
/-- a body: digits, and the tail of fields. -/
theorem body_of {d m : List UInt8} (hd : ∀ c ∈ d, dig c = true) (hm : m = [] ∨ ∃ x t, m = x :: t ∧ dig x = false) (h1 : 1 ≤ d.length) (h3 : d.length ≤ 3) (hv : dval d ≤ 167) :
    hmsBody (d ++ m) = some (3600 * dval d + (hmsTail m).1, d.length + (hmsTail m).2) := by
  have e := tw_app' hd hm
  have e2 : (d ++ m).drop d.length = m := by simp
  simp only [hmsBody, e, e2]
  rw [if_pos ⟨h1, h3, hv⟩]
theorem d2_len (x : Int) : (d2 x).length = 2 := rfl
theorem tail_abs {x : Int} (tail : List UInt8) (h0 : 0 ≤ x) (ht : hstop tail) :
    hmsTail ((if 0 < x % 3600 then 58 :: d2 (x / 60 % 60) else []) ++ (if 0 < x % 60 then 58 :: d2 (x % 60) else []) ++ tail) = (x % 3600, ((if 0 < x % 3600 then 58 :: d2 (x / 60 % 60) else []) ++ (if 0 < x % 60 then 58 :: d2 (x % 60) else [])).length) := by
  have fs := field_stop ht
  unfold hmsTail
  by_cases h1 : 0 < x % 3600
  · rw [if_pos h1]
    by_cases h2 : 0 < x % 60
    · rw [if_pos h2]
      have e1 : 58 :: d2 (x / 60 % 60) ++ 58 :: d2 (x % 60) ++ tail = 58 :: (d2 (x / 60 % 60) ++ (58 :: (d2 (x % 60) ++ tail))) := by simp
      have e2 : (58 :: (d2 (x / 60 % 60) ++ (58 :: (d2 (x % 60) ++ tail)))).drop 3 = 58 :: (d2 (x % 60) ++ tail) := rfl
      rw [e1, e2, field_d2 _ (by omega) (by omega), field_d2 _ (by omega) (by omega), if_pos (by omega), if_pos (by omega)]
      simp [d2_len]
      omega
    · rw [if_neg h2]
      have e1 : 58 :: d2 (x / 60 % 60) ++ [] ++ tail = 58 :: (d2 (x / 60 % 60) ++ tail) := by simp
      have e2 : (58 :: (d2 (x / 60 % 60) ++ tail)).drop 3 = tail := rfl
      rw [e1, e2, field_d2 _ (by omega) (by omega), fs, if_pos (by omega), if_neg (by omega)]
      simp [d2_len]
      omega
  · rw [if_neg h1, if_neg (show ¬ 0 < x % 60 by omega)]
    simp only [List.nil_append]
    rw [fs, if_neg (by omega)]
    simp
    omega
theorem rest_stop {x : Int} {tail : List UInt8} (ht : hstop tail) : ((if 0 < x % 3600 then 58 :: d2 (x / 60 % 60) else []) ++ (if 0 < x % 60 then 58 :: d2 (x % 60) else []) ++ tail) = [] ∨ ∃ c t, ((if 0 < x % 3600 then 58 :: d2 (x / 60 % 60) else []) ++ (if 0 < x % 60 then 58 :: d2 (x % 60) else []) ++ tail) = c :: t ∧ dig c = false := by
  by_cases h1 : 0 < x % 3600
  · rw [if_pos h1]
    exact .inr ⟨58, _, rfl, rfl⟩
  · rw [if_neg h1, if_neg (show ¬ 0 < x % 60 by omega)]
    exact stop_dig ht
theorem body_abs {x : Int} (tail : List UInt8) (h0 : 0 ≤ x) (h1 : x < 604800) (ht : hstop tail) : hmsBody (hmsAbs x ++ tail) = some (x, (hmsAbs x).length) := by
  obtain ⟨hv, hl1, hl3, _⟩ := hh_val (h := x / 3600) (by omega) (by omega)
  unfold hmsAbs
  rw [List.append_assoc, body_of (hh_dig (by omega) (by omega)) (rest_stop ht) hl1 hl3 (by rw [hv]; omega), tail_abs tail h0 ht, hv]
  simp only [List.length_append]
  congr 2
  omega
theorem abs_head {x : Int} (h0 : 0 ≤ x) (h1 : x < 604800) : ∃ c t, hmsAbs x = c :: t ∧ dig c = true := by
  obtain ⟨_, hl1, _⟩ := hh_val (h := x / 3600) (by omega) (by omega)
  have hd := hh_dig (h := x / 3600) (by omega) (by omega)
  cases h : hh (x / 3600) with
  | nil => rw [h] at hl1; simp at hl1
  | cons c t =>
    refine ⟨c, _, by unfold hmsAbs; rw [h]; rfl, hd c (by rw [h]; simp)⟩
theorem parse_body {l : List UInt8} (h : ∃ c t, l = c :: t ∧ dig c = true) : hmsParse l = hmsBody l := by
  obtain ⟨c, t, rfl, hc⟩ := h
  have := r8_.dig_bd hc
  unfold hmsParse
  simp only
  rw [if_neg (by omega), if_neg (by omega)]
theorem parse_plus (l : List UInt8) : hmsParse (43 :: l) = (hmsBody l).map fun p => (p.1, p.2 + 1) := by
  unfold hmsParse
  simp only
  rw [if_pos (show ((43 : UInt8).toNat : Int) = 43 from rfl)]
theorem parse_minus (l : List UInt8) : hmsParse (45 :: l) = (hmsBody l).map fun p => (- p.1, p.2 + 1) := by
  unfold hmsParse
  simp only
  rw [if_neg (show ¬ ((45 : UInt8).toNat : Int) = 43 by decide), if_pos (show ((45 : UInt8).toNat : Int) = 45 from rfl)]
theorem parse_fmt {x : Int} (tail : List UInt8) (h0 : -604800 < x) (h1 : x < 604800) (ht : hstop tail) : hmsParse (hmsFmt x ++ tail) = some (x, (hmsFmt x).length) := by
  unfold hmsFmt
  by_cases hx : x < 0
  · rw [if_pos hx, List.cons_append, parse_minus, body_abs tail (by omega) (by omega) ht]
    simp
  · rw [if_neg hx]
    obtain ⟨c, t, e, hc⟩ := abs_head (x := x) (by omega) h1
    rw [parse_body ⟨c, t ++ tail, by rw [e]; rfl, hc⟩, body_abs tail (by omega) h1 ht]
theorem hmsFmt_inj {x y : Int} (h0 : -604800 < x) (h1 : x < 604800) (h2 : -604800 < y) (h3 : y < 604800) (h : hmsFmt x = hmsFmt y) : x = y := by
  have a := parse_fmt [] h0 h1 hstop_nil
  have b := parse_fmt [] h2 h3 hstop_nil
  rw [h, b] at a
  injection a with a
  injection a with a _
  exact a.symm
theorem hmsAbs_len {x : Int} (h0 : 0 ≤ x) (h1 : x < 604800) : 1 ≤ (hmsAbs x).length ∧ (hmsAbs x).length ≤ 9 := by
  obtain ⟨_, hl1, hl3, _⟩ := hh_val (h := x / 3600) (by omega) (by omega)
  unfold hmsAbs
  simp only [List.length_append]
  split <;> split <;> simp [d2_len] <;> omega
theorem hmsFmt_len {x : Int} (h0 : -604800 < x) (h1 : x < 604800) : 1 ≤ (hmsFmt x).length ∧ (hmsFmt x).length ≤ 10 := by
  unfold hmsFmt
  split
  · have := hmsAbs_len (x := -x) (by omega) (by omega)
    simp
    omega
  · have := hmsAbs_len (x := x) (by omega) (by omega)
    omega
end Go.Proofs.YtdhogpcoegfopaaGreatDoor
