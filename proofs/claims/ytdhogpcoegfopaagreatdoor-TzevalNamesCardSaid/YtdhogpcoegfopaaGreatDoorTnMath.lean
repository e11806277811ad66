/-
  PLAIN MATHEMATICS of designations: parsing a formatted one; what a parsed one is; inserting a byte. No program.
-/
import Derived.Test.YtdhogpcoegfopaaGreatDoorTn
namespace Go.Proofs.YtdhogpcoegfopaaGreatDoor
open Go.RowKit
set_option linter.unusedVariables false
set_option maxRecDepth 100000
theorem nameB_not62 {c : UInt8} (h : nameB c = true) : not62 c = true := by
  unfold nameB nameI alphaI at h
  unfold not62
  simp at h ⊢
  omega
theorem nameB_not60 {c : UInt8} (h : nameB c = true) : ¬ c.toNat = 60 := by
  unfold nameB nameI alphaI at h
  simp at h
  omega
theorem alpha_nameB {c : UInt8} (h : alpha c = true) : nameB c = true := by
  unfold nameB nameI
  rw [show alphaI (c.toNat : Int) = true from h]
  rfl
theorem nameOk_iff {l : List UInt8} : nameOk l = true ↔ 3 ≤ l.length ∧ l.length ≤ 255 ∧ ∀ c ∈ l, nameB c = true := by
  unfold nameOk
  simp [and_assoc]
theorem tw_app {p : UInt8 → Bool} {a b : List UInt8} (ha : ∀ c ∈ a, p c = true) (hb : b = [] ∨ ∃ x t, b = x :: t ∧ p x = false) : (a ++ b).takeWhile p = a := by
  rw [List.takeWhile_append_of_pos ha]
  rcases hb with rfl | ⟨x, t, rfl, hx⟩
  · simp
  · rw [List.takeWhile_cons_of_neg (by simp [hx])]
    simp
theorem tw_all {p : UInt8 → Bool} {a : List UInt8} (ha : (a.takeWhile p).length = a.length) : ∀ c ∈ a, p c = true := by
  have := all_tw (p := p) a
  rw [ha] at this
  simpa using this
theorem tnParse_q (n tail : List UInt8) (hn : nameOk n = true) : tnParse (60 :: (n ++ 62 :: tail)) = some (n, n.length + 2) := by
  have h := (nameOk_iff.1 hn)
  have e : (n ++ 62 :: tail).takeWhile not62 = n := tw_app (fun c hc => nameB_not62 (h.2.2 c hc)) (.inr ⟨62, tail, rfl, by decide⟩)
  have e60 : (60 : UInt8).toNat = 60 := rfl
  simp only [tnParse, e60, if_pos, e]
  rw [if_pos ⟨by simp, hn⟩]
theorem tnFmt_len (n : List UInt8) : (tnFmt n).length ≤ n.length + 2 := by
  unfold tnFmt
  split <;> simp <;> omega
theorem tnParse_fmt {n : List UInt8} (tail : List UInt8) (hn : nameOk n = true) (ht : tail = [] ∨ ∃ a t, tail = a :: t ∧ alpha a = false) : tnParse (tnFmt n ++ tail) = some (n, (tnFmt n).length) := by
  have h := (nameOk_iff.1 hn)
  unfold tnFmt
  split
  · rename_i hl
    have e : (n ++ tail).takeWhile alpha = n := tw_app (tw_all hl) ht
    cases n with
    | nil => simp at h
    | cons a m =>
      have ha : ¬ a.toNat = 60 := nameB_not60 (h.2.2 a (by simp))
      rw [List.cons_append] at e ⊢
      simp only [tnParse, if_neg ha, e]
      rw [if_pos hn]
  · have := tnParse_q n tail hn
    simp
    simpa using this
theorem tnFmt_inj {n m : List UInt8} (hn : nameOk n = true) (hm : nameOk m = true) (h : tnFmt n = tnFmt m) : n = m := by
  have h1 := tnParse_fmt [] hn (.inl rfl)
  have h2 := tnParse_fmt [] hm (.inl rfl)
  rw [h] at h1
  rw [h1] at h2
  simpa using h2
/-- a parsed designation. -/
theorem tnParse_some {l a : List UInt8} {n : Nat} (h : tnParse l = some (a, n)) : nameOk a = true ∧ n ≤ l.length ∧ 3 ≤ n ∧ (l.take n = a ∨ l.take n = 60 :: (a ++ [62])) := by
  cases l with
  | nil => simp [tnParse] at h
  | cons c t =>
    unfold tnParse at h
    simp only at h
    split at h
    · rename_i h60
      split at h
      · rename_i hq
        cases h
        obtain ⟨hq, hn⟩ := hq
        have h3 := (nameOk_iff.1 hn).1
        refine ⟨hn, by simp; omega, by omega, .inr ?_⟩
        have e1 := take_tw (p := not62) t
        have e2 := tw_at (p := not62) hq
        rw [show c = 60 from UInt8.toNat_inj.1 (by rw [h60]; rfl)]
        rw [List.take_succ_cons]
        congr 1
        rw [List.take_succ_eq_append_getElem hq, e1]
        congr 2
        have e3 := Decidable.not_not.1 (of_decide_eq_false e2)
        exact UInt8.toNat_inj.1 (by have : (62 : UInt8).toNat = 62 := rfl; omega)
      · cases h
    · split at h
      · rename_i hn
        cases h
        refine ⟨hn, tw_le _ _, (nameOk_iff.1 hn).1, .inl (take_tw _)⟩
      · cases h
theorem nameOk_short (l : List UInt8) (h : l.length < 3) : nameOk l = false := by
  unfold nameOk
  rw [decide_eq_false (by omega)]
  rfl
/-- inserting a byte. -/
theorem nameOk_ins {l : List UInt8} (k : Nat) (c : UInt8) (h : nameOk l = true) : nameOk (l.take k ++ c :: l.drop k) = (nameB c && decide (l.length < 255)) := by
  obtain ⟨h1, h2, h3⟩ := nameOk_iff.1 h
  have hlen : (l.take k ++ c :: l.drop k).length = l.length + 1 := by
    simp
    omega
  have hall : (l.take k ++ c :: l.drop k).all nameB = nameB c := by
    have e1 : (l.take k).all nameB = true := List.all_eq_true.2 fun x hx => h3 x (List.mem_of_mem_take hx)
    have e2 : (l.drop k).all nameB = true := List.all_eq_true.2 fun x hx => h3 x (List.mem_of_mem_drop hx)
    simp [e1, e2]
  unfold nameOk
  rw [hlen, hall, decide_eq_true (show 3 ≤ l.length + 1 by omega)]
  rw [Bool.eq_iff_iff]
  simp only [Bool.and_eq_true, decide_eq_true_eq]
  constructor
  · rintro ⟨⟨_, a⟩, b⟩
    exact ⟨b, by omega⟩
  · rintro ⟨a, b⟩
    exact ⟨⟨trivial, by omega⟩, a⟩
end Go.Proofs.YtdhogpcoegfopaaGreatDoor
