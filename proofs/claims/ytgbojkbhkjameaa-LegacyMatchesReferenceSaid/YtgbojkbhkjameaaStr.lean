/-
  PLAIN WORDS ON STRINGS (arrays of bytes), over no program.
-/
import Derived.Test.YtgbojkbhkjameaaBase2
namespace Go.Proofs.Ytgbojkbhkjameaa
open Go.RowKit
set_option linter.unusedVariables false
set_option maxRecDepth 100000
/-- a string out of its bytes. -/
def mkS (l : List UInt8) : ByteArray := ⟨l.toArray⟩
abbrev byt (s : ByteArray) : List UInt8 := s.data.toList
theorem byt_mk (l : List UInt8) : byt (mkS l) = l := by simp [byt, mkS]
theorem mk_byt (s : ByteArray) : mkS (byt s) = s := by cases s; simp [mkS]
theorem mk_inj {a b : List UInt8} : mkS a = mkS b ↔ a = b := ⟨fun h => by rw [← byt_mk a, h, byt_mk], fun h => by rw [h]⟩
theorem byt_inj {a b : ByteArray} : byt a = byt b ↔ a = b := ⟨fun h => by rw [← mk_byt a, h, mk_byt], fun h => by rw [h]⟩
theorem len_byt (s : ByteArray) : (byt s).length = s.size := by simp [byt]
theorem size_mk (l : List UInt8) : (mkS l).size = l.length := by simp [mkS, ByteArray.size]
theorem get_byt (s : ByteArray) (k : Nat) (h : k < s.size) : (byt s)[k]'(by rw [len_byt]; exact h) = s[k] := by simp [byt]; rfl
theorem tw_lt {p : UInt8 → Bool} : ∀ {l : List UInt8} {k : Nat} (h : k < (l.takeWhile p).length) (hk : k < l.length), p l[k] = true
  | [], _, h, _ => by simp at h
  | a :: l, k, h, hk => by
    by_cases ha : p a = true
    · rw [List.takeWhile_cons_of_pos ha] at h
      cases k with
      | zero => exact ha
      | succ k =>
        simp only [List.getElem_cons_succ]
        exact tw_lt (by simpa using h) (by simpa using hk)
    · rw [List.takeWhile_cons_of_neg ha] at h
      simp at h
theorem tw_le (p : UInt8 → Bool) (l : List UInt8) : (l.takeWhile p).length ≤ l.length := (List.takeWhile_sublist _).length_le
theorem tw_at {p : UInt8 → Bool} : ∀ {l : List UInt8} (h : (l.takeWhile p).length < l.length), p (l[(l.takeWhile p).length]'h) = false
  | [], h => by simp at h
  | a :: l, h => by
    by_cases ha : p a = true
    · have e : (List.takeWhile p (a :: l)) = a :: List.takeWhile p l := List.takeWhile_cons_of_pos ha
      have h' : (l.takeWhile p).length < l.length := by rw [e] at h; simpa using h
      simp only [e, List.length_cons, List.getElem_cons_succ]
      exact tw_at h'
    · have e : (List.takeWhile p (a :: l)) = [] := List.takeWhile_cons_of_neg ha
      simp only [e, List.length_nil, List.getElem_cons_zero]
      simpa using ha
theorem tw_uniq {p : UInt8 → Bool} : ∀ {l : List UInt8} {k : Nat} (hk : k ≤ l.length) (h1 : ∀ i (hi : i < k), p (l[i]'(by omega)) = true) (h2 : ∀ h : k < l.length, p l[k] = false), (l.takeWhile p).length = k
  | [], k, hk, _, _ => by simp at hk; subst hk; simp
  | a :: l, 0, _, _, h2 => by
    have := h2 (by simp)
    simp at this
    rw [List.takeWhile_cons_of_neg (by simp [this])]
    rfl
  | a :: l, k + 1, hk, h1, h2 => by
    have ha := h1 0 (by omega)
    simp at ha
    rw [List.takeWhile_cons_of_pos ha]
    simp
    exact tw_uniq (by simpa using hk) (fun i hi => by have := h1 (i + 1) (by omega); simpa using this) (fun h => by have := h2 (by simpa using h); simpa using this)
theorem take_tw {p : UInt8 → Bool} (l : List UInt8) : l.take (l.takeWhile p).length = l.takeWhile p := by
  induction l with
  | nil => rfl
  | cons a l ih =>
    by_cases ha : p a = true
    · rw [List.takeWhile_cons_of_pos ha]; simp [ih]
    · rw [List.takeWhile_cons_of_neg ha]; simp
theorem all_tw {p : UInt8 → Bool} (l : List UInt8) : l.all p = decide ((l.takeWhile p).length = l.length) := by
  induction l with
  | nil => rfl
  | cons a l ih =>
    by_cases ha : p a = true
    · rw [List.takeWhile_cons_of_pos ha]; simp [ih, ha]
    · rw [List.takeWhile_cons_of_neg ha]; simp [ha]
theorem byt_extract (s : ByteArray) (a b : Nat) : byt (s.extract a b) = ((byt s).take b).drop a := by
  simp [byt, ByteArray.data_extract, Array.toList_extract, List.extract_eq_drop_take']
theorem byt_append (s t : ByteArray) : byt (s ++ t) = byt s ++ byt t := by simp [byt]
/-- equality of strings as the model spells it. -/
theorem seq_ne {a b : ByteArray} (h : ¬ a = b) : (a.toList == b.toList) = false := by
  rw [ByteArray.toList_eq, ByteArray.toList_eq]
  simp only [beq_eq_false_iff_ne, ne_eq]
  exact fun e => h (byt_inj.1 e)
theorem seq_eq {a b : ByteArray} (h : a = b) : (a.toList == b.toList) = true := by rw [h]; simp
end Go.Proofs.Ytgbojkbhkjameaa
