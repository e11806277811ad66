/-
  PLAIN MATHEMATICS of designation tables (layer 12): what Build makes, name by name. No program.
-/
import Derived.Test.YtgbojkbhkjameaaDsMath
namespace Go.Proofs.Ytgbojkbhkjameaa
open Go.RowKit
set_option linter.unusedVariables false
/-- a string's bytes as integers. -/
def bIx (s : ByteArray) : List Int := (byt s).map (fun c => (c.toNat : Int))
theorem bIx_len (s : ByteArray) : (bIx s).length = s.size := by unfold bIx; rw [List.length_map, len_byt]
theorem bIx_get (s : ByteArray) (k : Nat) (h : k < s.size) : (bIx s)[k]? = some (s[k].toNat : Int) := by
  unfold bIx
  rw [List.getElem?_map, List.getElem?_eq_getElem (by rw [len_byt]; exact h), get_byt s k h]
  rfl
/-- the index of the first name that equals s. -/
def firstAt : List ByteArray → List Int → ByteArray → Option Int
  | a :: l, x :: xs, s => if a = s then some x else firstAt l xs s
  | _, _, _ => none
theorem firstAt_snoc : ∀ {l : List ByteArray} {xs : List Int} (h : l.length = xs.length) (a : ByteArray) (x : Int) (s : ByteArray), firstAt (l ++ [a]) (xs ++ [x]) s = match firstAt l xs s with | some y => some y | none => if a = s then some x else none
  | [], [], _, a, x, s => rfl
  | b :: l, y :: xs, h, a, x, s => by
    simp only [List.cons_append, firstAt]
    by_cases hb : b = s
    · simp [hb]
    · simp only [if_neg hb]
      exact firstAt_snoc (by simpa using h) a x s
theorem firstAt_mem : ∀ {l : List ByteArray} {xs : List Int} {s : ByteArray} {y : Int}, firstAt l xs s = some y → ∃ k : Nat, l[k]? = some s ∧ xs[k]? = some y
  | a :: l, x :: xs, s, y, h => by
    unfold firstAt at h
    by_cases ha : a = s
    · rw [if_pos ha] at h
      cases h
      exact ⟨0, by simp [ha], by simp⟩
    · rw [if_neg ha] at h
      obtain ⟨k, h1, h2⟩ := firstAt_mem h
      exact ⟨k + 1, by simpa using h1, by simpa using h2⟩
  | [], _, _, _, h => by cases h
  | _ :: _, [], _, _, h => by cases h
theorem firstAt_none : ∀ {l : List ByteArray} {xs : List Int} {s : ByteArray} (hl : l.length = xs.length), firstAt l xs s = none ↔ s ∉ l
  | [], [], s, _ => by simp [firstAt]
  | a :: l, x :: xs, s, h => by
    unfold firstAt
    by_cases ha : a = s
    · simp [ha]
    · rw [if_neg ha, firstAt_none (by simpa using h)]
      simp [Ne.symm ha]
/-- one name more: the names so far, the table, the indices. -/
def bstep (st : List ByteArray × List Int × List Int) (s : ByteArray) : List ByteArray × List Int × List Int :=
  match firstAt st.1 st.2.2 s with
  | some y => (st.1 ++ [s], st.2.1, st.2.2 ++ [y])
  | none => (st.1 ++ [s], st.2.1 ++ (bIx s ++ [0]), st.2.2 ++ [(st.2.1.length : Int)])
def bld (ss : List ByteArray) : List ByteArray × List Int × List Int := ss.foldl bstep ([], [], [])
theorem bld_nil : bld [] = ([], [], []) := rfl
theorem bld_snoc (ss : List ByteArray) (s : ByteArray) : bld (ss ++ [s]) = bstep (bld ss) s := by unfold bld; rw [List.foldl_append]; rfl
/-- what is true of every stage. -/
structure BldOk (ss : List ByteArray) (st : List ByteArray × List Int × List Int) : Prop where
  seen : st.1 = ss
  len : st.2.2.length = ss.length
  pos : ∀ x ∈ st.2.2, 0 ≤ x
theorem bld_step {l : List ByteArray} (h : BldOk l (bld l)) (s : ByteArray) : BldOk (l ++ [s]) (bld (l ++ [s])) := by
  rw [bld_snoc]
  obtain ⟨h1, h2, h3⟩ := h
  unfold bstep
  cases hf : firstAt (bld l).1 (bld l).2.2 s with
  | some y =>
    obtain ⟨k, _, hk⟩ := firstAt_mem hf
    refine ⟨by simp [h1], by simp [h2], fun x hx => ?_⟩
    rcases List.mem_append.1 hx with hx | hx
    · exact h3 x hx
    · simp at hx; subst hx; exact h3 x (List.mem_of_getElem? hk)
  | none =>
    refine ⟨by simp [h1], by simp [h2], fun x hx => ?_⟩
    rcases List.mem_append.1 hx with hx | hx
    · exact h3 x hx
    · simp at hx; subst hx; omega
theorem take_snoc {ss : List ByteArray} {n : Nat} {s : ByteArray} (h : ss[n]? = some s) : ss.take (n + 1) = ss.take n ++ [s] := by rw [List.take_add_one, h]; rfl
theorem bld_take (ss : List ByteArray) : ∀ n, n ≤ ss.length → BldOk (ss.take n) (bld (ss.take n))
  | 0, _ => ⟨by simp [bld_nil], by simp [bld_nil], fun x h => by simp [bld_nil] at h⟩
  | n + 1, h => by
    have hx : ss[n]? = some ss[n] := List.getElem?_eq_getElem (by omega)
    rw [take_snoc hx]
    exact bld_step (bld_take ss n (by omega)) _
theorem bld_ok (ss : List ByteArray) : BldOk ss (bld ss) := by
  have := bld_take ss ss.length (Nat.le_refl _)
  rwa [List.take_length] at this
/-- the table as it is handed back. -/
def bldT (ss : List ByteArray) : List Int := if (bld ss).2.1 = [] then [0] else (bld ss).2.1
def bldX (ss : List ByteArray) : List Int := (bld ss).2.2
end Go.Proofs.Ytgbojkbhkjameaa
