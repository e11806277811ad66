/-
  PLAIN MATHEMATICS of designation tables: what Build makes, by the list of its distinct names. No program.
-/
import Derived.Test.YtgbojkbhkjameaaDsMath2
namespace Go.Proofs.Ytgbojkbhkjameaa
open Go.RowKit Classical
set_option linter.unusedVariables false
/-- the distinct names, in the order of their first occurrence. -/
noncomputable def vstep (vs : List ByteArray) (s : ByteArray) : List ByteArray := if s ∈ vs then vs else vs ++ [s]
noncomputable def vals (ss : List ByteArray) : List ByteArray := ss.foldl vstep []
theorem vals_snoc (ss : List ByteArray) (s : ByteArray) : vals (ss ++ [s]) = vstep (vals ss) s := by unfold vals; rw [List.foldl_append]; rfl
/-- where a name stands first. -/
def ixOf : List ByteArray → ByteArray → Nat
  | [], _ => 0
  | a :: l, s => if a = s then 0 else ixOf l s + 1
theorem ix_at : ∀ {vs : List ByteArray} {s : ByteArray}, s ∈ vs → vs[ixOf vs s]? = some s
  | [], s, h => by simp at h
  | a :: l, s, h => by
    unfold ixOf
    by_cases ha : a = s
    · simp [ha]
    · rw [if_neg ha, List.getElem?_cons_succ]
      exact ix_at ((List.mem_cons.1 h).resolve_left (fun e => ha e.symm))
theorem ix_lt {vs : List ByteArray} {s : ByteArray} (h : s ∈ vs) : ixOf vs s < vs.length := (List.getElem?_eq_some_iff.1 (ix_at h)).1
theorem ix_app : ∀ {vs : List ByteArray} (r : List ByteArray) {s : ByteArray}, s ∈ vs → ixOf (vs ++ r) s = ixOf vs s
  | [], r, s, h => by simp at h
  | a :: l, r, s, h => by
    simp only [List.cons_append, ixOf]
    by_cases ha : a = s
    · simp [ha]
    · rw [if_neg ha, if_neg ha, ix_app r ((List.mem_cons.1 h).resolve_left (fun e => ha e.symm))]
theorem ix_new : ∀ {vs : List ByteArray} {s : ByteArray}, s ∉ vs → ixOf (vs ++ [s]) s = vs.length
  | [], s, h => by simp [ixOf]
  | a :: l, s, h => by
    have h1 : ¬ a = s := fun e => h (by simp [e])
    have h2 : s ∉ l := fun e => h (by simp [e])
    simp only [List.cons_append, ixOf, if_neg h1, List.length_cons]
    rw [ix_new h2]
/-- the table of a list of names, and where a name begins in it. -/
def tbl (vs : List ByteArray) : List Int := vs.flatMap (fun v => bIx v ++ [0])
theorem tbl_snoc (vs : List ByteArray) (s : ByteArray) : tbl (vs ++ [s]) = tbl vs ++ (bIx s ++ [0]) := by simp [tbl]
def st (vs : List ByteArray) (s : ByteArray) : Nat := (tbl (vs.take (ixOf vs s))).length
theorem st_app {vs : List ByteArray} (r : List ByteArray) {s : ByteArray} (h : s ∈ vs) : st (vs ++ r) s = st vs s := by
  unfold st
  rw [ix_app r h, List.take_append_of_le_length (Nat.le_of_lt (ix_lt h))]
theorem st_new {vs : List ByteArray} {s : ByteArray} (h : s ∉ vs) : st (vs ++ [s]) s = (tbl vs).length := by
  unfold st
  rw [ix_new h, List.take_left]
theorem firstAt_map (f : ByteArray → Int) (s : ByteArray) : ∀ l : List ByteArray, firstAt l (l.map f) s = if s ∈ l then some (f s) else none
  | [] => by simp [firstAt]
  | a :: l => by
    simp only [List.map_cons, firstAt]
    by_cases ha : a = s
    · subst ha; simp
    · rw [if_neg ha, firstAt_map f s l]
      simp [Ne.symm ha]
theorem bld_take_is (ss : List ByteArray) : ∀ n, n ≤ ss.length → bld (ss.take n) = (ss.take n, tbl (vals (ss.take n)), (ss.take n).map (fun s => (st (vals (ss.take n)) s : Int))) ∧ (∀ s, s ∈ vals (ss.take n) ↔ s ∈ ss.take n) ∧ (vals (ss.take n)).length ≤ n
  | 0, _ => ⟨by simp [bld, vals, tbl], by simp [vals], by simp [vals]⟩
  | n + 1, h => by
    obtain ⟨h1, h2, h3⟩ := bld_take_is ss n (by omega)
    have hx : ss[n]? = some ss[n] := List.getElem?_eq_getElem (by omega)
    rw [take_snoc hx, bld_snoc, vals_snoc, h1]
    generalize ss.take n = l at *
    generalize ss[n] = s at *
    unfold bstep vstep
    simp only
    rw [firstAt_map]
    by_cases hs : s ∈ l
    · have hv := (h2 s).2 hs
      rw [if_pos hs, if_pos hv]
      refine ⟨by simp, fun u => ?_, by omega⟩
      rw [h2 u]
      simp only [List.mem_append, List.mem_singleton]
      exact ⟨.inl, fun h => h.elim id (fun e => e ▸ hs)⟩
    · have hv : s ∉ vals l := fun e => hs ((h2 s).1 e)
      rw [if_neg hs, if_neg hv]
      refine ⟨?_, fun u => by simp [h2 u], by simp; omega⟩
      rw [tbl_snoc, List.map_append]
      dsimp only
      congr 2
      congr 1
      · refine List.map_congr_left fun u hu => ?_
        rw [st_app _ ((h2 u).2 hu)]
      · simp [st_new hv]
theorem bld_is (ss : List ByteArray) : bld ss = (ss, tbl (vals ss), ss.map (fun s => (st (vals ss) s : Int))) ∧ (∀ s, s ∈ vals ss ↔ s ∈ ss) ∧ (vals ss).length ≤ ss.length := by
  have := bld_take_is ss ss.length (Nat.le_refl _)
  rwa [List.take_length] at this
theorem vals_grow (ss : List ByteArray) (n : Nat) : ∀ m, n ≤ m → m ≤ ss.length → ∃ r, vals (ss.take m) = vals (ss.take n) ++ r
  | m, h, hm => by
    rcases Nat.lt_or_ge n m with hl | hl
    · obtain ⟨k, rfl⟩ : ∃ k, m = k + 1 := ⟨m - 1, by omega⟩
      obtain ⟨r, hr⟩ := vals_grow ss n k (by omega) (by omega)
      have hx : ss[k]? = some ss[k] := List.getElem?_eq_getElem (by omega)
      rw [take_snoc hx, vals_snoc, hr]
      unfold vstep
      split
      · exact ⟨r, rfl⟩
      · exact ⟨r ++ [ss[k]], by simp⟩
    · obtain rfl : m = n := by omega
      exact ⟨[], by simp⟩
theorem bldT_is (ss : List ByteArray) (h : ss ≠ []) : bldT ss = tbl (vals ss) := by
  unfold bldT
  obtain ⟨h1, h2, _⟩ := bld_is ss
  rw [h1]
  simp only
  rw [if_neg]
  intro h3
  cases ss with
  | nil => exact h rfl
  | cons a l =>
    have ha : a ∈ vals (a :: l) := (h2 a).2 (by simp)
    cases hv : vals (a :: l) with
    | nil => rw [hv] at ha; simp at ha
    | cons b r => rw [hv] at h3; simp [tbl] at h3
theorem bldX_is (ss : List ByteArray) : bldX ss = ss.map (fun s => (st (vals ss) s : Int)) := by unfold bldX; rw [(bld_is ss).1]
theorem tbl_len : ∀ (vs : List ByteArray) (hs : ∀ s ∈ vs, s.size ≤ 1000), (tbl vs).length ≤ 1001 * vs.length
  | [], _ => by simp [tbl]
  | a :: l, h => by
    have h1 := tbl_len l (fun s hs => h s (by simp [hs]))
    have h2 := h a (by simp)
    unfold tbl at h1 ⊢
    rw [List.flatMap_cons, List.length_append, List.length_append, bIx_len, List.length_cons, List.length_cons, List.length_nil]
    omega
end Go.Proofs.Ytgbojkbhkjameaa
