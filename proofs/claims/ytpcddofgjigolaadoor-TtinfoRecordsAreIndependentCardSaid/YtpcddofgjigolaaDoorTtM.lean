/-
  PLAIN MATHEMATICS of local time type records (layer 16): a type's cells, its six bytes, the types of a list of bytes, the flags, the check. No program.
-/
import Derived.Test.YtpcddofgjigolaaDoorFlat
import Derived.Test.YtpcddofgjigolaaDoorTrM
namespace Go.Proofs.YtpcddofgjigolaaDoor
open Go.RowKit
set_option linter.unusedVariables false
set_option maxRecDepth 100000
/-- a local time type: Offset, Dst, Desig. -/
abbrev TT := Int × Bool × Int
def ttOk (t : TT) : Prop := -2147483648 ≤ t.1 ∧ t.1 < 2147483648 ∧ 0 ≤ t.2.2 ∧ t.2.2 < 256
def tc (t : TT) : List Value := [.int .i32 t.1, .bool t.2.1, .int .u8 t.2.2]
def tcs (ts : List TT) : List Value := ts.flatMap tc
theorem tc_len (t : TT) : (tc t).length = 3 := rfl
theorem tcs_len (ts : List TT) : (tcs ts).length = ts.length * 3 := fm_len tc_len ts
theorem tcs_get {ts : List TT} {i : Nat} {t : TT} (h : ts[i]? = some t) : (tcs ts)[i * 3]? = some (.int .i32 t.1) ∧ (tcs ts)[i * 3 + 1]? = some (.bool t.2.1) ∧ (tcs ts)[i * 3 + 2]? = some (.int .u8 t.2.2) :=
  ⟨fm_get tc_len ts i 0 t h (by omega), fm_get tc_len ts i 1 t h (by omega), fm_get tc_len ts i 2 t h (by omega)⟩
theorem tcs_app (a b : List TT) : tcs (a ++ b) = tcs a ++ tcs b := List.flatMap_append
theorem tcs_take (ts : List TT) (i : Nat) : (tcs ts).take (i * 3) = tcs (ts.take i) := fm_take tc_len ts i
theorem tcs_drop (ts : List TT) (i : Nat) : (tcs ts).drop (i * 3) = tcs (ts.drop i) := fm_drop tc_len ts i
theorem tcs_one (t : TT) : tcs [t] = tc t := by simp [tcs]
theorem tcs_cells (ts : List TT) : ∀ u ∈ tcs ts, u.oneCell' = true := by
  intro u hu
  obtain ⟨t, _, h⟩ := List.mem_flatMap.1 hu
  simp only [tc, List.mem_cons, List.not_mem_nil, or_false] at h
  rcases h with rfl | rfl | rfl <;> rfl
theorem tc_inj (a b : TT) (h : tc a = tc b) : a = b := by
  simp only [tc, List.cons.injEq, Value.int.injEq, Value.bool.injEq, true_and, and_true] at h
  obtain ⟨a1, a2, a3⟩ := a
  obtain ⟨b1, b2, b3⟩ := b
  simp only [Prod.mk.injEq]
  exact h
/-- a type's six bytes. -/
def e6 (t : TT) : List Int := be 4 (u64 t.1) ++ [if t.2.1 then 1 else 0, t.2.2]
def eTT (ts : List TT) : List Int := ts.flatMap e6
theorem e6_len (t : TT) : (e6 t).length = 6 := by simp [e6, be_len]
theorem eTT_len (ts : List TT) : (eTT ts).length = ts.length * 6 := fm_len e6_len ts
theorem eTT_app (a b : List TT) : eTT (a ++ b) = eTT a ++ eTT b := List.flatMap_append
theorem eTT_one (t : TT) : eTT [t] = e6 t := by simp [eTT]
theorem e6_bytes {t : TT} (h : ttOk t) : Bytes (e6 t) := by
  unfold e6
  refine (be_bytes 4 _).app (bytes_of_mem fun x hx => ?_)
  simp only [List.mem_cons, List.not_mem_nil, or_false] at hx
  obtain ⟨h1, h2, h3, h4⟩ := h
  rcases hx with rfl | rfl
  · split <;> omega
  · exact ⟨h3, h4⟩
theorem eTT_bytes {ts : List TT} (h : ∀ t ∈ ts, ttOk t) : Bytes (eTT ts) := bytes_of_mem fun x hx => by
  obtain ⟨t, ht, hv⟩ := List.mem_flatMap.1 hx
  exact (e6_bytes (h t ht)).mem x hv
/-- the type at place i. -/
def d6 (l : List Int) (i : Nat) : TT := (sgn 4 (uval (fld l (i * 6) 4)), decide (l[i * 6 + 4]?.getD 0 = 1), l[i * 6 + 5]?.getD 0)
def dTT (l : List Int) (m : Nat) : List TT := (List.range m).map (d6 l)
def fl6 (l : List Int) (m : Nat) : Bool := (List.range m).all fun i => decide (l[i * 6 + 4]?.getD 0 ≤ 1)
theorem dTT_len (l : List Int) (m : Nat) : (dTT l m).length = m := by simp [dTT]
theorem dTT_step (l : List Int) (m : Nat) : dTT l (m + 1) = dTT l m ++ [d6 l m] := by simp [dTT, List.range_succ]
theorem fl6_step (l : List Int) (m : Nat) : fl6 l (m + 1) = (fl6 l m && decide (l[m * 6 + 4]?.getD 0 ≤ 1)) := by simp [fl6, List.range_succ]
theorem fl6_no {l : List Int} {m i : Nat} (hi : i < m) (h : 1 < l[i * 6 + 4]?.getD 0) : fl6 l m = false := by
  rw [← Bool.not_eq_true]
  intro e
  have := List.all_eq_true.1 e i (List.mem_range.2 hi)
  simp at this
  omega
theorem piece (ts : List TT) (i : Nat) (t : TT) (h : ts[i]? = some t) (j : Nat) (hj : j < 6) : (eTT ts)[i * 6 + j]? = (e6 t)[j]? := fm_get e6_len ts i j t h hj
theorem d6_e (ts : List TT) (i : Nat) (t : TT) (h : ts[i]? = some t) (ht : ttOk t) : d6 (eTT ts) i = t ∧ (eTT ts)[i * 6 + 4]?.getD 0 ≤ 1 := by
  have h4 := piece ts i t h 4 (by omega)
  have h5 := piece ts i t h 5 (by omega)
  have hl := (List.getElem?_eq_some_iff.1 h).1
  have hf : fld (eTT ts) (i * 6) 4 = be 4 (u64 t.1) := by
    have e : ts.drop i = t :: ts.drop (i + 1) := by
      rw [List.drop_eq_getElem_cons hl]
      rw [List.getElem?_eq_getElem hl] at h
      injection h with h
      rw [h]
    unfold fld
    rw [show (eTT ts).drop (i * 6) = eTT (ts.drop i) from fm_drop e6_len ts i, e]
    show List.take 4 (eTT (t :: ts.drop (i + 1))) = _
    unfold eTT
    rw [List.flatMap_cons]
    unfold e6
    rw [List.append_assoc, List.take_append_of_le_length (by rw [be_len]; omega), List.take_of_length_le (by rw [be_len]; omega)]
  have g4 : (e6 t)[4]? = some (if t.2.1 then 1 else 0) := by unfold e6; rw [List.getElem?_append_right (by rw [be_len]; omega), be_len]; rfl
  have g5 : (e6 t)[5]? = some t.2.2 := by unfold e6; rw [List.getElem?_append_right (by rw [be_len]; omega), be_len]; rfl
  rw [g4] at h4
  rw [g5] at h5
  obtain ⟨o, d, x⟩ := t
  obtain ⟨o0, o1, x0, x1⟩ := ht
  dsimp only at *
  unfold d6
  rw [hf, h4, h5]
  refine ⟨?_, by cases d <;> simp⟩
  have hs := (sgn_u64 (k := 4) (.inl rfl) o (by omega) (by omega)).2 (by unfold fitsB; simp; omega)
  rw [show ((4 : Nat) : Int) = 4 from rfl] at hs
  rw [hs]
  cases d <;> rfl
theorem dTT_e {ts : List TT} (h : ∀ t ∈ ts, ttOk t) : dTT (eTT ts) ts.length = ts ∧ fl6 (eTT ts) ts.length = true := by
  constructor
  · apply List.ext_getElem (dTT_len _ _)
    intro i h1 h2
    have := (d6_e ts i ts[i] (List.getElem?_eq_getElem h2) (h _ (List.getElem_mem h2))).1
    simpa [dTT] using this
  · unfold fl6
    rw [List.all_eq_true]
    intro i hi
    have hi' := List.mem_range.1 hi
    exact decide_eq_true (d6_e ts i ts[i] (List.getElem?_eq_getElem hi') (h _ (List.getElem_mem hi'))).2
theorem d6_ok (l : List Int) (hl : Bytes l) (i : Nat) (h : i * 6 + 6 ≤ l.length) : ttOk (d6 l i) := by
  have hb := uval_bd _ (fld_bytes hl (i * 6) 4)
  rw [fld_len _ _ _ (by omega)] at hb
  have hs := sgn_bd (k := 4) (.inl rfl) _ hb.1 hb.2
  have hf := hs.1
  unfold fitsB at hf
  simp at hf
  have h5 := hl (i * 6 + 5)
  exact ⟨hf.1, hf.2, h5.1, h5.2⟩
theorem e6_d (l : List Int) (hl : Bytes l) (i : Nat) (h : i * 6 + 6 ≤ l.length) (hf : l[i * 6 + 4]?.getD 0 ≤ 1) : e6 (d6 l i) = fld l (i * 6) 6 := by
  have h4 := hl (i * 6 + 4)
  have e : fld l (i * 6) 6 = fld l (i * 6) 4 ++ [l[i * 6 + 4]?.getD 0, l[i * 6 + 5]?.getD 0] := by
    rw [fld_step l (i * 6) 5 (by omega), fld_step l (i * 6) 4 (by omega), List.append_assoc]
    rfl
  rw [e]
  unfold e6 d6
  dsimp only
  congr 1
  · have := be_sgn (k := 4) (.inl rfl) (fld l (i * 6) 4) (fld_bytes hl _ _) (fld_len _ _ _ (by omega))
    exact this
  · congr 1
    split
    · rename_i hd
      simp at hd
      exact hd.symm
    · rename_i hd
      simp at hd
      omega
theorem eTT_d (l : List Int) (hl : Bytes l) : ∀ m : Nat, m * 6 ≤ l.length → fl6 l m = true → eTT (dTT l m) = l.take (m * 6) := by
  intro m
  induction m with
  | zero => intro _ _; simp [dTT, eTT]
  | succ m ih =>
    intro h hf
    rw [fl6_step, Bool.and_eq_true, decide_eq_true_iff] at hf
    rw [dTT_step, eTT_app, eTT_one, ih (by omega) hf.1, e6_d l hl m (by omega) hf.2, show (m + 1) * 6 = m * 6 + 6 by omega]
    unfold fld
    rw [← List.take_add]
theorem dTT_ok (l : List Int) (hl : Bytes l) (m : Nat) (h : m * 6 ≤ l.length) : ∀ t ∈ dTT l m, ttOk t := by
  intro t ht
  obtain ⟨i, hi, rfl⟩ := List.mem_map.1 ht
  exact d6_ok l hl i (by have := List.mem_range.1 hi; omega)
theorem e6_inj {a b : TT} (ha : ttOk a) (hb : ttOk b) : e6 a = e6 b ↔ a = b := by
  refine ⟨fun h => ?_, fun h => by rw [h]⟩
  have e1 := (dTT_e (ts := [a]) (by simpa using ha)).1
  have e2 := (dTT_e (ts := [b]) (by simpa using hb)).1
  rw [eTT_one] at e1 e2
  rw [h] at e1
  have := e1.symm.trans e2
  simpa using this
/-- the check: 9, 8 or 0. -/
def chk (ts : List TT) (n : Int) : Int := if ts.any (fun t => decide (t.1 = -2147483648)) then 9 else if ts.any (fun t => decide (n ≤ t.2.2)) then 8 else 0
end Go.Proofs.YtpcddofgjigolaaDoor
