/-
  PLAIN MATHEMATICS of leap-second records (layer 17): a record's cells, its bytes, the records of a list of bytes, validity, the correction. No program.
-/
import Derived.Test.YtickchkcfaggfaaFlat
import Derived.Test.YtickchkcfaggfaaTrM
namespace Go.Proofs.Ytickchkcfaggfaa
open Go.RowKit
set_option linter.unusedVariables false
set_option maxRecDepth 100000
/-- a leap-second record: At, Corr. -/
abbrev LP := Int × Int
def lpOk (t : LP) : Prop := -9223372036854775808 ≤ t.1 ∧ t.1 < 9223372036854775808 ∧ -2147483648 ≤ t.2 ∧ t.2 < 2147483648
def lc (t : LP) : List Value := [.int .i64 t.1, .int .i32 t.2]
def lcs (ts : List LP) : List Value := ts.flatMap lc
theorem lc_len (t : LP) : (lc t).length = 2 := rfl
theorem lcs_len (ts : List LP) : (lcs ts).length = ts.length * 2 := fm_len lc_len ts
theorem lcs_get {ts : List LP} {i : Nat} {t : LP} (h : ts[i]? = some t) : (lcs ts)[i * 2]? = some (.int .i64 t.1) ∧ (lcs ts)[i * 2 + 1]? = some (.int .i32 t.2) :=
  ⟨fm_get lc_len ts i 0 t h (by omega), fm_get lc_len ts i 1 t h (by omega)⟩
theorem lcs_app (a b : List LP) : lcs (a ++ b) = lcs a ++ lcs b := List.flatMap_append
theorem lcs_take (ts : List LP) (i : Nat) : (lcs ts).take (i * 2) = lcs (ts.take i) := fm_take lc_len ts i
theorem lcs_drop (ts : List LP) (i : Nat) : (lcs ts).drop (i * 2) = lcs (ts.drop i) := fm_drop lc_len ts i
theorem lcs_one (t : LP) : lcs [t] = lc t := by simp [lcs]
theorem lcs_cells (ts : List LP) : ∀ u ∈ lcs ts, u.oneCell' = true := by
  intro u hu
  obtain ⟨t, _, h⟩ := List.mem_flatMap.1 hu
  simp only [lc, List.mem_cons, List.not_mem_nil, or_false] at h
  rcases h with rfl | rfl <;> rfl
/-- a record's bytes, its time in k bytes. -/
def eL (k : Nat) (t : LP) : List Int := be k (u64 t.1) ++ be 4 (u64 t.2)
def eLP (k : Nat) (ts : List LP) : List Int := ts.flatMap (eL k)
theorem eL_len (k : Nat) (t : LP) : (eL k t).length = k + 4 := by simp [eL, be_len]
theorem eLP_len (k : Nat) (ts : List LP) : (eLP k ts).length = ts.length * (k + 4) := fm_len (eL_len k) ts
theorem eLP_app (k : Nat) (a b : List LP) : eLP k (a ++ b) = eLP k a ++ eLP k b := List.flatMap_append
theorem eLP_one (k : Nat) (t : LP) : eLP k [t] = eL k t := by simp [eLP]
theorem eLP_step (k : Nat) (ts : List LP) (i : Nat) (t : LP) (h : ts[i]? = some t) : eLP k (ts.take (i + 1)) = eLP k (ts.take i) ++ be k (u64 t.1) ++ be 4 (u64 t.2) := by
  rw [show eLP k (ts.take (i + 1)) = eLP k (ts.take i) ++ eL k t from fm_step ts i t h, List.append_assoc]
  rfl
theorem eLP_bytes (k : Nat) (ts : List LP) : Bytes (eLP k ts) := bytes_of_mem fun x hx => by
  obtain ⟨t, _, hv⟩ := List.mem_flatMap.1 hx
  exact ((be_bytes k _).app (be_bytes 4 _)).mem x hv
/-- the record at place i. -/
def dL (k : Nat) (l : List Int) (i : Nat) : LP := (sgn k (uval (fld l (i * (k + 4)) k)), sgn 4 (uval (fld l (i * (k + 4) + k) 4)))
def dLP (k : Nat) (l : List Int) (m : Nat) : List LP := (List.range m).map (dL k l)
def lfit (k : Nat) (ts : List LP) : Bool := ts.all fun t => fitsB k t.1
theorem dLP_len (k : Nat) (l : List Int) (m : Nat) : (dLP k l m).length = m := by simp [dLP]
theorem dLP_step (k : Nat) (l : List Int) (m : Nat) : dLP k l (m + 1) = dLP k l m ++ [dL k l m] := by simp [dLP, List.range_succ]
theorem drop_at {α : Type} {ts : List α} {i : Nat} {t : α} (h : ts[i]? = some t) : ts.drop i = t :: ts.drop (i + 1) := by
  have hl := (List.getElem?_eq_some_iff.1 h).1
  rw [List.drop_eq_getElem_cons hl]
  rw [List.getElem?_eq_getElem hl] at h
  injection h with h
  rw [h]
theorem fld_a (k : Nat) {ts : List LP} {i : Nat} {t : LP} (h : ts[i]? = some t) : fld (eLP k ts) (i * (k + 4)) k = be k (u64 t.1) := by
  unfold fld
  rw [show (eLP k ts).drop (i * (k + 4)) = eLP k (ts.drop i) from fm_drop (eL_len k) ts i, drop_at h]
  unfold eLP
  rw [List.flatMap_cons]
  unfold eL
  rw [List.append_assoc, List.take_append_of_le_length (by rw [be_len]; omega), List.take_of_length_le (by rw [be_len]; omega)]
theorem fld_b (k : Nat) {ts : List LP} {i : Nat} {t : LP} (h : ts[i]? = some t) : fld (eLP k ts) (i * (k + 4) + k) 4 = be 4 (u64 t.2) := by
  unfold fld
  rw [← List.drop_drop, show (eLP k ts).drop (i * (k + 4)) = eLP k (ts.drop i) from fm_drop (eL_len k) ts i, drop_at h]
  unfold eLP
  rw [List.flatMap_cons]
  unfold eL
  rw [List.append_assoc, List.drop_left' (be_len k _), List.take_append_of_le_length (by rw [be_len]; omega), List.take_of_length_le (by rw [be_len]; omega)]
theorem dL_e {k : Nat} (hk : k = 4 ∨ k = 8) {ts : List LP} {i : Nat} {t : LP} (h : ts[i]? = some t) (ht : lpOk t) : dL k (eLP k ts) i = t ↔ fitsB k t.1 = true := by
  obtain ⟨o0, o1, x0, x1⟩ := ht
  have h2 : sgn 4 (uval (be 4 (u64 t.2))) = t.2 := (sgn_u64 (k := 4) (.inl rfl) t.2 (by omega) (by omega)).2 (by unfold fitsB; simp; omega)
  rw [← sgn_u64 hk t.1 o0 o1]
  unfold dL
  rw [fld_a k h, fld_b k h, h2]
  obtain ⟨a, c⟩ := t
  simp
theorem dLP_e {k : Nat} (hk : k = 4 ∨ k = 8) {ts : List LP} (h : ∀ t ∈ ts, lpOk t) : dLP k (eLP k ts) ts.length = ts ↔ lfit k ts = true := by
  unfold lfit
  rw [List.all_eq_true]
  constructor
  · intro e v hv
    obtain ⟨i, hi, rfl⟩ := List.getElem_of_mem hv
    have e1 : (dLP k (eLP k ts) ts.length)[i]? = ts[i]? := by rw [e]
    rw [List.getElem?_eq_getElem (by rw [dLP_len]; exact hi), List.getElem?_eq_getElem hi] at e1
    injection e1 with e1
    have e2 : dL k (eLP k ts) i = ts[i] := by rw [← e1]; simp [dLP]
    exact (dL_e hk (List.getElem?_eq_getElem hi) (h _ hv)).1 e2
  · intro hf
    apply List.ext_getElem (dLP_len _ _ _)
    intro i h1 h2
    have hv := List.getElem_mem h2
    have := (dL_e hk (List.getElem?_eq_getElem h2) (h _ hv)).2 (hf _ hv)
    simpa [dLP] using this
theorem fld_two (l : List Int) (o a b : Nat) : fld l o (a + b) = fld l o a ++ fld l (o + a) b := by
  unfold fld
  rw [List.take_add, List.drop_drop]
theorem eL_d {k : Nat} (hk : k = 4 ∨ k = 8) (l : List Int) (hl : Bytes l) (i : Nat) (h : i * (k + 4) + (k + 4) ≤ l.length) : eL k (dL k l i) = fld l (i * (k + 4)) (k + 4) := by
  rw [fld_two]
  unfold eL dL
  dsimp only
  rw [be_sgn hk (fld l (i * (k + 4)) k) (fld_bytes hl _ _) (fld_len _ _ _ (by omega))]
  have h4 := be_sgn (k := 4) (.inl rfl) (fld l (i * (k + 4) + k) 4) (fld_bytes hl _ _) (fld_len _ _ _ (by omega))
  rw [show ((4 : Nat) : Int) = 4 from rfl] at h4
  rw [h4]
theorem eLP_d {k : Nat} (hk : k = 4 ∨ k = 8) (l : List Int) (hl : Bytes l) : ∀ m : Nat, m * (k + 4) ≤ l.length → eLP k (dLP k l m) = l.take (m * (k + 4)) := by
  intro m
  induction m with
  | zero => intro _; simp [dLP, eLP]
  | succ m ih =>
    intro h
    rw [Nat.add_mul, Nat.one_mul] at h ⊢
    rw [dLP_step, eLP_app, eLP_one, ih (by omega), eL_d hk l hl m h]
    unfold fld
    rw [← List.take_add]
theorem dL_ok {k : Nat} (hk : k = 4 ∨ k = 8) (l : List Int) (hl : Bytes l) (i : Nat) (h : i * (k + 4) + (k + 4) ≤ l.length) : lpOk (dL k l i) ∧ fitsB k (dL k l i).1 = true := by
  have a := uval_bd _ (fld_bytes hl (i * (k + 4)) k)
  rw [fld_len _ _ _ (by omega)] at a
  have b := uval_bd _ (fld_bytes hl (i * (k + 4) + k) 4)
  rw [fld_len _ _ _ (by omega)] at b
  have ha := sgn_bd hk _ a.1 a.2
  have hb := (sgn_bd (k := 4) (.inl rfl) _ b.1 b.2).1
  unfold fitsB at hb
  simp at hb
  exact ⟨⟨ha.2.1, ha.2.2, hb.1, hb.2⟩, ha.1⟩
theorem dLP_ok {k : Nat} (hk : k = 4 ∨ k = 8) (l : List Int) (hl : Bytes l) (m : Nat) (h : m * (k + 4) ≤ l.length) : ∀ t ∈ dLP k l m, lpOk t ∧ fitsB k t.1 = true := by
  intro t ht
  obtain ⟨i, hi, rfl⟩ := List.mem_map.1 ht
  refine dL_ok hk l hl i (Nat.le_trans ?_ h)
  have := Nat.mul_le_mul_right (k + 4) (show i + 1 ≤ m by have := List.mem_range.1 hi; omega)
  rwa [Nat.add_mul, Nat.one_mul] at this
end Go.Proofs.Ytickchkcfaggfaa
