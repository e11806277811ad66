/-
  PLAIN MATHEMATICS of transition times (layer 15): the encoding of a list of times, the times of a list of bytes, the first descent, the range of a time size. No program.
-/
import Derived.Test.YtickchkcfaggfaaBeMath
namespace Go.Proofs.Ytickchkcfaggfaa
open Go.RowKit
set_option linter.unusedVariables false
set_option maxRecDepth 100000
def u64 (v : Int) : Int := v % 18446744073709551616
theorem u64_bd (v : Int) : 0 ≤ u64 v ∧ u64 v < 18446744073709551616 := by unfold u64; omega
/-- the time at place i, and the first m times. -/
def tAt (k : Nat) (l : List Int) (i : Nat) : Int := sgn k (uval (fld l (i * k) k))
def dT (k : Nat) (l : List Int) (m : Nat) : List Int := (List.range m).map (tAt k l)
def eT (k : Nat) (ts : List Int) : List Int := ts.flatMap fun v => be k (u64 v)
def fT (k : Nat) (ts : List Int) : Bool := ts.all fun v => fitsB k v
theorem dT_len (k : Nat) (l : List Int) (m : Nat) : (dT k l m).length = m := by simp [dT]
theorem dT_step (k : Nat) (l : List Int) (m : Nat) : dT k l (m + 1) = dT k l m ++ [tAt k l m] := by simp [dT, List.range_succ]
theorem eT_len (k : Nat) (ts : List Int) : (eT k ts).length = k * ts.length := by
  induction ts with
  | nil => simp [eT]
  | cons v t ih =>
    have : (eT k (v :: t)).length = (be k (u64 v)).length + (eT k t).length := by simp [eT]
    rw [this, ih, be_len, List.length_cons, Nat.mul_add]
    omega
theorem eT_app (k : Nat) (a b : List Int) : eT k (a ++ b) = eT k a ++ eT k b := by simp [eT]
theorem eT_nil (k : Nat) : eT k [] = [] := rfl
theorem eT_cons (k : Nat) (v : Int) (t : List Int) : eT k (v :: t) = be k (u64 v) ++ eT k t := by simp [eT]
theorem eT_one (k : Nat) (v : Int) : eT k [v] = be k (u64 v) := by simp [eT]
theorem eT_bytes (k : Nat) (ts : List Int) : Bytes (eT k ts) := bytes_of_mem fun x hx => by
  unfold eT at hx
  obtain ⟨v, _, hv⟩ := List.mem_flatMap.1 hx
  exact (be_bytes k (u64 v)).mem x hv
theorem eT_step (k : Nat) (ts : List Int) (i : Nat) (h : i < ts.length) : eT k (ts.take (i + 1)) = eT k (ts.take i) ++ be k (u64 (ts[i]?.getD 0)) := by
  rw [List.take_succ_eq_append_getElem h, eT_app, eT_one, List.getElem?_eq_getElem h]
  rfl
/-- a signed value is read back exactly if it fits. -/
theorem sgn_u64 {k : Nat} (hk : k = 4 ∨ k = 8) (v : Int) (h0 : -9223372036854775808 ≤ v) (h1 : v < 9223372036854775808) : sgn k (uval (be k (u64 v))) = v ↔ fitsB k v = true := by
  rw [uval_be]
  unfold u64 sgn fitsB
  rcases hk with rfl | rfl
  · simp
    omega
  · simp
    omega
theorem sgn_bd {k : Nat} (hk : k = 4 ∨ k = 8) (u : Int) (h0 : 0 ≤ u) (h1 : u < 256 ^ k) : fitsB k (sgn k u) = true ∧ -9223372036854775808 ≤ sgn k u ∧ sgn k u < 9223372036854775808 := by
  unfold sgn fitsB
  rcases hk with rfl | rfl
  · simp at h1 ⊢
    omega
  · simp at h1 ⊢
    omega
theorem be_uval' : ∀ (n : Nat) (l : List Int), l.length = n → Bytes l → be n (uval l) = l
  | 0, l, h, _ => by rw [List.length_eq_zero_iff.1 h]; rfl
  | n + 1, l, hl, h => by
    have hne : l ≠ [] := by intro e; rw [e] at hl; simp at hl
    have e := List.dropLast_concat_getLast hne
    generalize l.getLast hne = x at e
    generalize hm : l.dropLast = m at e
    subst e
    have hx := h.mem x (by simp)
    rw [List.length_append, List.length_singleton] at hl
    rw [be_succ, uval_snoc, show (uval m * 256 + x) / 256 = uval m by omega, show (uval m * 256 + x) % 256 = x by omega, be_uval' n m (by omega) (bytes_of_mem fun y hy => h.mem y (by simp [hy]))]
theorem be_uval (l : List Int) (h : Bytes l) : be l.length (uval l) = l := be_uval' _ l rfl h
theorem be_mod (k : Nat) : ∀ (u v : Int), u % 256 ^ k = v % 256 ^ k → be k u = be k v := by
  induction k with
  | zero => intro u v _; rfl
  | succ k ih =>
    intro u v h
    have e : ∀ n : Int, n / 256 % 256 ^ k = n % 256 ^ (k + 1) / 256 ∧ n % 256 = n % 256 ^ (k + 1) % 256 := by
      intro n
      have hp : (0 : Int) < 256 ^ k := Int.pow_pos (by decide)
      rw [Int.pow_succ, Int.mul_comm]
      refine ⟨?_, by rw [Int.emod_emod_of_dvd n (Int.dvd_mul_right 256 (256 ^ k))]⟩
      generalize (256 : Int) ^ k = p at *
      have h1 := Int.emod_add_mul_ediv n (256 * p)
      have h2 := Int.emod_nonneg n (show (256 * p) ≠ 0 by omega)
      have h3 := Int.emod_lt_of_pos n (show 0 < 256 * p by omega)
      generalize hr : n % (256 * p) = r at *
      generalize hq : n / (256 * p) = q at *
      have h4 : n / 256 = p * q + r / 256 := by rw [← h1, Int.mul_assoc]; omega
      rw [h4, Int.add_comm, Int.add_mul_emod_self_left]
      exact Int.emod_eq_of_lt (by omega) (by omega)
    rw [be_succ, be_succ, (e u).2, (e v).2, h, ih (u / 256) (v / 256) (by rw [(e u).1, (e v).1, h])]
theorem be_sgn {k : Nat} (hk : k = 4 ∨ k = 8) (f : List Int) (hf : Bytes f) (hl : f.length = k) : be k (u64 (sgn k (uval f))) = f := by
  have hb := uval_bd f hf
  rw [hl] at hb
  have e : be k (u64 (sgn k (uval f))) = be k (uval f) := by
    apply be_mod
    unfold u64 sgn
    rcases hk with rfl | rfl
    · simp at hb ⊢
      omega
    · simp at hb ⊢
      omega
  rw [e]
  have := be_uval f hf
  rwa [hl] at this
theorem fld_at (k : Nat) (ts : List Int) (i : Nat) (h : i < ts.length) : fld (eT k ts) (i * k) k = be k (u64 (ts[i]?.getD 0)) := by
  have e : ts = ts.take i ++ ts[i] :: ts.drop (i + 1) := by rw [← List.drop_eq_getElem_cons h, List.take_append_drop]
  have hlen : (eT k (ts.take i)).length = i * k := by rw [eT_len, List.length_take, Nat.min_eq_left (by omega), Nat.mul_comm]
  have e2 : eT k ts = eT k (ts.take i) ++ (be k (u64 ts[i]) ++ eT k (ts.drop (i + 1))) := by
    have := congrArg (eT k) e
    rwa [eT_app, eT_cons] at this
  unfold fld
  rw [e2, List.drop_append_of_le_length (by omega), List.drop_of_length_le (by omega), List.nil_append, List.take_append_of_le_length (by rw [be_len]; omega), List.take_of_length_le (by rw [be_len]; omega), List.getElem?_eq_getElem h]
  rfl
/-- decoding what was encoded. -/
theorem dT_eT {k : Nat} (hk : k = 4 ∨ k = 8) (ts : List Int) (h : ∀ v ∈ ts, -9223372036854775808 ≤ v ∧ v < 9223372036854775808) : dT k (eT k ts) ts.length = ts ↔ fT k ts = true := by
  unfold fT
  rw [List.all_eq_true]
  constructor
  · intro e v hv
    obtain ⟨i, hi, rfl⟩ := List.getElem_of_mem hv
    have e1 : (dT k (eT k ts) ts.length)[i]? = ts[i]? := by rw [e]
    rw [List.getElem?_eq_getElem (by rw [dT_len]; exact hi), List.getElem?_eq_getElem hi] at e1
    injection e1 with e1
    have e2 : tAt k (eT k ts) i = ts[i] := by rw [← e1]; simp [dT]
    unfold tAt at e2
    rw [fld_at k ts i hi, List.getElem?_eq_getElem hi] at e2
    exact (sgn_u64 hk _ (h _ hv).1 (h _ hv).2).1 e2
  · intro hf
    apply List.ext_getElem (dT_len _ _ _)
    intro i h1 h2
    have : tAt k (eT k ts) i = ts[i] := by
      unfold tAt
      rw [fld_at k ts i h2, List.getElem?_eq_getElem h2]
      have hv := List.getElem_mem h2
      exact (sgn_u64 hk _ (h _ hv).1 (h _ hv).2).2 (hf _ hv)
    simpa [dT] using this
/-- encoding what was decoded. -/
theorem eT_dT {k : Nat} (hk : k = 4 ∨ k = 8) (l : List Int) (hl : Bytes l) : ∀ (m : Nat), m * k ≤ l.length → eT k (dT k l m) = l.take (m * k) := by
  intro m
  induction m with
  | zero => intro _; simp [dT, eT]
  | succ m ih =>
    intro h
    have h' : m * k + k ≤ l.length := by rw [Nat.add_mul] at h; omega
    rw [dT_step, eT_app, eT_one, ih (by omega)]
    unfold tAt
    rw [be_sgn hk _ (fld_bytes hl _ _) (fld_len _ _ _ h'), Nat.add_mul, Nat.one_mul]
    unfold fld
    rw [← List.take_add]
theorem dT_bd {k : Nat} (hk : k = 4 ∨ k = 8) (l : List Int) (hl : Bytes l) (m : Nat) (h : m * k ≤ l.length) : fT k (dT k l m) = true ∧ ∀ v ∈ dT k l m, -9223372036854775808 ≤ v ∧ v < 9223372036854775808 := by
  have key : ∀ v ∈ dT k l m, fitsB k v = true ∧ -9223372036854775808 ≤ v ∧ v < 9223372036854775808 := by
    intro v hv
    unfold dT at hv
    obtain ⟨i, hi, rfl⟩ := List.mem_map.1 hv
    have him : i < m := List.mem_range.1 hi
    have hz : i * k + k ≤ l.length := by
      have := Nat.mul_le_mul_right k (show i + 1 ≤ m by omega)
      rw [Nat.add_mul, Nat.one_mul] at this
      omega
    have hb := uval_bd _ (fld_bytes hl (i * k) k)
    rw [fld_len _ _ _ hz] at hb
    exact sgn_bd hk _ hb.1 hb.2
  exact ⟨by unfold fT; rw [List.all_eq_true]; exact fun v hv => (key v hv).1, fun v hv => (key v hv).2⟩
theorem fT_8 (ts : List Int) : fT 8 ts = true := by unfold fT fitsB; rw [List.all_eq_true]; intro v _; simp
theorem dT_app {k : Nat} (a b : List Int) (m : Nat) (h : m * k ≤ a.length) : dT k (a ++ b) m = dT k a m := by
  unfold dT
  apply List.map_congr_left
  intro i hi
  have him : i < m := List.mem_range.1 hi
  have hz : i * k + k ≤ a.length := by
    have := Nat.mul_le_mul_right k (show i + 1 ≤ m by omega)
    rw [Nat.add_mul, Nat.one_mul] at this
    omega
  unfold tAt fld
  rw [List.drop_append_of_le_length (by omega), List.take_append_of_le_length (by rw [List.length_drop]; omega)]
/-! ### the first descent -/
def dsF : Nat → List Int → Int
  | i, a :: b :: t => if b ≤ a then (i : Int) else dsF (i + 1) (b :: t)
  | _, _ => -1
def desc (ts : List Int) : Int := dsF 1 ts
def Asc (ts : List Int) : Prop := ∀ i, i + 1 < ts.length → ts[i]?.getD 0 < ts[i + 1]?.getD 0
theorem dsF_spec : ∀ (ts : List Int) (i : Nat), (dsF i ts = -1 ∧ Asc ts) ∨ (∃ j, dsF i ts = (i + j : Nat) ∧ j + 1 < ts.length ∧ ts[j + 1]?.getD 0 ≤ ts[j]?.getD 0 ∧ ∀ q, q < j → ts[q]?.getD 0 < ts[q + 1]?.getD 0)
  | [], i => .inl ⟨rfl, fun j h => by simp at h⟩
  | [a], i => .inl ⟨rfl, fun j h => by simp at h⟩
  | a :: b :: t, i => by
    unfold dsF
    by_cases h : b ≤ a
    · rw [if_pos h]
      exact .inr ⟨0, rfl, by simp, by simpa using h, fun q hq => by omega⟩
    · rw [if_neg h]
      rcases dsF_spec (b :: t) (i + 1) with ⟨e, ha⟩ | ⟨j, e, hj, hd, ha⟩
      · refine .inl ⟨e, fun q hq => ?_⟩
        cases q with
        | zero => simp; omega
        | succ q => simpa using ha q (by simpa using hq)
      · refine .inr ⟨j + 1, by rw [e]; congr 1; omega, by simpa using hj, by simpa using hd, fun q hq => ?_⟩
        cases q with
        | zero => simp; omega
        | succ q => simpa using ha q (by omega)
theorem desc_spec (ts : List Int) : (desc ts = -1 ∧ Asc ts) ∨ (∃ j : Nat, desc ts = ((j + 1 : Nat) : Int) ∧ j + 1 < ts.length ∧ ts[j + 1]?.getD 0 ≤ ts[j]?.getD 0 ∧ ∀ q, q < j → ts[q]?.getD 0 < ts[q + 1]?.getD 0) := by
  rcases dsF_spec ts 1 with h | ⟨j, e, h⟩
  · exact .inl h
  · exact .inr ⟨j, by unfold desc; rw [e, Nat.add_comm], h⟩
theorem desc_asc {ts : List Int} (h : Asc ts) : desc ts = -1 := by
  rcases desc_spec ts with ⟨e, _⟩ | ⟨j, _, hj, hd, _⟩
  · exact e
  · have := h j hj
    omega
theorem desc_at {ts : List Int} {j : Nat} (hj : j + 1 < ts.length) (hd : ts[j + 1]?.getD 0 ≤ ts[j]?.getD 0) (ha : ∀ q, q < j → ts[q]?.getD 0 < ts[q + 1]?.getD 0) : desc ts = ((j + 1 : Nat) : Int) := by
  rcases desc_spec ts with ⟨_, h⟩ | ⟨i, e, hi, hd', ha'⟩
  · have := h j hj
    omega
  · rcases Nat.lt_trichotomy i j with h | rfl | h
    · have := ha i h; omega
    · exact e
    · have := ha' j h; omega
theorem asc_of_desc {ts : List Int} (h : desc ts = -1) : Asc ts := by
  rcases desc_spec ts with ⟨_, h'⟩ | ⟨i, e, _⟩
  · exact h'
  · rw [e] at h; omega
theorem asc_lt {ts : List Int} (h : Asc ts) : ∀ (d i : Nat), i + d + 1 < ts.length → ts[i]?.getD 0 < ts[i + d + 1]?.getD 0 := by
  intro d
  induction d with
  | zero => intro i hi; exact h i hi
  | succ d ih =>
    intro i hi
    have h1 := ih i (by omega)
    have h2 := h (i + d + 1) (by omega)
    have e : i + d + 1 + 1 = i + (d + 1) + 1 := by omega
    rw [e] at h2
    omega
theorem asc_take {ts : List Int} (h : Asc ts) (k : Nat) : Asc (ts.take k) := by
  intro i hi
  rw [List.length_take] at hi
  rw [List.getElem?_take, List.getElem?_take, if_pos (by omega), if_pos (by omega)]
  exact h i (by omega)
/-- without one element. -/
theorem asc_less {ts : List Int} (h : Asc ts) (k : Nat) (hk : k < ts.length) : Asc (ts.take k ++ ts.drop (k + 1)) := by
  intro i hi
  rw [List.length_append, List.length_take, List.length_drop] at hi
  have e : ∀ q, (ts.take k ++ ts.drop (k + 1))[q]? = if q < k then ts[q]? else ts[q + 1]? := by
    intro q
    rw [List.getElem?_append, List.length_take, Nat.min_eq_left (by omega)]
    split
    · rw [List.getElem?_take, if_pos (by assumption)]
    · rw [List.getElem?_drop]; congr 1; omega
  rw [e, e]
  by_cases h1 : i + 1 < k
  · rw [if_pos (by omega), if_pos h1]; exact h i (by omega)
  · by_cases h2 : i < k
    · rw [if_pos h2, if_neg h1]
      have := asc_lt h 1 i (by omega)
      exact this
    · rw [if_neg h2, if_neg h1]
      exact h (i + 1) (by omega)
/-- with one element twice. -/
theorem desc_more {ts : List Int} (h : Asc ts) (k : Nat) (hk : k < ts.length) : desc (ts.take (k + 1) ++ [ts[k]?.getD 0] ++ ts.drop (k + 1)) = ((k + 1 : Nat) : Int) := by
  have e : ∀ q, q ≤ k → (ts.take (k + 1) ++ [ts[k]?.getD 0] ++ ts.drop (k + 1))[q]? = ts[q]? := by
    intro q hq
    rw [List.append_assoc, List.getElem?_append_left (by rw [List.length_take]; omega), List.getElem?_take, if_pos (by omega)]
  have e1 : (ts.take (k + 1) ++ [ts[k]?.getD 0] ++ ts.drop (k + 1))[k + 1]? = some (ts[k]?.getD 0) := by
    rw [List.append_assoc, List.getElem?_append_right (by rw [List.length_take]; omega), List.length_take, Nat.min_eq_left (by omega), Nat.sub_self]
    rfl
  refine desc_at (by simp; omega) (by rw [e1, e k (Nat.le_refl _)]; simp) fun q hq => ?_
  rw [e q (by omega), e (q + 1) (by omega)]
  exact h q (by omega)
theorem desc_take {ts : List Int} {j : Nat} (ha : ∀ q, q < j → ts[q]?.getD 0 < ts[q + 1]?.getD 0) : desc (ts.take (j + 1)) = -1 := by
  apply desc_asc
  intro i hi
  rw [List.length_take] at hi
  rw [List.getElem?_take, List.getElem?_take, if_pos (by omega), if_pos (by omega)]
  exact ha i (by omega)
end Go.Proofs.Ytickchkcfaggfaa
