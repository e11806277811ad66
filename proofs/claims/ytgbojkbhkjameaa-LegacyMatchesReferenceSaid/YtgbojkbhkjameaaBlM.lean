/-
  PLAIN MATHEMATICS of lists made of pieces of one length. No program.
  PLAIN MATHEMATICS of transition times (layer 15): the encoding of a list of times, the times of a list of bytes, the first descent, the range of a time size. No program.
  PLAIN MATHEMATICS of leap-second records (layer 17): a record's cells, its bytes, the records of a list of bytes, validity, the correction. No program.
  PLAIN MATHEMATICS of leap-second lists (layer 17): validity, the correction, the expiration. No program.
  PLAIN MATHEMATICS of local time type records (layer 16): a type's cells, its six bytes, the types of a list of bytes, the flags, the check. No program.
  PLAIN MATHEMATICS of indicator arrays (layer 18), and a slice of bools that came in. No program.
  PLAIN MATHEMATICS of data blocks (layer 19): the bytes of a block, the block of bytes. No program.
-/
import Derived.Test.YtgbojkbhkjameaaBase2
namespace Go.Proofs.Ytgbojkbhkjameaa
open Go.RowKit
set_option linter.unusedVariables false
set_option maxRecDepth 100000
section
variable {α β : Type} {f : α → List β} {K : Nat}
theorem fm_len (h : ∀ a, (f a).length = K) : ∀ ts : List α, (ts.flatMap f).length = ts.length * K
  | [] => by simp
  | a :: t => by
    have := fm_len h t
    rw [List.flatMap_cons, List.length_append, h, this, List.length_cons, Nat.add_mul]
    omega
theorem fm_drop (h : ∀ a, (f a).length = K) (ts : List α) (i : Nat) : (ts.flatMap f).drop (i * K) = (ts.drop i).flatMap f := by
  induction i generalizing ts with
  | zero => simp
  | succ i ih =>
    cases ts with
    | nil => simp
    | cons a t =>
      rw [List.drop_succ_cons, List.flatMap_cons, ← ih t, Nat.add_mul, Nat.one_mul, Nat.add_comm, ← List.drop_drop, List.drop_append_of_le_length (by rw [h]; omega), show (f a).drop K = [] from List.drop_of_length_le (by rw [h]; omega), List.nil_append]
theorem fm_take (h : ∀ a, (f a).length = K) (ts : List α) (i : Nat) : (ts.flatMap f).take (i * K) = (ts.take i).flatMap f := by
  induction i generalizing ts with
  | zero => simp
  | succ i ih =>
    cases ts with
    | nil => simp
    | cons a t =>
      rw [List.take_succ_cons, List.flatMap_cons, List.flatMap_cons, ← ih t, Nat.add_mul, Nat.one_mul, Nat.add_comm, List.take_append]
      rw [h, List.take_of_length_le (by rw [h]; omega), Nat.add_sub_cancel_left]
/-- the j-th of the i-th piece. -/
theorem fm_get (h : ∀ a, (f a).length = K) (ts : List α) (i j : Nat) (a : α) (hi : ts[i]? = some a) (hj : j < K) : (ts.flatMap f)[i * K + j]? = (f a)[j]? := by
  have hl := (List.getElem?_eq_some_iff.1 hi).1
  have e : ts.drop i = a :: ts.drop (i + 1) := by
    rw [List.drop_eq_getElem_cons hl]
    rw [List.getElem?_eq_getElem hl] at hi
    injection hi with hi
    rw [hi]
  rw [← List.getElem?_drop, fm_drop h, e, List.flatMap_cons, List.getElem?_append_left (by rw [h]; exact hj)]
theorem fm_step (ts : List α) (i : Nat) (a : α) (hi : ts[i]? = some a) : (ts.take (i + 1)).flatMap f = (ts.take i).flatMap f ++ f a := by
  have hl := (List.getElem?_eq_some_iff.1 hi).1
  rw [List.getElem?_eq_getElem hl] at hi
  injection hi with hi
  rw [List.take_succ_eq_append_getElem hl, List.flatMap_append, hi]
  simp
theorem fm_inj (h : ∀ a, (f a).length = K) (hf : ∀ a b, f a = f b → a = b) : ∀ (ts us : List α), ts.length = us.length → ts.flatMap f = us.flatMap f → ts = us
  | [], [], _, _ => rfl
  | [], b :: u, hl, _ => by simp at hl
  | a :: t, [], hl, _ => by simp at hl
  | a :: t, b :: u, hl, e => by
    rw [List.flatMap_cons, List.flatMap_cons] at e
    have e2 := List.append_inj e (by rw [h, h])
    rw [hf a b e2.1, fm_inj h hf t u (by simpa using hl) e2.2]
end
end Go.Proofs.Ytgbojkbhkjameaa
namespace Go.Proofs.Ytgbojkbhkjameaa
open Go.RowKit
set_option linter.unusedVariables false
set_option maxRecDepth 100000
def u64 (v : Int) : Int := v % 18446744073709551616
theorem u64_bd (v : Int) : 0 ≤ u64 v ∧ u64 v < 18446744073709551616 := by unfold u64; omega
/-- the time at place i, and the first m times. -/
def tAt (k : Nat) (l : List Int) (i : Nat) : Int := sgn k (uval (fld l (i * k) k))
def dT (k : Nat) (l : List Int) (m : Nat) : List Int := (List.range m).map (tAt k l)
def eT (k : Nat) (ts : List Int) : List Int := ts.flatMap fun v => be k (u64 v)
def fT (k : Nat) (ts : List Int) : Bool := ts.all fun v => fitsB k v
theorem dT_len (k : Nat) (l : List Int) (m : Nat) : (dT k l m).length = m := by simp [dT]
theorem dT_step (k : Nat) (l : List Int) (m : Nat) : dT k l (m + 1) = dT k l m ++ [tAt k l m] := by simp [dT, List.range_succ]
theorem eT_len (k : Nat) (ts : List Int) : (eT k ts).length = k * ts.length := by
  induction ts with
  | nil => simp [eT]
  | cons v t ih =>
    have : (eT k (v :: t)).length = (be k (u64 v)).length + (eT k t).length := by simp [eT]
    rw [this, ih, be_len, List.length_cons, Nat.mul_add]
    omega
theorem eT_app (k : Nat) (a b : List Int) : eT k (a ++ b) = eT k a ++ eT k b := by simp [eT]
theorem eT_nil (k : Nat) : eT k [] = [] := rfl
theorem eT_cons (k : Nat) (v : Int) (t : List Int) : eT k (v :: t) = be k (u64 v) ++ eT k t := by simp [eT]
theorem eT_one (k : Nat) (v : Int) : eT k [v] = be k (u64 v) := by simp [eT]
theorem eT_bytes (k : Nat) (ts : List Int) : Bytes (eT k ts) := bytes_of_mem fun x hx => by
  unfold eT at hx
  obtain ⟨v, _, hv⟩ := List.mem_flatMap.1 hx
  exact (be_bytes k (u64 v)).mem x hv
theorem eT_step (k : Nat) (ts : List Int) (i : Nat) (h : i < ts.length) : eT k (ts.take (i + 1)) = eT k (ts.take i) ++ be k (u64 (ts[i]?.getD 0)) := by
  rw [List.take_succ_eq_append_getElem h, eT_app, eT_one, List.getElem?_eq_getElem h]
  rfl
/-- a signed value is read back exactly if it fits. -/
theorem sgn_u64 {k : Nat} (hk : k = 4 ∨ k = 8) (v : Int) (h0 : -9223372036854775808 ≤ v) (h1 : v < 9223372036854775808) : sgn k (uval (be k (u64 v))) = v ↔ fitsB k v = true := by
  rw [uval_be]
  unfold u64 sgn fitsB
  rcases hk with rfl | rfl
  · simp
    omega
  · simp
    omega
theorem sgn_bd {k : Nat} (hk : k = 4 ∨ k = 8) (u : Int) (h0 : 0 ≤ u) (h1 : u < 256 ^ k) : fitsB k (sgn k u) = true ∧ -9223372036854775808 ≤ sgn k u ∧ sgn k u < 9223372036854775808 := by
  unfold sgn fitsB
  rcases hk with rfl | rfl
  · simp at h1 ⊢
    omega
  · simp at h1 ⊢
    omega
theorem be_uval' : ∀ (n : Nat) (l : List Int), l.length = n → Bytes l → be n (uval l) = l
  | 0, l, h, _ => by rw [List.length_eq_zero_iff.1 h]; rfl
  | n + 1, l, hl, h => by
    have hne : l ≠ [] := by intro e; rw [e] at hl; simp at hl
    have e := List.dropLast_concat_getLast hne
    generalize l.getLast hne = x at e
    generalize hm : l.dropLast = m at e
    subst e
    have hx := h.mem x (by simp)
    rw [List.length_append, List.length_singleton] at hl
    rw [be_succ, uval_snoc, show (uval m * 256 + x) / 256 = uval m by omega, show (uval m * 256 + x) % 256 = x by omega, be_uval' n m (by omega) (bytes_of_mem fun y hy => h.mem y (by simp [hy]))]
theorem be_uval (l : List Int) (h : Bytes l) : be l.length (uval l) = l := be_uval' _ l rfl h
theorem be_mod (k : Nat) : ∀ (u v : Int), u % 256 ^ k = v % 256 ^ k → be k u = be k v := by
  induction k with
  | zero => intro u v _; rfl
  | succ k ih =>
    intro u v h
    have e : ∀ n : Int, n / 256 % 256 ^ k = n % 256 ^ (k + 1) / 256 ∧ n % 256 = n % 256 ^ (k + 1) % 256 := by
      intro n
      have hp : (0 : Int) < 256 ^ k := Int.pow_pos (by decide)
      rw [Int.pow_succ, Int.mul_comm]
      refine ⟨?_, by rw [Int.emod_emod_of_dvd n (Int.dvd_mul_right 256 (256 ^ k))]⟩
      generalize (256 : Int) ^ k = p at *
      have h1 := Int.emod_add_mul_ediv n (256 * p)
      have h2 := Int.emod_nonneg n (show (256 * p) ≠ 0 by omega)
      have h3 := Int.emod_lt_of_pos n (show 0 < 256 * p by omega)
      generalize hr : n % (256 * p) = r at *
      generalize hq : n / (256 * p) = q at *
      have h4 : n / 256 = p * q + r / 256 := by rw [← h1, Int.mul_assoc]; omega
      rw [h4, Int.add_comm, Int.add_mul_emod_self_left]
      exact Int.emod_eq_of_lt (by omega) (by omega)
    rw [be_succ, be_succ, (e u).2, (e v).2, h, ih (u / 256) (v / 256) (by rw [(e u).1, (e v).1, h])]
theorem be_sgn {k : Nat} (hk : k = 4 ∨ k = 8) (f : List Int) (hf : Bytes f) (hl : f.length = k) : be k (u64 (sgn k (uval f))) = f := by
  have hb := uval_bd f hf
  rw [hl] at hb
  have e : be k (u64 (sgn k (uval f))) = be k (uval f) := by
    apply be_mod
    unfold u64 sgn
    rcases hk with rfl | rfl
    · simp at hb ⊢
      omega
    · simp at hb ⊢
      omega
  rw [e]
  have := be_uval f hf
  rwa [hl] at this
theorem fld_at (k : Nat) (ts : List Int) (i : Nat) (h : i < ts.length) : fld (eT k ts) (i * k) k = be k (u64 (ts[i]?.getD 0)) := by
  have e : ts = ts.take i ++ ts[i] :: ts.drop (i + 1) := by rw [← List.drop_eq_getElem_cons h, List.take_append_drop]
  have hlen : (eT k (ts.take i)).length = i * k := by rw [eT_len, List.length_take, Nat.min_eq_left (by omega), Nat.mul_comm]
  have e2 : eT k ts = eT k (ts.take i) ++ (be k (u64 ts[i]) ++ eT k (ts.drop (i + 1))) := by
    have := congrArg (eT k) e
    rwa [eT_app, eT_cons] at this
  unfold fld
  rw [e2, List.drop_append_of_le_length (by omega), List.drop_of_length_le (by omega), List.nil_append, List.take_append_of_le_length (by rw [be_len]; omega), List.take_of_length_le (by rw [be_len]; omega), List.getElem?_eq_getElem h]
  rfl
/-- decoding what was encoded. -/
theorem dT_eT {k : Nat} (hk : k = 4 ∨ k = 8) (ts : List Int) (h : ∀ v ∈ ts, -9223372036854775808 ≤ v ∧ v < 9223372036854775808) : dT k (eT k ts) ts.length = ts ↔ fT k ts = true := by
  unfold fT
  rw [List.all_eq_true]
  constructor
  · intro e v hv
    obtain ⟨i, hi, rfl⟩ := List.getElem_of_mem hv
    have e1 : (dT k (eT k ts) ts.length)[i]? = ts[i]? := by rw [e]
    rw [List.getElem?_eq_getElem (by rw [dT_len]; exact hi), List.getElem?_eq_getElem hi] at e1
    injection e1 with e1
    have e2 : tAt k (eT k ts) i = ts[i] := by rw [← e1]; simp [dT]
    unfold tAt at e2
    rw [fld_at k ts i hi, List.getElem?_eq_getElem hi] at e2
    exact (sgn_u64 hk _ (h _ hv).1 (h _ hv).2).1 e2
  · intro hf
    apply List.ext_getElem (dT_len _ _ _)
    intro i h1 h2
    have : tAt k (eT k ts) i = ts[i] := by
      unfold tAt
      rw [fld_at k ts i h2, List.getElem?_eq_getElem h2]
      have hv := List.getElem_mem h2
      exact (sgn_u64 hk _ (h _ hv).1 (h _ hv).2).2 (hf _ hv)
    simpa [dT] using this
/-- encoding what was decoded. -/
theorem eT_dT {k : Nat} (hk : k = 4 ∨ k = 8) (l : List Int) (hl : Bytes l) : ∀ (m : Nat), m * k ≤ l.length → eT k (dT k l m) = l.take (m * k) := by
  intro m
  induction m with
  | zero => intro _; simp [dT, eT]
  | succ m ih =>
    intro h
    have h' : m * k + k ≤ l.length := by rw [Nat.add_mul] at h; omega
    rw [dT_step, eT_app, eT_one, ih (by omega)]
    unfold tAt
    rw [be_sgn hk _ (fld_bytes hl _ _) (fld_len _ _ _ h'), Nat.add_mul, Nat.one_mul]
    unfold fld
    rw [← List.take_add]
theorem dT_bd {k : Nat} (hk : k = 4 ∨ k = 8) (l : List Int) (hl : Bytes l) (m : Nat) (h : m * k ≤ l.length) : fT k (dT k l m) = true ∧ ∀ v ∈ dT k l m, -9223372036854775808 ≤ v ∧ v < 9223372036854775808 := by
  have key : ∀ v ∈ dT k l m, fitsB k v = true ∧ -9223372036854775808 ≤ v ∧ v < 9223372036854775808 := by
    intro v hv
    unfold dT at hv
    obtain ⟨i, hi, rfl⟩ := List.mem_map.1 hv
    have him : i < m := List.mem_range.1 hi
    have hz : i * k + k ≤ l.length := by
      have := Nat.mul_le_mul_right k (show i + 1 ≤ m by omega)
      rw [Nat.add_mul, Nat.one_mul] at this
      omega
    have hb := uval_bd _ (fld_bytes hl (i * k) k)
    rw [fld_len _ _ _ hz] at hb
    exact sgn_bd hk _ hb.1 hb.2
  exact ⟨by unfold fT; rw [List.all_eq_true]; exact fun v hv => (key v hv).1, fun v hv => (key v hv).2⟩
theorem fT_8 (ts : List Int) : fT 8 ts = true := by unfold fT fitsB; rw [List.all_eq_true]; intro v _; simp
theorem dT_app {k : Nat} (a b : List Int) (m : Nat) (h : m * k ≤ a.length) : dT k (a ++ b) m = dT k a m := by
  unfold dT
  apply List.map_congr_left
  intro i hi
  have him : i < m := List.mem_range.1 hi
  have hz : i * k + k ≤ a.length := by
    have := Nat.mul_le_mul_right k (show i + 1 ≤ m by omega)
    rw [Nat.add_mul, Nat.one_mul] at this
    omega
  unfold tAt fld
  rw [List.drop_append_of_le_length (by omega), List.take_append_of_le_length (by rw [List.length_drop]; omega)]
/-! ### the first descent -/
def dsF : Nat → List Int → Int
  | i, a :: b :: t => if b ≤ a then (i : Int) else dsF (i + 1) (b :: t)
  | _, _ => -1
def desc (ts : List Int) : Int := dsF 1 ts
def Asc (ts : List Int) : Prop := ∀ i, i + 1 < ts.length → ts[i]?.getD 0 < ts[i + 1]?.getD 0
theorem dsF_spec : ∀ (ts : List Int) (i : Nat), (dsF i ts = -1 ∧ Asc ts) ∨ (∃ j, dsF i ts = (i + j : Nat) ∧ j + 1 < ts.length ∧ ts[j + 1]?.getD 0 ≤ ts[j]?.getD 0 ∧ ∀ q, q < j → ts[q]?.getD 0 < ts[q + 1]?.getD 0)
  | [], i => .inl ⟨rfl, fun j h => by simp at h⟩
  | [a], i => .inl ⟨rfl, fun j h => by simp at h⟩
  | a :: b :: t, i => by
    unfold dsF
    by_cases h : b ≤ a
    · rw [if_pos h]
      exact .inr ⟨0, rfl, by simp, by simpa using h, fun q hq => by omega⟩
    · rw [if_neg h]
      rcases dsF_spec (b :: t) (i + 1) with ⟨e, ha⟩ | ⟨j, e, hj, hd, ha⟩
      · refine .inl ⟨e, fun q hq => ?_⟩
        cases q with
        | zero => simp; omega
        | succ q => simpa using ha q (by simpa using hq)
      · refine .inr ⟨j + 1, by rw [e]; congr 1; omega, by simpa using hj, by simpa using hd, fun q hq => ?_⟩
        cases q with
        | zero => simp; omega
        | succ q => simpa using ha q (by omega)
theorem desc_spec (ts : List Int) : (desc ts = -1 ∧ Asc ts) ∨ (∃ j : Nat, desc ts = ((j + 1 : Nat) : Int) ∧ j + 1 < ts.length ∧ ts[j + 1]?.getD 0 ≤ ts[j]?.getD 0 ∧ ∀ q, q < j → ts[q]?.getD 0 < ts[q + 1]?.getD 0) := by
  rcases dsF_spec ts 1 with h | ⟨j, e, h⟩
  · exact .inl h
  · exact .inr ⟨j, by unfold desc; rw [e, Nat.add_comm], h⟩
theorem desc_asc {ts : List Int} (h : Asc ts) : desc ts = -1 := by
  rcases desc_spec ts with ⟨e, _⟩ | ⟨j, _, hj, hd, _⟩
  · exact e
  · have := h j hj
    omega
theorem desc_at {ts : List Int} {j : Nat} (hj : j + 1 < ts.length) (hd : ts[j + 1]?.getD 0 ≤ ts[j]?.getD 0) (ha : ∀ q, q < j → ts[q]?.getD 0 < ts[q + 1]?.getD 0) : desc ts = ((j + 1 : Nat) : Int) := by
  rcases desc_spec ts with ⟨_, h⟩ | ⟨i, e, hi, hd', ha'⟩
  · have := h j hj
    omega
  · rcases Nat.lt_trichotomy i j with h | rfl | h
    · have := ha i h; omega
    · exact e
    · have := ha' j h; omega
theorem asc_of_desc {ts : List Int} (h : desc ts = -1) : Asc ts := by
  rcases desc_spec ts with ⟨_, h'⟩ | ⟨i, e, _⟩
  · exact h'
  · rw [e] at h; omega
theorem asc_lt {ts : List Int} (h : Asc ts) : ∀ (d i : Nat), i + d + 1 < ts.length → ts[i]?.getD 0 < ts[i + d + 1]?.getD 0 := by
  intro d
  induction d with
  | zero => intro i hi; exact h i hi
  | succ d ih =>
    intro i hi
    have h1 := ih i (by omega)
    have h2 := h (i + d + 1) (by omega)
    have e : i + d + 1 + 1 = i + (d + 1) + 1 := by omega
    rw [e] at h2
    omega
theorem asc_take {ts : List Int} (h : Asc ts) (k : Nat) : Asc (ts.take k) := by
  intro i hi
  rw [List.length_take] at hi
  rw [List.getElem?_take, List.getElem?_take, if_pos (by omega), if_pos (by omega)]
  exact h i (by omega)
/-- without one element. -/
theorem asc_less {ts : List Int} (h : Asc ts) (k : Nat) (hk : k < ts.length) : Asc (ts.take k ++ ts.drop (k + 1)) := by
  intro i hi
  rw [List.length_append, List.length_take, List.length_drop] at hi
  have e : ∀ q, (ts.take k ++ ts.drop (k + 1))[q]? = if q < k then ts[q]? else ts[q + 1]? := by
    intro q
    rw [List.getElem?_append, List.length_take, Nat.min_eq_left (by omega)]
    split
    · rw [List.getElem?_take, if_pos (by assumption)]
    · rw [List.getElem?_drop]; congr 1; omega
  rw [e, e]
  by_cases h1 : i + 1 < k
  · rw [if_pos (by omega), if_pos h1]; exact h i (by omega)
  · by_cases h2 : i < k
    · rw [if_pos h2, if_neg h1]
      have := asc_lt h 1 i (by omega)
      exact this
    · rw [if_neg h2, if_neg h1]
      exact h (i + 1) (by omega)
/-- with one element twice. -/
theorem desc_more {ts : List Int} (h : Asc ts) (k : Nat) (hk : k < ts.length) : desc (ts.take (k + 1) ++ [ts[k]?.getD 0] ++ ts.drop (k + 1)) = ((k + 1 : Nat) : Int) := by
  have e : ∀ q, q ≤ k → (ts.take (k + 1) ++ [ts[k]?.getD 0] ++ ts.drop (k + 1))[q]? = ts[q]? := by
    intro q hq
    rw [List.append_assoc, List.getElem?_append_left (by rw [List.length_take]; omega), List.getElem?_take, if_pos (by omega)]
  have e1 : (ts.take (k + 1) ++ [ts[k]?.getD 0] ++ ts.drop (k + 1))[k + 1]? = some (ts[k]?.getD 0) := by
    rw [List.append_assoc, List.getElem?_append_right (by rw [List.length_take]; omega), List.length_take, Nat.min_eq_left (by omega), Nat.sub_self]
    rfl
  refine desc_at (by simp; omega) (by rw [e1, e k (Nat.le_refl _)]; simp) fun q hq => ?_
  rw [e q (by omega), e (q + 1) (by omega)]
  exact h q (by omega)
theorem desc_take {ts : List Int} {j : Nat} (ha : ∀ q, q < j → ts[q]?.getD 0 < ts[q + 1]?.getD 0) : desc (ts.take (j + 1)) = -1 := by
  apply desc_asc
  intro i hi
  rw [List.length_take] at hi
  rw [List.getElem?_take, List.getElem?_take, if_pos (by omega), if_pos (by omega)]
  exact ha i (by omega)
end Go.Proofs.Ytgbojkbhkjameaa
namespace Go.Proofs.Ytgbojkbhkjameaa
open Go.RowKit
set_option linter.unusedVariables false
set_option maxRecDepth 100000
/-- a leap-second record: At, Corr. -/
abbrev LP := Int × Int
def lpOk (t : LP) : Prop := -9223372036854775808 ≤ t.1 ∧ t.1 < 9223372036854775808 ∧ -2147483648 ≤ t.2 ∧ t.2 < 2147483648
def lc (t : LP) : List Value := [.int .i64 t.1, .int .i32 t.2]
def lcs (ts : List LP) : List Value := ts.flatMap lc
theorem lc_len (t : LP) : (lc t).length = 2 := rfl
theorem lcs_len (ts : List LP) : (lcs ts).length = ts.length * 2 := fm_len lc_len ts
theorem lcs_get {ts : List LP} {i : Nat} {t : LP} (h : ts[i]? = some t) : (lcs ts)[i * 2]? = some (.int .i64 t.1) ∧ (lcs ts)[i * 2 + 1]? = some (.int .i32 t.2) :=
  ⟨fm_get lc_len ts i 0 t h (by omega), fm_get lc_len ts i 1 t h (by omega)⟩
theorem lcs_app (a b : List LP) : lcs (a ++ b) = lcs a ++ lcs b := List.flatMap_append
theorem lcs_take (ts : List LP) (i : Nat) : (lcs ts).take (i * 2) = lcs (ts.take i) := fm_take lc_len ts i
theorem lcs_drop (ts : List LP) (i : Nat) : (lcs ts).drop (i * 2) = lcs (ts.drop i) := fm_drop lc_len ts i
theorem lcs_one (t : LP) : lcs [t] = lc t := by simp [lcs]
theorem lcs_cells (ts : List LP) : ∀ u ∈ lcs ts, u.oneCell' = true := by
  intro u hu
  obtain ⟨t, _, h⟩ := List.mem_flatMap.1 hu
  simp only [lc, List.mem_cons, List.not_mem_nil, or_false] at h
  rcases h with rfl | rfl <;> rfl
/-- a record's bytes, its time in k bytes. -/
def eL (k : Nat) (t : LP) : List Int := be k (u64 t.1) ++ be 4 (u64 t.2)
def eLP (k : Nat) (ts : List LP) : List Int := ts.flatMap (eL k)
theorem eL_len (k : Nat) (t : LP) : (eL k t).length = k + 4 := by simp [eL, be_len]
theorem eLP_len (k : Nat) (ts : List LP) : (eLP k ts).length = ts.length * (k + 4) := fm_len (eL_len k) ts
theorem eLP_app (k : Nat) (a b : List LP) : eLP k (a ++ b) = eLP k a ++ eLP k b := List.flatMap_append
theorem eLP_one (k : Nat) (t : LP) : eLP k [t] = eL k t := by simp [eLP]
theorem eLP_step (k : Nat) (ts : List LP) (i : Nat) (t : LP) (h : ts[i]? = some t) : eLP k (ts.take (i + 1)) = eLP k (ts.take i) ++ be k (u64 t.1) ++ be 4 (u64 t.2) := by
  rw [show eLP k (ts.take (i + 1)) = eLP k (ts.take i) ++ eL k t from fm_step ts i t h, List.append_assoc]
  rfl
theorem eLP_bytes (k : Nat) (ts : List LP) : Bytes (eLP k ts) := bytes_of_mem fun x hx => by
  obtain ⟨t, _, hv⟩ := List.mem_flatMap.1 hx
  exact ((be_bytes k _).app (be_bytes 4 _)).mem x hv
/-- the record at place i. -/
def dL (k : Nat) (l : List Int) (i : Nat) : LP := (sgn k (uval (fld l (i * (k + 4)) k)), sgn 4 (uval (fld l (i * (k + 4) + k) 4)))
def dLP (k : Nat) (l : List Int) (m : Nat) : List LP := (List.range m).map (dL k l)
def lfit (k : Nat) (ts : List LP) : Bool := ts.all fun t => fitsB k t.1
theorem dLP_len (k : Nat) (l : List Int) (m : Nat) : (dLP k l m).length = m := by simp [dLP]
theorem dLP_step (k : Nat) (l : List Int) (m : Nat) : dLP k l (m + 1) = dLP k l m ++ [dL k l m] := by simp [dLP, List.range_succ]
theorem drop_at {α : Type} {ts : List α} {i : Nat} {t : α} (h : ts[i]? = some t) : ts.drop i = t :: ts.drop (i + 1) := by
  have hl := (List.getElem?_eq_some_iff.1 h).1
  rw [List.drop_eq_getElem_cons hl]
  rw [List.getElem?_eq_getElem hl] at h
  injection h with h
  rw [h]
theorem fld_a (k : Nat) {ts : List LP} {i : Nat} {t : LP} (h : ts[i]? = some t) : fld (eLP k ts) (i * (k + 4)) k = be k (u64 t.1) := by
  unfold fld
  rw [show (eLP k ts).drop (i * (k + 4)) = eLP k (ts.drop i) from fm_drop (eL_len k) ts i, drop_at h]
  unfold eLP
  rw [List.flatMap_cons]
  unfold eL
  rw [List.append_assoc, List.take_append_of_le_length (by rw [be_len]; omega), List.take_of_length_le (by rw [be_len]; omega)]
theorem fld_b (k : Nat) {ts : List LP} {i : Nat} {t : LP} (h : ts[i]? = some t) : fld (eLP k ts) (i * (k + 4) + k) 4 = be 4 (u64 t.2) := by
  unfold fld
  rw [← List.drop_drop, show (eLP k ts).drop (i * (k + 4)) = eLP k (ts.drop i) from fm_drop (eL_len k) ts i, drop_at h]
  unfold eLP
  rw [List.flatMap_cons]
  unfold eL
  rw [List.append_assoc, List.drop_left' (be_len k _), List.take_append_of_le_length (by rw [be_len]; omega), List.take_of_length_le (by rw [be_len]; omega)]
theorem dL_e {k : Nat} (hk : k = 4 ∨ k = 8) {ts : List LP} {i : Nat} {t : LP} (h : ts[i]? = some t) (ht : lpOk t) : dL k (eLP k ts) i = t ↔ fitsB k t.1 = true := by
  obtain ⟨o0, o1, x0, x1⟩ := ht
  have h2 : sgn 4 (uval (be 4 (u64 t.2))) = t.2 := (sgn_u64 (k := 4) (.inl rfl) t.2 (by omega) (by omega)).2 (by unfold fitsB; simp; omega)
  rw [← sgn_u64 hk t.1 o0 o1]
  unfold dL
  rw [fld_a k h, fld_b k h, h2]
  obtain ⟨a, c⟩ := t
  simp
theorem dLP_e {k : Nat} (hk : k = 4 ∨ k = 8) {ts : List LP} (h : ∀ t ∈ ts, lpOk t) : dLP k (eLP k ts) ts.length = ts ↔ lfit k ts = true := by
  unfold lfit
  rw [List.all_eq_true]
  constructor
  · intro e v hv
    obtain ⟨i, hi, rfl⟩ := List.getElem_of_mem hv
    have e1 : (dLP k (eLP k ts) ts.length)[i]? = ts[i]? := by rw [e]
    rw [List.getElem?_eq_getElem (by rw [dLP_len]; exact hi), List.getElem?_eq_getElem hi] at e1
    injection e1 with e1
    have e2 : dL k (eLP k ts) i = ts[i] := by rw [← e1]; simp [dLP]
    exact (dL_e hk (List.getElem?_eq_getElem hi) (h _ hv)).1 e2
  · intro hf
    apply List.ext_getElem (dLP_len _ _ _)
    intro i h1 h2
    have hv := List.getElem_mem h2
    have := (dL_e hk (List.getElem?_eq_getElem h2) (h _ hv)).2 (hf _ hv)
    simpa [dLP] using this
theorem fld_two (l : List Int) (o a b : Nat) : fld l o (a + b) = fld l o a ++ fld l (o + a) b := by
  unfold fld
  rw [List.take_add, List.drop_drop]
theorem eL_d {k : Nat} (hk : k = 4 ∨ k = 8) (l : List Int) (hl : Bytes l) (i : Nat) (h : i * (k + 4) + (k + 4) ≤ l.length) : eL k (dL k l i) = fld l (i * (k + 4)) (k + 4) := by
  rw [fld_two]
  unfold eL dL
  dsimp only
  rw [be_sgn hk (fld l (i * (k + 4)) k) (fld_bytes hl _ _) (fld_len _ _ _ (by omega))]
  have h4 := be_sgn (k := 4) (.inl rfl) (fld l (i * (k + 4) + k) 4) (fld_bytes hl _ _) (fld_len _ _ _ (by omega))
  rw [show ((4 : Nat) : Int) = 4 from rfl] at h4
  rw [h4]
theorem eLP_d {k : Nat} (hk : k = 4 ∨ k = 8) (l : List Int) (hl : Bytes l) : ∀ m : Nat, m * (k + 4) ≤ l.length → eLP k (dLP k l m) = l.take (m * (k + 4)) := by
  intro m
  induction m with
  | zero => intro _; simp [dLP, eLP]
  | succ m ih =>
    intro h
    rw [Nat.add_mul, Nat.one_mul] at h ⊢
    rw [dLP_step, eLP_app, eLP_one, ih (by omega), eL_d hk l hl m h]
    unfold fld
    rw [← List.take_add]
theorem dL_ok {k : Nat} (hk : k = 4 ∨ k = 8) (l : List Int) (hl : Bytes l) (i : Nat) (h : i * (k + 4) + (k + 4) ≤ l.length) : lpOk (dL k l i) ∧ fitsB k (dL k l i).1 = true := by
  have a := uval_bd _ (fld_bytes hl (i * (k + 4)) k)
  rw [fld_len _ _ _ (by omega)] at a
  have b := uval_bd _ (fld_bytes hl (i * (k + 4) + k) 4)
  rw [fld_len _ _ _ (by omega)] at b
  have ha := sgn_bd hk _ a.1 a.2
  have hb := (sgn_bd (k := 4) (.inl rfl) _ b.1 b.2).1
  unfold fitsB at hb
  simp at hb
  exact ⟨⟨ha.2.1, ha.2.2, hb.1, hb.2⟩, ha.1⟩
theorem dLP_ok {k : Nat} (hk : k = 4 ∨ k = 8) (l : List Int) (hl : Bytes l) (m : Nat) (h : m * (k + 4) ≤ l.length) : ∀ t ∈ dLP k l m, lpOk t ∧ fitsB k t.1 = true := by
  intro t ht
  obtain ⟨i, hi, rfl⟩ := List.mem_map.1 ht
  refine dL_ok hk l hl i (Nat.le_trans ?_ h)
  have := Nat.mul_le_mul_right (k + 4) (show i + 1 ≤ m by have := List.mem_range.1 hi; omega)
  rwa [Nat.add_mul, Nat.one_mul] at this
end Go.Proofs.Ytgbojkbhkjameaa
namespace Go.Proofs.Ytgbojkbhkjameaa
open Go.RowKit
set_option linter.unusedVariables false
set_option maxRecDepth 100000
def la (ts : List LP) (i : Nat) : Int := (ts[i]?.getD (0, 0)).1
def lr (ts : List LP) (i : Nat) : Int := (ts[i]?.getD (0, 0)).2
/-- is the record at place i in order (for version 4: 'four')? -/
def okL (ts : List LP) (four : Bool) : Nat → Bool
  | 0 => decide (0 ≤ la ts 0) && (four || decide (lr ts 0 = 1) || decide (lr ts 0 = -1))
  | j + 1 => decide (la ts j + 2419199 ≤ la ts (j + 1)) && (decide (lr ts (j + 1) - lr ts j = 1) || decide (lr ts (j + 1) - lr ts j = -1) || (decide (lr ts (j + 1) - lr ts j = 0) && four && decide (j + 2 = ts.length)))
def vL (ts : List LP) (four : Bool) : Bool := (List.range ts.length).all (okL ts four)
theorem vL_at {ts : List LP} {four : Bool} (h : vL ts four = true) {i : Nat} (hi : i < ts.length) : okL ts four i = true := List.all_eq_true.1 h i (List.mem_range.2 hi)
theorem vL_of {ts : List LP} {four : Bool} (h : ∀ i, i < ts.length → okL ts four i = true) : vL ts four = true := List.all_eq_true.2 fun i hi => h i (List.mem_range.1 hi)
theorem vL_no {ts : List LP} {four : Bool} {i : Nat} (hi : i < ts.length) (h : okL ts four i = false) : vL ts four = false := by
  rw [← Bool.not_eq_true]
  intro e
  rw [vL_at e hi] at h
  cases h
theorem vL_nil (four : Bool) : vL [] four = true := rfl
/-- valid for version 3: for version 4, too. -/
theorem vL_34 {ts : List LP} (h : vL ts false = true) : vL ts true = true := vL_of fun i hi => by
  have := vL_at h hi
  cases i with
  | zero => simp [okL] at this ⊢; exact this.1
  | succ j => simp [okL] at this ⊢; exact ⟨this.1, .inl this.2⟩
theorem la_take {ts : List LP} {k i : Nat} (h : i < k) : la (ts.take k) i = la ts i := by unfold la; rw [List.getElem?_take, if_pos h]
theorem lr_take {ts : List LP} {k i : Nat} (h : i < k) : lr (ts.take k) i = lr ts i := by unfold lr; rw [List.getElem?_take, if_pos h]
/-- a prefix of a valid list. -/
theorem vL_take {ts : List LP} (h : vL ts true = true) {k : Nat} (hk : k < ts.length) : vL (ts.take k) true = true := vL_of fun i hi => by
  rw [List.length_take] at hi
  have hik : i < k := by omega
  have := vL_at h (show i < ts.length by omega)
  cases i with
  | zero => simp only [okL] at this ⊢; rw [la_take hik, lr_take hik]; exact this
  | succ j =>
    simp only [okL] at this ⊢
    rw [la_take hik, lr_take hik, la_take (by omega), lr_take (by omega)]
    simp at this ⊢
    refine ⟨this.1, ?_⟩
    rcases this.2 with h2 | h2
    · exact .inl h2
    · omega
/-- later records are later. -/
theorem la_step {ts : List LP} {four : Bool} (h : vL ts four = true) {j : Nat} (hj : j + 1 < ts.length) : la ts j + 2419199 ≤ la ts (j + 1) := by
  have := vL_at h hj
  simp [okL] at this
  exact this.1
theorem la_lt {ts : List LP} {four : Bool} (h : vL ts four = true) {i : Nat} : ∀ d : Nat, i + d + 1 < ts.length → la ts i < la ts (i + d + 1)
  | 0, hd => by
    have := la_step h (j := i) (by omega)
    rw [Nat.add_zero]
    omega
  | d + 1, hd => by
    have h1 := la_lt h (i := i) d (by omega)
    have h2 := la_step h (j := i + d + 1) (by omega)
    rw [show i + (d + 1) + 1 = i + d + 1 + 1 by omega]
    omega
theorem la_lt' {ts : List LP} {four : Bool} (h : vL ts four = true) {i j : Nat} (hij : i < j) (hj : j < ts.length) : la ts i < la ts j := by
  have := la_lt h (i := i) (j - i - 1) (by omega)
  rwa [show i + (j - i - 1) + 1 = j by omega] at this
theorem la_pos {ts : List LP} {four : Bool} (h : vL ts four = true) (i : Nat) (hi : i < ts.length) : 0 ≤ la ts i := by
  have h0 := vL_at h (show 0 < ts.length by omega)
  simp [okL] at h0
  rcases Nat.eq_zero_or_pos i with rfl | hp
  · exact h0.1
  · have := la_lt' h hp hi
    omega
/-- two neighbours turned. -/
theorem vL_swap {ts : List LP} (h : vL ts true = true) {i : Nat} (hi : i + 1 < ts.length) : vL ((ts.set i (ts[i + 1]?.getD (0, 0))).set (i + 1) (ts[i]?.getD (0, 0))) true = false := by
  refine vL_no (i := i + 1) (by simpa using hi) ?_
  have e1 : la ((ts.set i (ts[i + 1]?.getD (0, 0))).set (i + 1) (ts[i]?.getD (0, 0))) i = la ts (i + 1) := by
    unfold la
    rw [List.getElem?_set_ne (by omega), List.getElem?_set_self (by omega)]
    rfl
  have e2 : la ((ts.set i (ts[i + 1]?.getD (0, 0))).set (i + 1) (ts[i]?.getD (0, 0))) (i + 1) = la ts i := by
    unfold la
    rw [List.getElem?_set_self (by simpa using hi)]
    rfl
  have := la_step h hi
  simp only [okL]
  rw [e1, e2, decide_eq_false (by omega), Bool.false_and]
/-- the correction at time t, out of the first n records. -/
def crN (ts : List LP) (t : Int) : Nat → Int
  | 0 => 0
  | n + 1 => if la ts n ≤ t then lr ts n else crN ts t n
def cr (ts : List LP) (t : Int) : Int := crN ts t ts.length
theorem crN_later {ts : List LP} {t : Int} {i : Nat} : ∀ d : Nat, (∀ j, i ≤ j → j < i + d → t < la ts j) → crN ts t (i + d) = crN ts t i
  | 0, _ => rfl
  | d + 1, h => by
    show crN ts t (i + d + 1) = _
    rw [crN, if_neg (by have := h (i + d) (by omega) (by omega); omega)]
    exact crN_later d fun j h1 h2 => h j h1 (by omega)
/-- the correction at a record's time. -/
theorem cr_at {ts : List LP} {four : Bool} (h : vL ts four = true) {i : Nat} (hi : i < ts.length) : cr ts (la ts i) = lr ts i := by
  have := crN_later (ts := ts) (t := la ts i) (i := i + 1) (ts.length - (i + 1)) (fun j h1 h2 => la_lt' h (by omega) (by omega))
  unfold cr
  rw [show i + 1 + (ts.length - (i + 1)) = ts.length by omega] at this
  rw [this, crN, if_pos (Int.le_refl _)]
/-- the correction just before a record's time. -/
theorem cr_before {ts : List LP} {four : Bool} (h : vL ts four = true) {i : Nat} (hi : i < ts.length) : cr ts (la ts i - 1) = if i = 0 then 0 else lr ts (i - 1) := by
  have := crN_later (ts := ts) (t := la ts i - 1) (i := i) (ts.length - i) (fun j h1 h2 => by
    rcases Nat.lt_or_eq_of_le h1 with h3 | rfl
    · have := la_lt' h h3 (by omega)
      omega
    · omega)
  unfold cr
  rw [show i + (ts.length - i) = ts.length by omega] at this
  rw [this]
  cases i with
  | zero => rfl
  | succ j =>
    rw [crN, if_pos (by have := la_step h hi; omega), if_neg (by omega)]
    rfl
/-- between records nothing changes. -/
theorem cr_quiet {ts : List LP} {t : Int} (h : ∀ i, i < ts.length → la ts i ≠ t) : cr ts t = cr ts (t - 1) := by
  have : ∀ n, n ≤ ts.length → crN ts t n = crN ts (t - 1) n := by
    intro n
    induction n with
    | zero => exact fun _ => rfl
    | succ n ih =>
      intro hn
      have hne := h n (by omega)
      rw [crN, crN, ih (by omega)]
      by_cases hle : la ts n ≤ t
      · rw [if_pos hle, if_pos (by omega)]
      · rw [if_neg hle, if_neg (by omega)]
  exact this _ (Nat.le_refl _)
/-- does the list end in an expiration? -/
def exL (ts : List LP) : Bool := decide (2 ≤ ts.length) && decide (lr ts (ts.length - 1) = lr ts (ts.length - 2))
theorem cr_expiry {ts : List LP} {four : Bool} (h : vL ts four = true) (hx : exL ts = true) : cr ts (la ts (ts.length - 1)) = cr ts (la ts (ts.length - 1) - 1) := by
  unfold exL at hx
  simp at hx
  rw [cr_at h (by omega), cr_before h (by omega), if_neg (by omega), hx.2, show ts.length - 1 - 1 = ts.length - 2 by omega]
end Go.Proofs.Ytgbojkbhkjameaa
namespace Go.Proofs.Ytgbojkbhkjameaa
open Go.RowKit
set_option linter.unusedVariables false
set_option maxRecDepth 100000
/-- a local time type: Offset, Dst, Desig. -/
abbrev TT := Int × Bool × Int
def ttOk (t : TT) : Prop := -2147483648 ≤ t.1 ∧ t.1 < 2147483648 ∧ 0 ≤ t.2.2 ∧ t.2.2 < 256
def tc (t : TT) : List Value := [.int .i32 t.1, .bool t.2.1, .int .u8 t.2.2]
def tcs (ts : List TT) : List Value := ts.flatMap tc
theorem tc_len (t : TT) : (tc t).length = 3 := rfl
theorem tcs_len (ts : List TT) : (tcs ts).length = ts.length * 3 := fm_len tc_len ts
theorem tcs_get {ts : List TT} {i : Nat} {t : TT} (h : ts[i]? = some t) : (tcs ts)[i * 3]? = some (.int .i32 t.1) ∧ (tcs ts)[i * 3 + 1]? = some (.bool t.2.1) ∧ (tcs ts)[i * 3 + 2]? = some (.int .u8 t.2.2) :=
  ⟨fm_get tc_len ts i 0 t h (by omega), fm_get tc_len ts i 1 t h (by omega), fm_get tc_len ts i 2 t h (by omega)⟩
theorem tcs_app (a b : List TT) : tcs (a ++ b) = tcs a ++ tcs b := List.flatMap_append
theorem tcs_take (ts : List TT) (i : Nat) : (tcs ts).take (i * 3) = tcs (ts.take i) := fm_take tc_len ts i
theorem tcs_drop (ts : List TT) (i : Nat) : (tcs ts).drop (i * 3) = tcs (ts.drop i) := fm_drop tc_len ts i
theorem tcs_one (t : TT) : tcs [t] = tc t := by simp [tcs]
theorem tcs_cells (ts : List TT) : ∀ u ∈ tcs ts, u.oneCell' = true := by
  intro u hu
  obtain ⟨t, _, h⟩ := List.mem_flatMap.1 hu
  simp only [tc, List.mem_cons, List.not_mem_nil, or_false] at h
  rcases h with rfl | rfl | rfl <;> rfl
theorem tc_inj (a b : TT) (h : tc a = tc b) : a = b := by
  simp only [tc, List.cons.injEq, Value.int.injEq, Value.bool.injEq, true_and, and_true] at h
  obtain ⟨a1, a2, a3⟩ := a
  obtain ⟨b1, b2, b3⟩ := b
  simp only [Prod.mk.injEq]
  exact h
/-- a type's six bytes. -/
def e6 (t : TT) : List Int := be 4 (u64 t.1) ++ [if t.2.1 then 1 else 0, t.2.2]
def eTT (ts : List TT) : List Int := ts.flatMap e6
theorem e6_len (t : TT) : (e6 t).length = 6 := by simp [e6, be_len]
theorem eTT_len (ts : List TT) : (eTT ts).length = ts.length * 6 := fm_len e6_len ts
theorem eTT_app (a b : List TT) : eTT (a ++ b) = eTT a ++ eTT b := List.flatMap_append
theorem eTT_one (t : TT) : eTT [t] = e6 t := by simp [eTT]
theorem e6_bytes {t : TT} (h : ttOk t) : Bytes (e6 t) := by
  unfold e6
  refine (be_bytes 4 _).app (bytes_of_mem fun x hx => ?_)
  simp only [List.mem_cons, List.not_mem_nil, or_false] at hx
  obtain ⟨h1, h2, h3, h4⟩ := h
  rcases hx with rfl | rfl
  · split <;> omega
  · exact ⟨h3, h4⟩
theorem eTT_bytes {ts : List TT} (h : ∀ t ∈ ts, ttOk t) : Bytes (eTT ts) := bytes_of_mem fun x hx => by
  obtain ⟨t, ht, hv⟩ := List.mem_flatMap.1 hx
  exact (e6_bytes (h t ht)).mem x hv
/-- the type at place i. -/
def d6 (l : List Int) (i : Nat) : TT := (sgn 4 (uval (fld l (i * 6) 4)), decide (l[i * 6 + 4]?.getD 0 = 1), l[i * 6 + 5]?.getD 0)
def dTT (l : List Int) (m : Nat) : List TT := (List.range m).map (d6 l)
def fl6 (l : List Int) (m : Nat) : Bool := (List.range m).all fun i => decide (l[i * 6 + 4]?.getD 0 ≤ 1)
theorem dTT_len (l : List Int) (m : Nat) : (dTT l m).length = m := by simp [dTT]
theorem dTT_step (l : List Int) (m : Nat) : dTT l (m + 1) = dTT l m ++ [d6 l m] := by simp [dTT, List.range_succ]
theorem fl6_step (l : List Int) (m : Nat) : fl6 l (m + 1) = (fl6 l m && decide (l[m * 6 + 4]?.getD 0 ≤ 1)) := by simp [fl6, List.range_succ]
theorem fl6_no {l : List Int} {m i : Nat} (hi : i < m) (h : 1 < l[i * 6 + 4]?.getD 0) : fl6 l m = false := by
  rw [← Bool.not_eq_true]
  intro e
  have := List.all_eq_true.1 e i (List.mem_range.2 hi)
  simp at this
  omega
theorem piece (ts : List TT) (i : Nat) (t : TT) (h : ts[i]? = some t) (j : Nat) (hj : j < 6) : (eTT ts)[i * 6 + j]? = (e6 t)[j]? := fm_get e6_len ts i j t h hj
theorem d6_e (ts : List TT) (i : Nat) (t : TT) (h : ts[i]? = some t) (ht : ttOk t) : d6 (eTT ts) i = t ∧ (eTT ts)[i * 6 + 4]?.getD 0 ≤ 1 := by
  have h4 := piece ts i t h 4 (by omega)
  have h5 := piece ts i t h 5 (by omega)
  have hl := (List.getElem?_eq_some_iff.1 h).1
  have hf : fld (eTT ts) (i * 6) 4 = be 4 (u64 t.1) := by
    have e : ts.drop i = t :: ts.drop (i + 1) := by
      rw [List.drop_eq_getElem_cons hl]
      rw [List.getElem?_eq_getElem hl] at h
      injection h with h
      rw [h]
    unfold fld
    rw [show (eTT ts).drop (i * 6) = eTT (ts.drop i) from fm_drop e6_len ts i, e]
    show List.take 4 (eTT (t :: ts.drop (i + 1))) = _
    unfold eTT
    rw [List.flatMap_cons]
    unfold e6
    rw [List.append_assoc, List.take_append_of_le_length (by rw [be_len]; omega), List.take_of_length_le (by rw [be_len]; omega)]
  have g4 : (e6 t)[4]? = some (if t.2.1 then 1 else 0) := by unfold e6; rw [List.getElem?_append_right (by rw [be_len]; omega), be_len]; rfl
  have g5 : (e6 t)[5]? = some t.2.2 := by unfold e6; rw [List.getElem?_append_right (by rw [be_len]; omega), be_len]; rfl
  rw [g4] at h4
  rw [g5] at h5
  obtain ⟨o, d, x⟩ := t
  obtain ⟨o0, o1, x0, x1⟩ := ht
  dsimp only at *
  unfold d6
  rw [hf, h4, h5]
  refine ⟨?_, by cases d <;> simp⟩
  have hs := (sgn_u64 (k := 4) (.inl rfl) o (by omega) (by omega)).2 (by unfold fitsB; simp; omega)
  rw [show ((4 : Nat) : Int) = 4 from rfl] at hs
  rw [hs]
  cases d <;> rfl
theorem dTT_e {ts : List TT} (h : ∀ t ∈ ts, ttOk t) : dTT (eTT ts) ts.length = ts ∧ fl6 (eTT ts) ts.length = true := by
  constructor
  · apply List.ext_getElem (dTT_len _ _)
    intro i h1 h2
    have := (d6_e ts i ts[i] (List.getElem?_eq_getElem h2) (h _ (List.getElem_mem h2))).1
    simpa [dTT] using this
  · unfold fl6
    rw [List.all_eq_true]
    intro i hi
    have hi' := List.mem_range.1 hi
    exact decide_eq_true (d6_e ts i ts[i] (List.getElem?_eq_getElem hi') (h _ (List.getElem_mem hi'))).2
theorem d6_ok (l : List Int) (hl : Bytes l) (i : Nat) (h : i * 6 + 6 ≤ l.length) : ttOk (d6 l i) := by
  have hb := uval_bd _ (fld_bytes hl (i * 6) 4)
  rw [fld_len _ _ _ (by omega)] at hb
  have hs := sgn_bd (k := 4) (.inl rfl) _ hb.1 hb.2
  have hf := hs.1
  unfold fitsB at hf
  simp at hf
  have h5 := hl (i * 6 + 5)
  exact ⟨hf.1, hf.2, h5.1, h5.2⟩
theorem e6_d (l : List Int) (hl : Bytes l) (i : Nat) (h : i * 6 + 6 ≤ l.length) (hf : l[i * 6 + 4]?.getD 0 ≤ 1) : e6 (d6 l i) = fld l (i * 6) 6 := by
  have h4 := hl (i * 6 + 4)
  have e : fld l (i * 6) 6 = fld l (i * 6) 4 ++ [l[i * 6 + 4]?.getD 0, l[i * 6 + 5]?.getD 0] := by
    rw [fld_step l (i * 6) 5 (by omega), fld_step l (i * 6) 4 (by omega), List.append_assoc]
    rfl
  rw [e]
  unfold e6 d6
  dsimp only
  congr 1
  · have := be_sgn (k := 4) (.inl rfl) (fld l (i * 6) 4) (fld_bytes hl _ _) (fld_len _ _ _ (by omega))
    exact this
  · congr 1
    split
    · rename_i hd
      simp at hd
      exact hd.symm
    · rename_i hd
      simp at hd
      omega
theorem eTT_d (l : List Int) (hl : Bytes l) : ∀ m : Nat, m * 6 ≤ l.length → fl6 l m = true → eTT (dTT l m) = l.take (m * 6) := by
  intro m
  induction m with
  | zero => intro _ _; simp [dTT, eTT]
  | succ m ih =>
    intro h hf
    rw [fl6_step, Bool.and_eq_true, decide_eq_true_iff] at hf
    rw [dTT_step, eTT_app, eTT_one, ih (by omega) hf.1, e6_d l hl m (by omega) hf.2, show (m + 1) * 6 = m * 6 + 6 by omega]
    unfold fld
    rw [← List.take_add]
theorem dTT_ok (l : List Int) (hl : Bytes l) (m : Nat) (h : m * 6 ≤ l.length) : ∀ t ∈ dTT l m, ttOk t := by
  intro t ht
  obtain ⟨i, hi, rfl⟩ := List.mem_map.1 ht
  exact d6_ok l hl i (by have := List.mem_range.1 hi; omega)
theorem e6_inj {a b : TT} (ha : ttOk a) (hb : ttOk b) : e6 a = e6 b ↔ a = b := by
  refine ⟨fun h => ?_, fun h => by rw [h]⟩
  have e1 := (dTT_e (ts := [a]) (by simpa using ha)).1
  have e2 := (dTT_e (ts := [b]) (by simpa using hb)).1
  rw [eTT_one] at e1 e2
  rw [h] at e1
  have := e1.symm.trans e2
  simpa using this
/-- the check: 9, 8 or 0. -/
def chk (ts : List TT) (n : Int) : Int := if ts.any (fun t => decide (t.1 = -2147483648)) then 9 else if ts.any (fun t => decide (n ≤ t.2.2)) then 8 else 0
end Go.Proofs.Ytgbojkbhkjameaa
namespace Go.Proofs.Ytgbojkbhkjameaa
open Go.RowKit
set_option linter.unusedVariables false
abbrev bls (bs : List Bool) : List Value := bs.map Value.bool
/-- the bytes of an array; the array of bytes; are they flags? -/
def eB (b : Bool) : Int := if b then 1 else 0
def eI (bs : List Bool) : List Int := bs.map eB
def dI (l : List Int) : List Bool := l.map fun x => decide (x = 1)
def fI (l : List Int) : Bool := l.all fun x => decide (x ≤ 1)
theorem eI_len (bs : List Bool) : (eI bs).length = bs.length := List.length_map ..
theorem dI_len (l : List Int) : (dI l).length = l.length := List.length_map ..
theorem eB_bd (b : Bool) : 0 ≤ eB b ∧ eB b ≤ 1 := by cases b <;> decide
theorem eB_1 (b : Bool) : decide (eB b = 1) = b := by cases b <;> decide
theorem eI_bd (bs : List Bool) : ∀ x ∈ eI bs, 0 ≤ x ∧ x ≤ 1 := fun x hx => by
  obtain ⟨b, _, rfl⟩ := List.mem_map.1 hx
  exact eB_bd b
theorem fI_e (bs : List Bool) : fI (eI bs) = true := List.all_eq_true.2 fun x hx => decide_eq_true (eI_bd bs x hx).2
theorem dI_e (bs : List Bool) : dI (eI bs) = bs := by
  unfold dI eI
  rw [List.map_map]
  conv => rhs; rw [← List.map_id bs]
  exact List.map_congr_left fun b _ => eB_1 b
theorem eI_d {l : List Int} (h : fI l = true) (h0 : ∀ x ∈ l, 0 ≤ x) : eI (dI l) = l := by
  unfold dI eI
  rw [List.map_map]
  conv => rhs; rw [← List.map_id l]
  refine List.map_congr_left fun x hx => ?_
  have h1 := List.all_eq_true.1 h x hx
  have h2 := h0 x hx
  simp only [decide_eq_true_eq] at h1
  show eB (decide (x = 1)) = x
  by_cases e : x = 1
  · rw [decide_eq_true e, e]; rfl
  · rw [decide_eq_false e]; show (0 : Int) = x; omega
theorem eI_inj {a b : List Bool} : eI a = eI b ↔ a = b := ⟨fun h => by rw [← dI_e a, h, dI_e], fun h => by rw [h]⟩
theorem eI_app (a b : List Bool) : eI (a ++ b) = eI a ++ eI b := List.map_append
theorem fI_step {l : List Int} {k : Nat} {x : Int} (h : l[k]? = some x) : fI (l.take (k + 1)) = (fI (l.take k) && decide (x ≤ 1)) := by
  unfold fI
  rw [List.take_add_one, h, List.all_append]
  simp
theorem dI_step {l : List Int} {k : Nat} {x : Int} (h : l[k]? = some x) : dI (l.take (k + 1)) = dI (l.take k) ++ [decide (x = 1)] := by
  unfold dI
  rw [List.take_add_one, h, List.map_append]
  rfl
theorem eI_step {l : List Bool} {k : Nat} {b : Bool} (h : l[k]? = some b) : eI (l.take (k + 1)) = eI (l.take k) ++ [eB b] := by
  unfold eI
  rw [List.take_add_one, h, List.map_append]
  rfl
/-- one byte stored. -/
theorem fI_set {l : List Int} (h : fI l = true) {k : Nat} (hk : k < l.length) (c : Int) : fI (l.set k c) = decide (c ≤ 1) := by
  unfold fI at h ⊢
  rw [List.all_eq_true] at h
  rw [Bool.eq_iff_iff, List.all_eq_true]
  constructor
  · intro h'
    exact h' c (List.mem_set hk c)
  · intro h' x hx
    rcases List.mem_or_eq_of_mem_set hx with h1 | rfl
    · exact h x h1
    · exact h'
/-- at an index: a set indicator. -/
def bg (l : List Bool) (i : Nat) : Bool := l[i]?.getD false
theorem bg_at {l : List Bool} {i : Nat} {b : Bool} (h : l[i]? = some b) : bg l i = b := by unfold bg; rw [h]; rfl
theorem bg_out {l : List Bool} {i : Nat} (h : l.length ≤ i) : bg l i = false := by unfold bg; rw [List.getElem?_eq_none h]; rfl
/-- the pair is consistent, up to index n. -/
def cnN (std ut : List Bool) (n : Nat) : Bool := (List.range n).all fun i => !bg ut i || bg std i
def cn (std ut : List Bool) : Bool := cnN std ut ut.length
theorem cnN_step (std ut : List Bool) (n : Nat) : cnN std ut (n + 1) = (cnN std ut n && (!bg ut n || bg std n)) := by unfold cnN; rw [List.range_succ, List.all_append]; simp
theorem cn_iff (std ut : List Bool) : cn std ut = true ↔ ∀ i, bg ut i = true → bg std i = true := by
  unfold cn cnN
  rw [List.all_eq_true]
  constructor
  · intro h i hi
    have hl : i < ut.length := by
      rcases Nat.lt_or_ge i ut.length with h' | h'
      · exact h'
      · rw [bg_out h'] at hi; cases hi
    have := h i (List.mem_range.2 hl)
    rw [hi] at this
    simpa using this
  · intro h i _
    cases hb : bg ut i
    · rfl
    · rw [h i hb]; rfl
theorem cn_no {std ut : List Bool} {n : Nat} (hn : n < ut.length) (hu : bg ut n = true) (hs : bg std n = false) : cn std ut = false := by
  rw [← Bool.not_eq_true, cn_iff]
  intro h
  rw [h n hu] at hs
  cases hs
theorem cn_self (u : List Bool) : cn u u = true := (cn_iff u u).2 fun _ h => h
theorem bg_rep (n i : Nat) : bg (List.replicate n false) i = false := by
  unfold bg
  rw [List.getElem?_replicate]
  split <;> rfl
theorem cn_none (s : List Bool) (n : Nat) : cn s (List.replicate n false) = true := (cn_iff _ _).2 fun i h => by rw [bg_rep] at h; cases h
theorem cn_nil (s : List Bool) : cn s [] = true := rfl
theorem bg_set (l : List Bool) (k i : Nat) (b : Bool) : bg (l.set k b) i = if k = i ∧ k < l.length then b else bg l i := by
  unfold bg
  rw [List.getElem?_set]
  by_cases h : k = i
  · subst h
    by_cases h' : k < l.length
    · simp [h']
    · simp [h']
  · simp [h]
theorem cn_more {s u : List Bool} (h : cn s u = true) (k : Nat) : cn (s.set k true) u = true := (cn_iff _ _).2 fun i hi => by
  rw [bg_set]
  split
  · rfl
  · exact (cn_iff s u).1 h i hi
theorem cn_less {s u : List Bool} (h : cn s u = true) (k : Nat) : cn s (u.set k false) = true := (cn_iff _ _).2 fun i hi => by
  rw [bg_set] at hi
  split at hi
  · cases hi
  · exact (cn_iff s u).1 h i hi
theorem cn_longer {s u : List Bool} (h : cn s u = true) (b : Bool) : cn (s ++ [b]) u = true := (cn_iff _ _).2 fun i hi => by
  have := (cn_iff s u).1 h i hi
  unfold bg at this ⊢
  rcases Nat.lt_or_ge i s.length with h' | h'
  · rw [List.getElem?_append_left h']
    exact this
  · rw [List.getElem?_eq_none h'] at this
    cases this
/-- a slice of bools that came in. -/
def IsBw (w : World) (a : Option Addr) (len cap : Nat) (bs : List Bool) : Prop :=
  (a = none → len = 0 ∧ cap = 0) ∧ len ≤ cap ∧ cap ≤ 9223372036854775807 ∧ Rd w a len (bls bs)
theorem IsBw.len {w : World} {a : Option Addr} {len cap : Nat} {bs : List Bool} (h : IsBw w a len cap bs) : bs.length = len := by have := h.2.2.2.len; simpa using this
theorem rb_at {w : World} {A : Option Addr} {n : Nat} {xs : List Bool} (h : Rd w A n (bls xs)) {i : Nat} (hi : i < n) : ∃ ad x, A = some ad ∧ xs[i]? = some x ∧ w.cell? (ad.add i) = some (.bool x) := by
  obtain ⟨ad, v, h1, h2, h3⟩ := h.at_ hi
  rw [List.getElem?_map] at h2
  cases hx : xs[i]? with
  | none => rw [hx] at h2; simp at h2
  | some x => rw [hx] at h2; simp at h2; subst h2; exact ⟨ad, x, h1, rfl, h3⟩
end Go.Proofs.Ytgbojkbhkjameaa
namespace Go.Proofs.Ytgbojkbhkjameaa
open Go.RowKit
set_option linter.unusedVariables false
set_option maxRecDepth 100000
/-- a type stored, cell by cell. -/
theorem tcs_set (t : TT) : ∀ (ts : List TT) (i : Nat), (((tcs ts).set (i * 3) (.int .i32 t.1)).set (i * 3 + 1) (.bool t.2.1)).set (i * 3 + 2) (.int .u8 t.2.2) = tcs (ts.set i t)
  | [], i => by simp [tcs]
  | a :: l, 0 => by simp [tcs, tc]
  | a :: l, i + 1 => by
    have ih := tcs_set t l i
    unfold tcs at ih ⊢
    rw [List.set_cons_succ, List.flatMap_cons, List.flatMap_cons, ← ih, show (i + 1) * 3 = i * 3 + 3 by omega]
    rfl
/-- a data block: times, types' indices, types, designations, leap seconds, standard and UT indicators. -/
structure Bk where
  ti : List Int
  ix : List Int
  ty : List TT
  ch : List Int
  lp : List LP
  sd : List Bool
  ut : List Bool
def Bk.zero : Bk := ⟨[], [], [], [], [], [], []⟩
def I64 (v : Int) : Prop := -9223372036854775808 ≤ v ∧ v < 9223372036854775808
structure Bk.ok (b : Bk) : Prop where
  ti : ∀ v ∈ b.ti, -9223372036854775808 ≤ v ∧ v < 9223372036854775808
  ix : Bytes b.ix
  ty : ∀ t ∈ b.ty, ttOk t
  ch : Bytes b.ch
  lp : ∀ t ∈ b.lp, lpOk t
theorem Bk.zero_ok : Bk.zero.ok := ⟨fun v h => by simp [Bk.zero] at h, bytes_of_mem (by simp [Bk.zero]), fun v h => by simp [Bk.zero] at h, bytes_of_mem (by simp [Bk.zero]), fun v h => by simp [Bk.zero] at h⟩
/-- the same elements in every field. -/
def beqB (a b : Bk) : Bool := decide (a.ti = b.ti) && decide (a.ix = b.ix) && decide (a.ty = b.ty) && decide (a.ch = b.ch) && decide (a.lp = b.lp) && decide (a.sd = b.sd) && decide (a.ut = b.ut)
theorem beqB_iff (a b : Bk) : beqB a b = true ↔ a = b := by
  obtain ⟨a1, a2, a3, a4, a5, a6, a7⟩ := a
  obtain ⟨b1, b2, b3, b4, b5, b6, b7⟩ := b
  simp [beqB, and_assoc]
theorem beqB_self (a : Bk) : beqB a a = true := (beqB_iff a a).2 rfl
/-- the bytes. -/
def encB (k : Nat) (b : Bk) : List Int := eT k b.ti ++ (b.ix ++ (eTT b.ty ++ (b.ch ++ (eLP k b.lp ++ (eI b.sd ++ eI b.ut)))))
/-- how many bytes the counts ask for. -/
def tot (k a b c d x y : Nat) : Nat := k * d + d + x * 6 + y + c * (k + 4) + b + a
/-- the counts' sections, one after another. -/
def sec (k a b c d x y : Nat) (l : List Int) (p i : Nat) : List Int := match i with
  | 0 => fld l p (k * d)
  | 1 => fld l (p + k * d) d
  | 2 => fld l (p + k * d + d) (x * 6)
  | 3 => fld l (p + k * d + d + x * 6) y
  | 4 => fld l (p + k * d + d + x * 6 + y) (c * (k + 4))
  | 5 => fld l (p + k * d + d + x * 6 + y + c * (k + 4)) b
  | _ => fld l (p + k * d + d + x * 6 + y + c * (k + 4) + b) a
def decBk (k a b c d x y : Nat) (l : List Int) (p : Nat) : Bk :=
  ⟨dT k (sec k a b c d x y l p 0) d, sec k a b c d x y l p 1, dTT (sec k a b c d x y l p 2) x, sec k a b c d x y l p 3, dLP k (sec k a b c d x y l p 4) c, dI (sec k a b c d x y l p 5), dI (sec k a b c d x y l p 6)⟩
def flB (k a b c d x y : Nat) (l : List Int) (p : Nat) : Bool := fl6 (sec k a b c d x y l p 2) x && fI (sec k a b c d x y l p 5) && fI (sec k a b c d x y l p 6)
/-- the block, the cursor's position, its error and the error's place. -/
def decB (k a b c d x y : Nat) (l : List Int) (p : Nat) (at_ : Int) : Bk × Int × Int × Int :=
  if l.length < p + tot k a b c d x y then (Bk.zero, p, 1, l.length)
  else if flB k a b c d x y l p then (decBk k a b c d x y l p, ((p + tot k a b c d x y : Nat) : Int), 0, 0)
  else (Bk.zero, ((p + tot k a b c d x y : Nat) : Int), 10, at_)
/-- a block whose bytes give it back. -/
structure Bk.fit (k : Nat) (b : Bk) : Prop where
  len : b.ti.length = b.ix.length
  ti : fT k b.ti = true
  lp : lfit k b.lp = true
def totB (k : Nat) (b : Bk) : Nat := tot k b.ut.length b.sd.length b.lp.length b.ti.length b.ty.length b.ch.length
theorem encB_len (k : Nat) (b : Bk) (h : b.ti.length = b.ix.length) : (encB k b).length = totB k b := by
  unfold encB totB tot
  simp only [List.length_append, eT_len, eTT_len, eLP_len, eI_len]
  omega
theorem fld_mid (u s r : List Int) {n : Nat} (hn : n = s.length) : fld (u ++ (s ++ r)) u.length n = s := by
  subst hn
  unfold fld
  rw [List.drop_left, List.take_left]
theorem fld_mid' (u s r : List Int) {n o : Nat} (ho : o = u.length) (hn : n = s.length) : fld (u ++ (s ++ r)) o n = s := by
  subst ho
  exact fld_mid u s r hn
/-- the sections of a block's bytes. -/
theorem sec_enc {k : Nat} {b : Bk} (h : b.ti.length = b.ix.length) (u r : List Int) : ∀ i, i ≤ 6 →
    sec k b.ut.length b.sd.length b.lp.length b.ti.length b.ty.length b.ch.length (u ++ (encB k b ++ r)) u.length i =
      match i with | 0 => eT k b.ti | 1 => b.ix | 2 => eTT b.ty | 3 => b.ch | 4 => eLP k b.lp | 5 => eI b.sd | _ => eI b.ut := by
  intro i hi
  unfold encB
  simp only [List.append_assoc]
  have l0 := eT_len k b.ti
  have l2 := eTT_len b.ty
  have l4 := eLP_len k b.lp
  have l5 := eI_len b.sd
  have l6 := eI_len b.ut
  rcases (show i = 0 ∨ i = 1 ∨ i = 2 ∨ i = 3 ∨ i = 4 ∨ i = 5 ∨ i = 6 by omega) with rfl | rfl | rfl | rfl | rfl | rfl | rfl
  · unfold sec; exact fld_mid' u (eT k b.ti) _ rfl (by omega)
  · have := fld_mid' (o := u.length + k * b.ti.length) (n := b.ti.length) (u ++ eT k b.ti) b.ix (eTT b.ty ++ (b.ch ++ (eLP k b.lp ++ (eI b.sd ++ (eI b.ut ++ r))))) (by simp only [List.length_append]; omega) (by omega)
    unfold sec
    simpa only [List.append_assoc] using this
  · have := fld_mid' (o := u.length + k * b.ti.length + b.ti.length) (n := b.ty.length * 6) (u ++ eT k b.ti ++ b.ix) (eTT b.ty) (b.ch ++ (eLP k b.lp ++ (eI b.sd ++ (eI b.ut ++ r)))) (by simp only [List.length_append]; omega) (by omega)
    unfold sec
    simpa only [List.append_assoc] using this
  · have := fld_mid' (o := u.length + k * b.ti.length + b.ti.length + b.ty.length * 6) (n := b.ch.length) (u ++ eT k b.ti ++ b.ix ++ eTT b.ty) b.ch (eLP k b.lp ++ (eI b.sd ++ (eI b.ut ++ r))) (by simp only [List.length_append]; omega) rfl
    unfold sec
    simpa only [List.append_assoc] using this
  · have := fld_mid' (o := u.length + k * b.ti.length + b.ti.length + b.ty.length * 6 + b.ch.length) (n := b.lp.length * (k + 4)) (u ++ eT k b.ti ++ b.ix ++ eTT b.ty ++ b.ch) (eLP k b.lp) (eI b.sd ++ (eI b.ut ++ r)) (by simp only [List.length_append]; omega) (by omega)
    unfold sec
    simpa only [List.append_assoc] using this
  · have := fld_mid' (o := u.length + k * b.ti.length + b.ti.length + b.ty.length * 6 + b.ch.length + b.lp.length * (k + 4)) (n := b.sd.length) (u ++ eT k b.ti ++ b.ix ++ eTT b.ty ++ b.ch ++ eLP k b.lp) (eI b.sd) (eI b.ut ++ r) (by simp only [List.length_append]; omega) (by omega)
    unfold sec
    simpa only [List.append_assoc] using this
  · have := fld_mid' (o := u.length + k * b.ti.length + b.ti.length + b.ty.length * 6 + b.ch.length + b.lp.length * (k + 4) + b.sd.length) (n := b.ut.length) (u ++ eT k b.ti ++ b.ix ++ eTT b.ty ++ b.ch ++ eLP k b.lp ++ eI b.sd) (eI b.ut) r (by simp only [List.length_append]; omega) (by omega)
    unfold sec
    simpa only [List.append_assoc] using this
/-- decoding the encoding. -/
theorem decB_enc {k : Nat} (hk : k = 4 ∨ k = 8) {b : Bk} (hb : b.ok) (hf : b.fit k) (u r : List Int) (at_ : Int) :
    decB k b.ut.length b.sd.length b.lp.length b.ti.length b.ty.length b.ch.length (u ++ (encB k b ++ r)) u.length at_ = (b, ((u.length + totB k b : Nat) : Int), 0, 0) := by
  have hs := sec_enc (k := k) hf.len u r
  have h0 := hs 0 (by omega)
  have h1 := hs 1 (by omega)
  have h2 := hs 2 (by omega)
  have h3 := hs 3 (by omega)
  have h4 := hs 4 (by omega)
  have h5 := hs 5 (by omega)
  have h6 := hs 6 (by omega)
  simp only at h0 h1 h2 h3 h4 h5 h6
  have hl : (u ++ (encB k b ++ r)).length = u.length + (totB k b + r.length) := by rw [List.length_append, List.length_append, encB_len k b hf.len]
  unfold decB
  rw [if_neg (by rw [hl]; unfold totB; omega)]
  have e2 := dTT_e hb.ty
  have hfl : flB k b.ut.length b.sd.length b.lp.length b.ti.length b.ty.length b.ch.length (u ++ (encB k b ++ r)) u.length = true := by
    unfold flB
    rw [h2, h5, h6, e2.2, fI_e, fI_e]
    rfl
  rw [if_pos hfl]
  have hd : decBk k b.ut.length b.sd.length b.lp.length b.ti.length b.ty.length b.ch.length (u ++ (encB k b ++ r)) u.length = b := by
    unfold decBk
    rw [h0, h1, h2, h3, h4, h5, h6, (dT_eT hk b.ti hb.ti).2 hf.ti, e2.1, (dLP_e hk hb.lp).2 hf.lp, dI_e, dI_e]
  rw [hd]
  rfl
/-- what decoding gives. -/
theorem sec_len (k a b c d x y : Nat) (l : List Int) (p : Nat) (h : p + tot k a b c d x y ≤ l.length) :
    (sec k a b c d x y l p 0).length = k * d ∧ (sec k a b c d x y l p 1).length = d ∧ (sec k a b c d x y l p 2).length = x * 6 ∧ (sec k a b c d x y l p 3).length = y ∧
    (sec k a b c d x y l p 4).length = c * (k + 4) ∧ (sec k a b c d x y l p 5).length = b ∧ (sec k a b c d x y l p 6).length = a := by
  unfold tot at h
  refine ⟨fld_len _ _ _ ?_, fld_len _ _ _ ?_, fld_len _ _ _ ?_, fld_len _ _ _ ?_, fld_len _ _ _ ?_, fld_len _ _ _ ?_, fld_len _ _ _ ?_⟩ <;> omega
theorem sec_bytes (k a b c d x y : Nat) {l : List Int} (hl : Bytes l) (p i : Nat) : Bytes (sec k a b c d x y l p i) := by
  unfold sec
  split <;> exact fld_bytes hl _ _
theorem decBk_ok {k : Nat} (hk : k = 4 ∨ k = 8) (a b c d x y : Nat) {l : List Int} (hl : Bytes l) (p : Nat) (h : p + tot k a b c d x y ≤ l.length) : (decBk k a b c d x y l p).ok ∧ (decBk k a b c d x y l p).fit k := by
  obtain ⟨h0, h1, h2, h3, h4, h5, h6⟩ := sec_len k a b c d x y l p h
  have b0 := dT_bd hk _ (sec_bytes k a b c d x y hl p 0) d (by rw [h0]; exact Nat.le_of_eq (Nat.mul_comm _ _))
  have b4 := dLP_ok hk _ (sec_bytes k a b c d x y hl p 4) c (Nat.le_of_eq h4.symm)
  refine ⟨⟨b0.2, sec_bytes k a b c d x y hl p 1, dTT_ok _ (sec_bytes k a b c d x y hl p 2) x (Nat.le_of_eq h2.symm), sec_bytes k a b c d x y hl p 3, fun t ht => (b4 t ht).1⟩, ⟨?_, b0.1, ?_⟩⟩
  · show (dT k _ d).length = (sec k a b c d x y l p 1).length
    rw [dT_len, h1]
  · show lfit k (dLP k _ c) = true
    unfold lfit
    rw [List.all_eq_true]
    exact fun t ht => (b4 t ht).2
theorem decBk_len (k a b c d x y : Nat) (l : List Int) (p : Nat) (h : p + tot k a b c d x y ≤ l.length) :
    (decBk k a b c d x y l p).ti.length = d ∧ (decBk k a b c d x y l p).ix.length = d ∧ (decBk k a b c d x y l p).ty.length = x ∧ (decBk k a b c d x y l p).ch.length = y ∧
    (decBk k a b c d x y l p).lp.length = c ∧ (decBk k a b c d x y l p).sd.length = b ∧ (decBk k a b c d x y l p).ut.length = a := by
  obtain ⟨h0, h1, h2, h3, h4, h5, h6⟩ := sec_len k a b c d x y l p h
  exact ⟨dT_len _ _ _, h1, dTT_len _ _, h3, dLP_len _ _ _, (dI_len _).trans h5, (dI_len _).trans h6⟩
/-- encoding what was decoded. -/
theorem encB_dec {k : Nat} (hk : k = 4 ∨ k = 8) (a b c d x y : Nat) {l : List Int} (hl : Bytes l) (p : Nat) (h : p + tot k a b c d x y ≤ l.length) (hf : flB k a b c d x y l p = true) :
    encB k (decBk k a b c d x y l p) = fld l p (tot k a b c d x y) := by
  obtain ⟨h0, h1, h2, h3, h4, h5, h6⟩ := sec_len k a b c d x y l p h
  unfold flB at hf
  simp only [Bool.and_eq_true] at hf
  obtain ⟨⟨f2, f5⟩, f6⟩ := hf
  have e0 : eT k (dT k (sec k a b c d x y l p 0) d) = sec k a b c d x y l p 0 := by
    rw [eT_dT hk _ (sec_bytes k a b c d x y hl p 0) d (by rw [h0]; exact Nat.le_of_eq (Nat.mul_comm _ _)), List.take_of_length_le (by rw [h0]; exact Nat.le_of_eq (Nat.mul_comm _ _))]
  have e2 : eTT (dTT (sec k a b c d x y l p 2) x) = sec k a b c d x y l p 2 := by
    rw [eTT_d _ (sec_bytes k a b c d x y hl p 2) x (Nat.le_of_eq h2.symm) f2, List.take_of_length_le (Nat.le_of_eq h2)]
  have e4 : eLP k (dLP k (sec k a b c d x y l p 4) c) = sec k a b c d x y l p 4 := by
    rw [eLP_d hk _ (sec_bytes k a b c d x y hl p 4) c (Nat.le_of_eq h4.symm), List.take_of_length_le (Nat.le_of_eq h4)]
  have e5 := eI_d f5 (fun v hv => ((sec_bytes k a b c d x y hl p 5).mem v hv).1)
  have e6 := eI_d f6 (fun v hv => ((sec_bytes k a b c d x y hl p 6).mem v hv).1)
  unfold encB decBk
  dsimp only
  rw [e0, e2, e4, e5, e6]
  unfold tot
  rw [show k * d + d + x * 6 + y + c * (k + 4) + b + a = k * d + (d + (x * 6 + (y + (c * (k + 4) + (b + a))))) by omega, fld_two, fld_two, fld_two, fld_two, fld_two, fld_two]
  rfl
end Go.Proofs.Ytgbojkbhkjameaa
