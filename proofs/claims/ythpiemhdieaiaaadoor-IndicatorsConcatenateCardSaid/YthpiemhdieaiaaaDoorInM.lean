/-
  PLAIN MATHEMATICS of indicator arrays (layer 18), and a slice of bools that came in. No program.
-/
import Derived.Test.YthpiemhdieaiaaaDoorBase
namespace Go.Proofs.YthpiemhdieaiaaaDoor
open Go.RowKit
set_option linter.unusedVariables false
abbrev bls (bs : List Bool) : List Value := bs.map Value.bool
/-- the bytes of an array; the array of bytes; are they flags? -/
def eB (b : Bool) : Int := if b then 1 else 0
def eI (bs : List Bool) : List Int := bs.map eB
def dI (l : List Int) : List Bool := l.map fun x => decide (x = 1)
def fI (l : List Int) : Bool := l.all fun x => decide (x ≤ 1)
theorem eI_len (bs : List Bool) : (eI bs).length = bs.length := List.length_map ..
theorem dI_len (l : List Int) : (dI l).length = l.length := List.length_map ..
theorem eB_bd (b : Bool) : 0 ≤ eB b ∧ eB b ≤ 1 := by cases b <;> decide
theorem eB_1 (b : Bool) : decide (eB b = 1) = b := by cases b <;> decide
theorem eI_bd (bs : List Bool) : ∀ x ∈ eI bs, 0 ≤ x ∧ x ≤ 1 := fun x hx => by
  obtain ⟨b, _, rfl⟩ := List.mem_map.1 hx
  exact eB_bd b
theorem fI_e (bs : List Bool) : fI (eI bs) = true := List.all_eq_true.2 fun x hx => decide_eq_true (eI_bd bs x hx).2
theorem dI_e (bs : List Bool) : dI (eI bs) = bs := by
  unfold dI eI
  rw [List.map_map]
  conv => rhs; rw [← List.map_id bs]
  exact List.map_congr_left fun b _ => eB_1 b
theorem eI_d {l : List Int} (h : fI l = true) (h0 : ∀ x ∈ l, 0 ≤ x) : eI (dI l) = l := by
  unfold dI eI
  rw [List.map_map]
  conv => rhs; rw [← List.map_id l]
  refine List.map_congr_left fun x hx => ?_
  have h1 := List.all_eq_true.1 h x hx
  have h2 := h0 x hx
  simp only [decide_eq_true_eq] at h1
  show eB (decide (x = 1)) = x
  by_cases e : x = 1
  · rw [decide_eq_true e, e]; rfl
  · rw [decide_eq_false e]; show (0 : Int) = x; omega
theorem eI_inj {a b : List Bool} : eI a = eI b ↔ a = b := ⟨fun h => by rw [← dI_e a, h, dI_e], fun h => by rw [h]⟩
theorem eI_app (a b : List Bool) : eI (a ++ b) = eI a ++ eI b := List.map_append
theorem fI_step {l : List Int} {k : Nat} {x : Int} (h : l[k]? = some x) : fI (l.take (k + 1)) = (fI (l.take k) && decide (x ≤ 1)) := by
  unfold fI
  rw [List.take_add_one, h, List.all_append]
  simp
theorem dI_step {l : List Int} {k : Nat} {x : Int} (h : l[k]? = some x) : dI (l.take (k + 1)) = dI (l.take k) ++ [decide (x = 1)] := by
  unfold dI
  rw [List.take_add_one, h, List.map_append]
  rfl
theorem eI_step {l : List Bool} {k : Nat} {b : Bool} (h : l[k]? = some b) : eI (l.take (k + 1)) = eI (l.take k) ++ [eB b] := by
  unfold eI
  rw [List.take_add_one, h, List.map_append]
  rfl
/-- one byte stored. -/
theorem fI_set {l : List Int} (h : fI l = true) {k : Nat} (hk : k < l.length) (c : Int) : fI (l.set k c) = decide (c ≤ 1) := by
  unfold fI at h ⊢
  rw [List.all_eq_true] at h
  rw [Bool.eq_iff_iff, List.all_eq_true]
  constructor
  · intro h'
    exact h' c (List.mem_set hk c)
  · intro h' x hx
    rcases List.mem_or_eq_of_mem_set hx with h1 | rfl
    · exact h x h1
    · exact h'
/-- at an index: a set indicator. -/
def bg (l : List Bool) (i : Nat) : Bool := l[i]?.getD false
theorem bg_at {l : List Bool} {i : Nat} {b : Bool} (h : l[i]? = some b) : bg l i = b := by unfold bg; rw [h]; rfl
theorem bg_out {l : List Bool} {i : Nat} (h : l.length ≤ i) : bg l i = false := by unfold bg; rw [List.getElem?_eq_none h]; rfl
/-- the pair is consistent, up to index n. -/
def cnN (std ut : List Bool) (n : Nat) : Bool := (List.range n).all fun i => !bg ut i || bg std i
def cn (std ut : List Bool) : Bool := cnN std ut ut.length
theorem cnN_step (std ut : List Bool) (n : Nat) : cnN std ut (n + 1) = (cnN std ut n && (!bg ut n || bg std n)) := by unfold cnN; rw [List.range_succ, List.all_append]; simp
theorem cn_iff (std ut : List Bool) : cn std ut = true ↔ ∀ i, bg ut i = true → bg std i = true := by
  unfold cn cnN
  rw [List.all_eq_true]
  constructor
  · intro h i hi
    have hl : i < ut.length := by
      rcases Nat.lt_or_ge i ut.length with h' | h'
      · exact h'
      · rw [bg_out h'] at hi; cases hi
    have := h i (List.mem_range.2 hl)
    rw [hi] at this
    simpa using this
  · intro h i _
    cases hb : bg ut i
    · rfl
    · rw [h i hb]; rfl
theorem cn_no {std ut : List Bool} {n : Nat} (hn : n < ut.length) (hu : bg ut n = true) (hs : bg std n = false) : cn std ut = false := by
  rw [← Bool.not_eq_true, cn_iff]
  intro h
  rw [h n hu] at hs
  cases hs
theorem cn_self (u : List Bool) : cn u u = true := (cn_iff u u).2 fun _ h => h
theorem bg_rep (n i : Nat) : bg (List.replicate n false) i = false := by
  unfold bg
  rw [List.getElem?_replicate]
  split <;> rfl
theorem cn_none (s : List Bool) (n : Nat) : cn s (List.replicate n false) = true := (cn_iff _ _).2 fun i h => by rw [bg_rep] at h; cases h
theorem cn_nil (s : List Bool) : cn s [] = true := rfl
theorem bg_set (l : List Bool) (k i : Nat) (b : Bool) : bg (l.set k b) i = if k = i ∧ k < l.length then b else bg l i := by
  unfold bg
  rw [List.getElem?_set]
  by_cases h : k = i
  · subst h
    by_cases h' : k < l.length
    · simp [h']
    · simp [h']
  · simp [h]
theorem cn_more {s u : List Bool} (h : cn s u = true) (k : Nat) : cn (s.set k true) u = true := (cn_iff _ _).2 fun i hi => by
  rw [bg_set]
  split
  · rfl
  · exact (cn_iff s u).1 h i hi
theorem cn_less {s u : List Bool} (h : cn s u = true) (k : Nat) : cn s (u.set k false) = true := (cn_iff _ _).2 fun i hi => by
  rw [bg_set] at hi
  split at hi
  · cases hi
  · exact (cn_iff s u).1 h i hi
theorem cn_longer {s u : List Bool} (h : cn s u = true) (b : Bool) : cn (s ++ [b]) u = true := (cn_iff _ _).2 fun i hi => by
  have := (cn_iff s u).1 h i hi
  unfold bg at this ⊢
  rcases Nat.lt_or_ge i s.length with h' | h'
  · rw [List.getElem?_append_left h']
    exact this
  · rw [List.getElem?_eq_none h'] at this
    cases this
/-- a slice of bools that came in. -/
def IsBw (w : World) (a : Option Addr) (len cap : Nat) (bs : List Bool) : Prop :=
  (a = none → len = 0 ∧ cap = 0) ∧ len ≤ cap ∧ cap ≤ 9223372036854775807 ∧ Rd w a len (bls bs)
theorem IsBw.len {w : World} {a : Option Addr} {len cap : Nat} {bs : List Bool} (h : IsBw w a len cap bs) : bs.length = len := by have := h.2.2.2.len; simpa using this
theorem rb_at {w : World} {A : Option Addr} {n : Nat} {xs : List Bool} (h : Rd w A n (bls xs)) {i : Nat} (hi : i < n) : ∃ ad x, A = some ad ∧ xs[i]? = some x ∧ w.cell? (ad.add i) = some (.bool x) := by
  obtain ⟨ad, v, h1, h2, h3⟩ := h.at_ hi
  rw [List.getElem?_map] at h2
  cases hx : xs[i]? with
  | none => rw [hx] at h2; simp at h2
  | some x => rw [hx] at h2; simp at h2; subst h2; exact ⟨ad, x, h1, rfl, h3⟩
end Go.Proofs.YthpiemhdieaiaaaDoor
