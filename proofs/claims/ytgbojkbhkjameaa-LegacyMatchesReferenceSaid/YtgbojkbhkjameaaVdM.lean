/-
  PLAIN MATHEMATICS of valid data blocks (layer 20): the first rule that a block breaks; which changes keep a block valid. No program.
-/
import Derived.Test.YtgbojkbhkjameaaBlM
import Derived.Test.YtgbojkbhkjameaaDsMath
namespace Go.Proofs.Ytgbojkbhkjameaa
open Go.RowKit
set_option linter.unusedVariables false
set_option maxRecDepth 100000
/-- the counts. -/
def cntOk (b : Bk) : Bool := decide (b.ix.length = b.ti.length) && !decide (b.ty.length = 0) && !decide (b.ch.length = 0) && (decide (b.sd.length = 0) || decide (b.sd.length = b.ty.length)) && (decide (b.ut.length = 0) || decide (b.ut.length = b.ty.length))
/-- the types' indices. -/
def ixOk (n : Nat) (l : List Int) : Bool := l.all fun v => decide (v < (n : Int))
/-- the number of the first broken rule's error; 0: valid. -/
def vB (b : Bk) (four : Bool) (k : Nat) : Int :=
  if cntOk b = false then 6 else if fT k b.ti = false then 18 else if lfit k b.lp = false then 18 else if desc b.ti ≠ -1 then 7 else if ixOk b.ty.length b.ix = false then 8
  else if chk b.ty b.ch.length ≠ 0 then chk b.ty b.ch.length else if badL b.ch ≠ -1 then 11 else if vL b.lp four = false then 12 else if cn b.sd b.ut = false then 13 else 0
theorem lf_step (k : Nat) (ts : List LP) (i : Nat) (t : LP) (h : ts[i]? = some t) : lfit k (ts.take (i + 1)) = (lfit k (ts.take i) && fitsB k t.1) := by
  unfold lfit
  rw [List.take_add_one, h, List.all_append]
  simp
theorem lf_no {k : Nat} {ts : List LP} {i : Nat} {t : LP} (h : ts[i]? = some t) (hf : fitsB k t.1 = false) : lfit k ts = false := by
  rw [← Bool.not_eq_true]
  intro e
  have := List.all_eq_true.1 e t (List.mem_of_getElem? h)
  rw [hf] at this
  cases this
theorem ix_step (n : Nat) (l : List Int) (i : Nat) (x : Int) (h : l[i]? = some x) : ixOk n (l.take (i + 1)) = (ixOk n (l.take i) && decide (x < (n : Int))) := by
  unfold ixOk
  rw [List.take_add_one, h, List.all_append]
  simp
theorem ix_no {n : Nat} {l : List Int} {i : Nat} {x : Int} (h : l[i]? = some x) (hf : (n : Int) ≤ x) : ixOk n l = false := by
  rw [← Bool.not_eq_true]
  intro e
  have := List.all_eq_true.1 e x (List.mem_of_getElem? h)
  simp at this
  omega
structure BOk (b : Bk) (four : Bool) (k : Nat) : Prop where
  cnt : cntOk b = true
  ti : fT k b.ti = true
  lf : lfit k b.lp = true
  asc : desc b.ti = -1
  ix : ixOk b.ty.length b.ix = true
  ty : chk b.ty b.ch.length = 0
  ch : badL b.ch = -1
  lp : vL b.lp four = true
  cn : cn b.sd b.ut = true
theorem vB_iff (b : Bk) (four : Bool) (k : Nat) : vB b four k = 0 ↔ BOk b four k := by
  unfold vB
  constructor
  · intro h
    repeat' (split at h; first | (exfalso; revert h; decide) | (exfalso; omega) | skip)
    rename_i h1 h2 h3 h4 h5 h6 h7 h8 h9
    exact ⟨by simpa using h1, by simpa using h2, by simpa using h3, by simpa using h4, by simpa using h5, by simpa using h6, by simpa using h7, by simpa using h8, by simpa using h9⟩
  · rintro ⟨h1, h2, h3, h4, h5, h6, h7, h8, h9⟩
    simp [h1, h2, h3, h4, h5, h6, h7, h8, h9]
theorem BOk.le4 {b : Bk} {k : Nat} (h : BOk b false k) (four : Bool) : BOk b four k := by
  cases four
  · exact h
  · exact ⟨h.cnt, h.ti, h.lf, h.asc, h.ix, h.ty, h.ch, vL_34 h.lp, h.cn⟩
theorem lfit_8 {ts : List LP} (h : ∀ t ∈ ts, lpOk t) : lfit 8 ts = true := by
  unfold lfit fitsB
  rw [List.all_eq_true]
  intro t ht
  simp
theorem BOk.wide {b : Bk} {four : Bool} {k : Nat} (h : BOk b four k) (hb : b.ok) : BOk b four 8 := ⟨h.cnt, fT_8 _, lfit_8 hb.lp, h.asc, h.ix, h.ty, h.ch, h.lp, h.cn⟩
/-- without indicators. -/
theorem BOk.bare {b : Bk} {four : Bool} {k : Nat} (h : BOk b four k) : BOk ⟨b.ti, b.ix, b.ty, b.ch, b.lp, [], []⟩ four k := by
  have hc := h.cnt
  refine ⟨?_, h.ti, h.lf, h.asc, h.ix, h.ty, h.ch, h.lp, rfl⟩
  unfold cntOk at hc ⊢
  simp at hc ⊢
  exact hc.1.1
theorem vL_take' {ts : List LP} {four : Bool} (h : vL ts four = true) {k : Nat} (hk : k < ts.length) : vL (ts.take k) four = true := by
  cases four
  · refine vL_of fun i hi => ?_
    rw [List.length_take] at hi
    have hik : i < k := by omega
    have := vL_at h (show i < ts.length by omega)
    cases i with
    | zero => simp only [okL] at this ⊢; rw [la_take hik, lr_take hik]; exact this
    | succ j =>
      simp only [okL] at this ⊢
      rw [la_take hik, lr_take hik, la_take (by omega), lr_take (by omega)]
      simp at this ⊢
      exact this
  · exact vL_take h hk
theorem all_take {α : Type} {p : α → Bool} {l : List α} (h : l.all p = true) (k : Nat) : (l.take k).all p = true := by
  rw [List.all_eq_true] at h ⊢
  exact fun x hx => h x (List.mem_of_mem_take hx)
/-- without the last leap second record. -/
theorem BOk.lessLeap {b : Bk} {four : Bool} {k : Nat} (h : BOk b four k) {m : Nat} (hm : m < b.lp.length) : BOk ⟨b.ti, b.ix, b.ty, b.ch, b.lp.take m, b.sd, b.ut⟩ four k :=
  ⟨h.cnt, h.ti, all_take h.lf m, h.asc, h.ix, h.ty, h.ch, vL_take' h.lp hm, h.cn⟩
/-- without the last transition. -/
theorem BOk.lessTime {b : Bk} {four : Bool} {k : Nat} (h : BOk b four k) (m : Nat) : BOk ⟨b.ti.take m, b.ix.take m, b.ty, b.ch, b.lp, b.sd, b.ut⟩ four k := by
  have hc := h.cnt
  refine ⟨?_, all_take h.ti m, h.lf, desc_asc (asc_take (asc_of_desc h.asc) m), all_take h.ix m, h.ty, h.ch, h.lp, h.cn⟩
  unfold cntOk at hc ⊢
  simp only [Bool.and_eq_true, decide_eq_true_eq] at hc ⊢
  obtain ⟨⟨⟨⟨h1, h2⟩, h3⟩, h4⟩, h5⟩ := hc
  exact ⟨⟨⟨⟨by rw [List.length_take, List.length_take, h1], h2⟩, h3⟩, h4⟩, h5⟩
/-- with a type index that is out of range. -/
theorem BOk.badIndex {b : Bk} {four : Bool} {k : Nat} (h : BOk b four k) {ix : List Int} (hl : ix.length = b.ix.length) {v : Int} (hv : v ∈ ix) (hn : (b.ty.length : Int) ≤ v) : vB ⟨b.ti, ix, b.ty, b.ch, b.lp, b.sd, b.ut⟩ four k = 8 := by
  have hc : cntOk ⟨b.ti, ix, b.ty, b.ch, b.lp, b.sd, b.ut⟩ = true := by
    have := h.cnt
    unfold cntOk at this ⊢
    dsimp only at this ⊢
    rw [hl]
    exact this
  have hi : ixOk b.ty.length ix = false := by
    rw [← Bool.not_eq_true]
    intro e
    have := List.all_eq_true.1 e v hv
    simp at this
    omega
  unfold vB
  simp only [hc, h.ti, h.lf, h.asc, hi]
  simp
end Go.Proofs.Ytgbojkbhkjameaa
